/- What the listed package-level variables give: the table of powers of ten, and the two errors of strconv. -/
import Derived.Test.YtikgcogiiohahaaGreatDoorRows
import Derived.Deep.OwnRows
import Derived.Test.YtikgcogiiohahaaGreatDoorVecIt
import Derived.Test.YtikgcogiiohahaaGreatDoorVecStrI
import Derived.Test.YtikgcogiiohahaaGreatDoorNumMake
import Derived.Test.YtikgcogiiohahaaGreatDoorRegV
import Derived.Test.YtikgcogiiohahaaGreatDoorVecImA
import Derived.Test.YtikgcogiiohahaaGreatDoorVecIs
import Derived.Test.YtikgcogiiohahaaGreatDoorReg
import Derived.Test.YtikgcogiiohahaaGreatDoorVecSz
import Derived.Test.YtikgcogiiohahaaGreatDoorTextMath
import Derived.Test.YtikgcogiiohahaaGreatDoorVecMath
import Derived.LaidMore
import Derived.Stop.LaidErr
import Derived.Lib.LaidTab
import Derived.Lib.ItoaNum
import Derived.MakeChecks
import Derived.KernelRfl
import Derived.WalkSmall
import Derived.WalkKit
import Derived.Lib.Hide
import Derived.WalkSpells
import Derived.WalkLawsBesides
import Derived.IntWalk
import Derived.Deep.QuietTactic
import Derived.BigQuiet
import Derived.Lib.SmallJoins
import Derived.Below
import Derived.Laws.AppendOwn
import Derived.Great.BuildSlice
import Derived.OwnWalk
import Derived.Lib.ItoaMem
import Derived.Lib.ItoaLen
import Derived.Laws.Strings
import Derived.Deep.RegionHeld3
import Derived.ChangeSlices
import Derived.ProofKit
import Derived.OpenShut
namespace Go.Proofs.YtikgcogiiohahaaGreatDoor
set_option maxRecDepth 100000
open Go.RowKit Go.ChangeShapes

theorem gPow : Tryz.prog.globalNamed "internal/strconv.uint64pow10" = some 0 := by kernel_rfl
theorem gPowType : (Tryz.prog.globals[0]?).map (·.type) = some 103 := by kernel_rfl
theorem cellsTab : Tryz.prog.cellsOf 103 = 20 := by kernel_rfl
theorem cellsU64 : Tryz.prog.cellsOf 97 = 1 := by kernel_rfl
theorem powData : (Rows.laid_internal_strconv_uint64pow10 : DataW Unit) = Lib.tabData .u64 Lib.pow10Tab := by kernel_rfl
theorem var_lt {P : Program} {W : World} {n : String} {g : Nat} {cs : Array Value} (hg : P.globalNamed n = some g) (h : W.var? P n = some cs) : g < W.heap.size := by
  unfold World.var? at h
  simp only [hg, Option.bind_some] at h
  rcases Nat.lt_or_ge g W.heap.size with h' | h'
  · exact h'
  · simp [Array.getElem?_eq_none h'] at h
theorem tab_below {w w1 : World} (h : Lib.TabIs Tryz.prog w "internal/strconv.uint64pow10" .u64 Lib.pow10Tab) (hb : Below w.heap.size w w1) : Lib.TabIs Tryz.prog w1 "internal/strconv.uint64pow10" .u64 Lib.pow10Tab := var?_below hb gPow (var_lt gPow h) h
end Go.Proofs.YtikgcogiiohahaaGreatDoor

/- The table of powers of ten, as a row of three variables lists it. -/
namespace Go.Proofs.YtikgcogiiohahaaGreatDoor
set_option maxRecDepth 100000
open Go.RowKit Go.ChangeShapes

theorem powOf {a b : String × DataW Unit} {rest : List (String × DataW Unit)} {W : World} (h : laidMet Tryz.prog (a :: b :: ("internal/strconv.uint64pow10", Rows.laid_internal_strconv_uint64pow10) :: rest) W) :
    Lib.TabIs Tryz.prog W "internal/strconv.uint64pow10" .u64 Lib.pow10Tab := by
  have h2 := h.tail.tail
  rw [powData] at h2
  exact Lib.tabIs_of_head (rest := rest) gPow gPowType Tryz.underlying103 Tryz.underlying97 cellsU64 cellsTab h2
end Go.Proofs.YtikgcogiiohahaaGreatDoor

/- The program's tests of a vector's fields, besides its parts. -/
namespace Go.Proofs.YtikgcogiiohahaaGreatDoor
open Go.RowKit
set_option maxRecDepth 100000
set_option linter.unusedVariables false

def Suits (k : Int) (x : It) : Prop := (k = 1 ∧ x.d = 1 ∧ 0 ≤ x.n ∧ x.n ≤ 1 ∧ x.t.size = 0) ∨ (k = 2 ∧ isN x = true) ∨ (k = 3 ∧ x.n = 0 ∧ x.d = 1 ∧ x.t.size ≤ 60)
theorem suits_d {k : Int} {x : It} (h : Suits k x) : x.d ≠ 0 := by
  rcases h with ⟨_, h, _⟩ | ⟨_, h⟩ | ⟨_, _, h, _⟩
  · omega
  · have := (isN_iff.1 h).2.1; omega
  · omega
theorem suitsNo_of {k : Int} {x : It} (h1 : k = 1 → ¬ (x.d = 1 ∧ 0 ≤ x.n ∧ x.n ≤ 1 ∧ x.t.size = 0)) (h2 : k = 2 → isN x = false) (h3 : k = 3 → ¬ (x.n = 0 ∧ x.d = 1 ∧ x.t.size ≤ 60)) : ¬ Suits k x := by
  rintro (⟨e, h⟩ | ⟨e, h⟩ | ⟨e, h⟩)
  · exact h1 e h
  · rw [h2 e] at h; cases h
  · exact h3 e h
theorem isN_one {n : Int} {t : ByteArray} (h0 : 0 ≤ n) (h1 : n ≤ 1) : isN ⟨n, 1, t⟩ = decide (t.size = 0) := by
  unfold isN
  have : Int.gcd n 1 = 1 := by simp
  simp only [this]
  by_cases h : t.size = 0
  · rw [decide_eq_true h]; exact decide_eq_true ⟨h, by omega, by omega, by omega, by omega, trivial⟩
  · rw [decide_eq_false h]; exact decide_eq_false (fun h' => h h'.1)
theorem eql_txt_no {w' : World} {n d : Int} {t : ByteArray} {X Y : Operand} (h : ¬ (n = 0 ∧ d = 1)) :
    (do eqGuard .eql 45 X Y (.agg #[.int .i64 n, .int .i64 d, .string t]) (.agg #[.int .i64 0, .int .i64 1, .string t]); binOp .eql 45 (.agg #[.int .i64 n, .int .i64 d, .string t]) (.agg #[.int .i64 0, .int .i64 1, .string t]) : Sem Value).run Tryz.prog w' = .ok (.bool false) w' := by
  have hm : Tryz.prog.eqGuardType Tryz.prog.depth 45 = false := by kernel_rfl
  rw [Sem.run_bind, run_eqGuard_agg (hm := hm)]
  show (binOp .eql 45 _ _).run Tryz.prog w' = _
  rw [run_eql_struct]
  by_cases h0 : n = 0
  · have h1 : ¬ d = 1 := fun e => h ⟨h0, e⟩
    simp [go_sem, h0, h1]
  · simp [go_sem, h0]
theorem textItemAny (s : ByteArray) (w : World) :
    Calls Tryz.prog 69 #[.string s] w fun e w' => e = .returned (.agg #[.int .i64 0, .int .i64 1, .string s]) ∧ Below w.heap.size w w' := by
  go_enter Tryz.func69, Tryz.ntmps69
  go_wp2
  first | (exact item_ret0 rfl rfl rfl (blk_new _ _ rfl) ⟨rfl, below1 _ _⟩) | (refine item_ret rfl rfl rfl (blk_new _ _ rfl) ⟨rfl, ?_⟩; exact below_three (below1 _ _) (Nat.le_refl _) _ _ _)

set_option maxHeartbeats 4000000 in
theorem implSuits (k : Int) (x : It) (w : World) (ht : x.t.size ≤ 1048576) :
    Calls Tryz.prog 86 #[.agg #[.int .i64 x.n, .int .i64 x.d, .string x.t], .int .i64 k] w fun e w' => e = .returned (.bool (bB (Suits k x))) ∧ Below w.heap.size w w' := by
  obtain ⟨n, d, t⟩ := x
  simp only at ht ⊢
  by_cases k3 : k = 3
  · subst k3
    by_cases hne : n = 0 ∧ d = 1
    · obtain ⟨rfl, rfl⟩ := hne
      have CT := Lib.hid (fun w => textItemAny t w)
      by_cases h60 : 60 < t.size
      · have X := Lib.hid (show ¬ Suits 3 ⟨0, 1, t⟩ from suitsNo_of (by omega) (by omega) (fun _ h => by have := h.2.2; simp only at this; omega))
        have CL := Lib.hid (fun w => (by have h := implTooLong t w (by omega); rw [decide_eq_true h60] at h; exact h : Calls Tryz.prog 84 #[.string t] w fun e w' => e = .returned (.bool true) ∧ w = w'))
        clear h60
        have H := Lib.hid (heldC_one (below1 w _) (blk_new w (.cells #[.int .i64 0, .int .i64 1, .string t] 45) rfl))
        go_enter Tryz.func86, Tryz.ntmps86
        go_wp2
        refine run_region (ops := (opsOf Tryz.f86 5)) (S := fun w' => HeldC w w' ([(w.heap.size, 45, #[.int .i64 0, .int .i64 1, .string t])])) [(0, true), (1, true), (2, true), (3, false), (4, true), (5, true), (6, true), (7, true), (8, false), (9, true), (10, true), (11, true)] (by kernel_rfl) (by kernel_rfl) (by kernel_rfl) (by kernel_rfl) (by kernel_rfl) (fun _ _ _ _ _ h => h) (heldC_drew H.out) ?_
        have H := Lib.hid (heldC_drew H.out)
        refine runC_itm (b := w.heap.size) (show opAt (opsOf Tryz.f86 5) 0 = some (some 12, .load 45 (.tmp 2), none) from by kernel_rfl) (by kernel_rfl) (by kernel_rfl) (by kernel_rfl) (List.Mem.head _) ?_
        refine runC_partI (b := w.heap.size) (by kernel_rfl) (show opAt (opsOf Tryz.f86 5) 1 = some (some 13, .fieldAddr 45 (.tmp 2) 2, none) from by kernel_rfl) (by kernel_rfl) (by kernel_rfl) (by kernel_rfl) ?_
        refine runC_cell (b := w.heap.size) (j := 2) (v := .string t) load_text (show opAt (opsOf Tryz.f86 5) 2 = some (some 14, .load 9 (.tmp 13), none) from by kernel_rfl) (by kernel_rfl) (by kernel_rfl) (by kernel_rfl) (List.Mem.head _) rfl ?_
        refine run_call (args := [.string t]) (show opAt (opsOf Tryz.f86 5) 3 = some (some 15, .call { callee := .value (.func 69), args := [(.tmp 14)].toArray, argTypes := [9].toArray }, none) from by kernel_rfl) (by kernel_rfl) (by kernel_rfl) (by kernel_rfl) (by kernel_rfl) ?_
        refine (CT.out _).mono ?_
        rintro en rw1 ⟨rfl, hb⟩
        refine ⟨_, rfl, heldC_call H.out hb, ?_⟩
        have H := Lib.hid (heldC_call H.out hb)
        clear hb
        refine run_same (v := .bool true) (p := .agg #[.int .i64 0, .int .i64 1, .string t]) (q := .agg #[.int .i64 0, .int .i64 1, .string t]) (show opAt (opsOf Tryz.f86 5) 4 = some (some 16, .binOp .eql 45 (.tmp 12) (.tmp 15) 45, none) from by kernel_rfl) (by kernel_rfl) (by kernel_rfl) (by kernel_rfl) (by kernel_rfl) (fun w' => eql_item (x := ⟨0, 1, t⟩) (y := ⟨0, 1, t⟩) rfl) ?_
        refine run_mov (v := .bool true) (show opAt (opsOf Tryz.f86 5) 5 = some (some 17, .move (.tmp 16), none) from by kernel_rfl) (by kernel_rfl) (by kernel_rfl) (by kernel_rfl) ?_
        refine runC_partI (b := w.heap.size) (by kernel_rfl) (show opAt (opsOf Tryz.f86 5) 6 = some (some 18, .fieldAddr 45 (.tmp 2) 2, some (5, true)) from by kernel_rfl) (by kernel_rfl) (by kernel_rfl) (by kernel_rfl) ?_
        refine runC_cell (b := w.heap.size) (j := 2) (v := .string t) load_text (show opAt (opsOf Tryz.f86 5) 7 = some (some 19, .load 9 (.tmp 18), some (5, true)) from by kernel_rfl) (by kernel_rfl) (by kernel_rfl) (by kernel_rfl) (List.Mem.head _) rfl ?_
        refine run_call (args := [.string t]) (show opAt (opsOf Tryz.f86 5) 8 = some (some 20, .call { callee := .value (.func 84), args := [(.tmp 19)].toArray, argTypes := [9].toArray }, some (5, true)) from by kernel_rfl) (by kernel_rfl) (by kernel_rfl) (by kernel_rfl) (by kernel_rfl) ?_
        refine (CL.out _).mono ?_
        rintro en rw2 ⟨rfl, rfl⟩
        refine ⟨_, rfl, H.out, ?_⟩
        refine run_not (b := true) (show opAt (opsOf Tryz.f86 5) 9 = some (some 21, .unOp .not 4 (.tmp 20), some (5, true)) from by kernel_rfl) (by kernel_rfl) (by kernel_rfl) (by kernel_rfl) ?_
        refine run_pick (b := true) (v := .bool false) (show opAt (opsOf Tryz.f86 5) 10 = some (some 22, .pick (.tmp 17) (.tmp 21) (.const (.bool false)), none) from by kernel_rfl) (by kernel_rfl) (by kernel_rfl) (by kernel_rfl) (by kernel_rfl) ?_
        refine run_asg (v := .bool false) (show opAt (opsOf Tryz.f86 5) 11 = some (some 4, .assign (.tmp 22), none) from by kernel_rfl) (by kernel_rfl) (by kernel_rfl) (by kernel_rfl) ?_
        refine run_done ?_
        simp only [putAll, Act.put, List.setIfInBounds_toArray, List.set_cons_zero, List.set_cons_succ]
        go_wp2
        go_ret
        exact ⟨ret_no X.out, H.out.1⟩
      · have X := Lib.hid (show Suits 3 ⟨0, 1, t⟩ from .inr (.inr ⟨rfl, rfl, rfl, by simp only; omega⟩))
        have CL := Lib.hid (fun w => (by have h := implTooLong t w (by omega); rw [decide_eq_false h60] at h; exact h : Calls Tryz.prog 84 #[.string t] w fun e w' => e = .returned (.bool false) ∧ w = w'))
        clear h60
        have H := Lib.hid (heldC_one (below1 w _) (blk_new w (.cells #[.int .i64 0, .int .i64 1, .string t] 45) rfl))
        go_enter Tryz.func86, Tryz.ntmps86
        go_wp2
        refine run_region (ops := (opsOf Tryz.f86 5)) (S := fun w' => HeldC w w' ([(w.heap.size, 45, #[.int .i64 0, .int .i64 1, .string t])])) [(0, true), (1, true), (2, true), (3, false), (4, true), (5, true), (6, true), (7, true), (8, false), (9, true), (10, true), (11, true)] (by kernel_rfl) (by kernel_rfl) (by kernel_rfl) (by kernel_rfl) (by kernel_rfl) (fun _ _ _ _ _ h => h) (heldC_drew H.out) ?_
        have H := Lib.hid (heldC_drew H.out)
        refine runC_itm (b := w.heap.size) (show opAt (opsOf Tryz.f86 5) 0 = some (some 12, .load 45 (.tmp 2), none) from by kernel_rfl) (by kernel_rfl) (by kernel_rfl) (by kernel_rfl) (List.Mem.head _) ?_
        refine runC_partI (b := w.heap.size) (by kernel_rfl) (show opAt (opsOf Tryz.f86 5) 1 = some (some 13, .fieldAddr 45 (.tmp 2) 2, none) from by kernel_rfl) (by kernel_rfl) (by kernel_rfl) (by kernel_rfl) ?_
        refine runC_cell (b := w.heap.size) (j := 2) (v := .string t) load_text (show opAt (opsOf Tryz.f86 5) 2 = some (some 14, .load 9 (.tmp 13), none) from by kernel_rfl) (by kernel_rfl) (by kernel_rfl) (by kernel_rfl) (List.Mem.head _) rfl ?_
        refine run_call (args := [.string t]) (show opAt (opsOf Tryz.f86 5) 3 = some (some 15, .call { callee := .value (.func 69), args := [(.tmp 14)].toArray, argTypes := [9].toArray }, none) from by kernel_rfl) (by kernel_rfl) (by kernel_rfl) (by kernel_rfl) (by kernel_rfl) ?_
        refine (CT.out _).mono ?_
        rintro en rw1 ⟨rfl, hb⟩
        refine ⟨_, rfl, heldC_call H.out hb, ?_⟩
        have H := Lib.hid (heldC_call H.out hb)
        clear hb
        refine run_same (v := .bool true) (p := .agg #[.int .i64 0, .int .i64 1, .string t]) (q := .agg #[.int .i64 0, .int .i64 1, .string t]) (show opAt (opsOf Tryz.f86 5) 4 = some (some 16, .binOp .eql 45 (.tmp 12) (.tmp 15) 45, none) from by kernel_rfl) (by kernel_rfl) (by kernel_rfl) (by kernel_rfl) (by kernel_rfl) (fun w' => eql_item (x := ⟨0, 1, t⟩) (y := ⟨0, 1, t⟩) rfl) ?_
        refine run_mov (v := .bool true) (show opAt (opsOf Tryz.f86 5) 5 = some (some 17, .move (.tmp 16), none) from by kernel_rfl) (by kernel_rfl) (by kernel_rfl) (by kernel_rfl) ?_
        refine runC_partI (b := w.heap.size) (by kernel_rfl) (show opAt (opsOf Tryz.f86 5) 6 = some (some 18, .fieldAddr 45 (.tmp 2) 2, some (5, true)) from by kernel_rfl) (by kernel_rfl) (by kernel_rfl) (by kernel_rfl) ?_
        refine runC_cell (b := w.heap.size) (j := 2) (v := .string t) load_text (show opAt (opsOf Tryz.f86 5) 7 = some (some 19, .load 9 (.tmp 18), some (5, true)) from by kernel_rfl) (by kernel_rfl) (by kernel_rfl) (by kernel_rfl) (List.Mem.head _) rfl ?_
        refine run_call (args := [.string t]) (show opAt (opsOf Tryz.f86 5) 8 = some (some 20, .call { callee := .value (.func 84), args := [(.tmp 19)].toArray, argTypes := [9].toArray }, some (5, true)) from by kernel_rfl) (by kernel_rfl) (by kernel_rfl) (by kernel_rfl) (by kernel_rfl) ?_
        refine (CL.out _).mono ?_
        rintro en rw2 ⟨rfl, rfl⟩
        refine ⟨_, rfl, H.out, ?_⟩
        refine run_not (b := false) (show opAt (opsOf Tryz.f86 5) 9 = some (some 21, .unOp .not 4 (.tmp 20), some (5, true)) from by kernel_rfl) (by kernel_rfl) (by kernel_rfl) (by kernel_rfl) ?_
        refine run_pick (b := true) (v := .bool true) (show opAt (opsOf Tryz.f86 5) 10 = some (some 22, .pick (.tmp 17) (.tmp 21) (.const (.bool false)), none) from by kernel_rfl) (by kernel_rfl) (by kernel_rfl) (by kernel_rfl) (by kernel_rfl) ?_
        refine run_asg (v := .bool true) (show opAt (opsOf Tryz.f86 5) 11 = some (some 4, .assign (.tmp 22), none) from by kernel_rfl) (by kernel_rfl) (by kernel_rfl) (by kernel_rfl) ?_
        refine run_done ?_
        simp only [putAll, Act.put, List.setIfInBounds_toArray, List.set_cons_zero, List.set_cons_succ]
        go_wp2
        go_ret
        exact ⟨ret_yes X.out, H.out.1⟩
    · have X := Lib.hid (show ¬ Suits 3 ⟨n, d, t⟩ from suitsNo_of (by omega) (by omega) (fun _ h => hne ⟨h.1, h.2.1⟩))
      have CT := Lib.hid (fun w => textItemAny t w)
      have H := Lib.hid (heldC_one (below1 w _) (blk_new w (.cells #[.int .i64 n, .int .i64 d, .string t] 45) rfl))
      go_enter Tryz.func86, Tryz.ntmps86
      go_wp2
      refine run_region (ops := (opsOf Tryz.f86 5)) (S := fun w' => HeldC w w' ([(w.heap.size, 45, #[.int .i64 n, .int .i64 d, .string t])])) [(0, true), (1, true), (2, true), (3, false), (4, true), (5, true), (6, true), (7, true), (8, false), (9, true), (10, true), (11, true)] (by kernel_rfl) (by kernel_rfl) (by kernel_rfl) (by kernel_rfl) (by kernel_rfl) (fun _ _ _ _ _ h => h) (heldC_drew H.out) ?_
      have H := Lib.hid (heldC_drew H.out)
      refine runC_itm (b := w.heap.size) (show opAt (opsOf Tryz.f86 5) 0 = some (some 12, .load 45 (.tmp 2), none) from by kernel_rfl) (by kernel_rfl) (by kernel_rfl) (by kernel_rfl) (List.Mem.head _) ?_
      refine runC_partI (b := w.heap.size) (by kernel_rfl) (show opAt (opsOf Tryz.f86 5) 1 = some (some 13, .fieldAddr 45 (.tmp 2) 2, none) from by kernel_rfl) (by kernel_rfl) (by kernel_rfl) (by kernel_rfl) ?_
      refine runC_cell (b := w.heap.size) (j := 2) (v := .string t) load_text (show opAt (opsOf Tryz.f86 5) 2 = some (some 14, .load 9 (.tmp 13), none) from by kernel_rfl) (by kernel_rfl) (by kernel_rfl) (by kernel_rfl) (List.Mem.head _) rfl ?_
      refine run_call (args := [.string t]) (show opAt (opsOf Tryz.f86 5) 3 = some (some 15, .call { callee := .value (.func 69), args := [(.tmp 14)].toArray, argTypes := [9].toArray }, none) from by kernel_rfl) (by kernel_rfl) (by kernel_rfl) (by kernel_rfl) (by kernel_rfl) ?_
      refine (CT.out _).mono ?_
      rintro en rw1 ⟨rfl, hb⟩
      refine ⟨_, rfl, heldC_call H.out hb, ?_⟩
      have H := Lib.hid (heldC_call H.out hb)
      clear hb
      refine run_same (v := .bool false) (p := .agg #[.int .i64 n, .int .i64 d, .string t]) (q := .agg #[.int .i64 0, .int .i64 1, .string t]) (show opAt (opsOf Tryz.f86 5) 4 = some (some 16, .binOp .eql 45 (.tmp 12) (.tmp 15) 45, none) from by kernel_rfl) (by kernel_rfl) (by kernel_rfl) (by kernel_rfl) (by kernel_rfl) (fun w' => eql_txt_no hne) ?_
      refine run_mov (v := .bool false) (show opAt (opsOf Tryz.f86 5) 5 = some (some 17, .move (.tmp 16), none) from by kernel_rfl) (by kernel_rfl) (by kernel_rfl) (by kernel_rfl) ?_
      refine run_skip (show opAt (opsOf Tryz.f86 5) 6 = some (some 18, .fieldAddr 45 (.tmp 2) 2, some (5, true)) from by kernel_rfl) (by kernel_rfl) (by kernel_rfl) ?_
      refine run_skip (show opAt (opsOf Tryz.f86 5) 7 = some (some 19, .load 9 (.tmp 18), some (5, true)) from by kernel_rfl) (by kernel_rfl) (by kernel_rfl) ?_
      refine run_pass (show opAt (opsOf Tryz.f86 5) 8 = some (some 20, .call { callee := .value (.func 84), args := [(.tmp 19)].toArray, argTypes := [9].toArray }, some (5, true)) from by kernel_rfl) (by kernel_rfl) (by kernel_rfl) H.out ?_
      refine run_skip (show opAt (opsOf Tryz.f86 5) 9 = some (some 21, .unOp .not 4 (.tmp 20), some (5, true)) from by kernel_rfl) (by kernel_rfl) (by kernel_rfl) ?_
      refine run_pick (b := false) (v := .bool false) (show opAt (opsOf Tryz.f86 5) 10 = some (some 22, .pick (.tmp 17) (.tmp 21) (.const (.bool false)), none) from by kernel_rfl) (by kernel_rfl) (by kernel_rfl) (by kernel_rfl) (by kernel_rfl) ?_
      refine run_asg (v := .bool false) (show opAt (opsOf Tryz.f86 5) 11 = some (some 4, .assign (.tmp 22), none) from by kernel_rfl) (by kernel_rfl) (by kernel_rfl) (by kernel_rfl) ?_
      refine run_done ?_
      simp only [putAll, Act.put, List.setIfInBounds_toArray, List.set_cons_zero, List.set_cons_succ]
      go_wp2
      go_ret
      exact ⟨ret_no X.out, H.out.1⟩
  · by_cases k2 : k = 2
    · subst k2
      have C := Lib.hid (fun w => implIsNum n d t w (by omega))
      have X := Lib.hid (show bB (Suits 2 ⟨n, d, t⟩) = isN ⟨n, d, t⟩ by
        cases h : isN ⟨n, d, t⟩
        · exact bB_no (suitsNo_of (by omega) (fun _ => h) (by omega))
        · exact bB_yes (.inr (.inl ⟨rfl, h⟩)))
      go_enter Tryz.func86, Tryz.ntmps86
      go_wp2_with fail
      refine (C.out _).mono ?_
      rintro e w1 ⟨rfl, b⟩
      have B := Lib.hid (below_then (below1 w _) b)
      clear b
      go_wp2
      go_ret
      exact ⟨ret_bB X.out.symm, B.out⟩
    · by_cases k1 : k = 1
      · subst k1
        by_cases d1 : d = 1
        · subst d1
          by_cases n0 : n < 0
          · have X := Lib.hid (show ¬ Suits 1 ⟨n, 1, t⟩ from suitsNo_of (fun _ h => by have h1 := h.1; have h2 := h.2.1; have h3 := h.2.2.1; simp only at h1 h2 h3; omega) (by omega) (by omega))
            go_enter Tryz.func86, Tryz.ntmps86
            go_wp2
            go_ret
            exact ⟨ret_no X.out, below1 _ _⟩
          · by_cases n1 : 1 < n
            · have X := Lib.hid (show ¬ Suits 1 ⟨n, 1, t⟩ from suitsNo_of (fun _ h => by have h1 := h.1; have h2 := h.2.1; have h3 := h.2.2.1; simp only at h1 h2 h3; omega) (by omega) (by omega))
              go_enter Tryz.func86, Tryz.ntmps86
              go_wp2
              go_ret
              exact ⟨ret_no X.out, below1 _ _⟩
            · have C := Lib.hid (fun w => implIsNum n 1 t w (by omega))
              have X := Lib.hid (show bB (Suits 1 ⟨n, 1, t⟩) = isN ⟨n, 1, t⟩ by
                rw [isN_one (by omega) (by omega)]
                by_cases h : t.size = 0
                · rw [decide_eq_true h]; exact bB_yes (.inl ⟨rfl, rfl, by simp only; omega, by simp only; omega, h⟩)
                · rw [decide_eq_false h]; exact bB_no (suitsNo_of (fun _ h' => h h'.2.2.2) (by omega) (by omega)))
              go_enter Tryz.func86, Tryz.ntmps86
              go_wp2_with fail
              refine (C.out _).mono ?_
              rintro e w1 ⟨rfl, b⟩
              have B := Lib.hid (below_then (below1 w _) b)
              clear b
              go_wp2
              go_ret
              exact ⟨ret_bB X.out.symm, B.out⟩
        · have X := Lib.hid (show ¬ Suits 1 ⟨n, d, t⟩ from suitsNo_of (fun _ h => by have h1 := h.1; have h2 := h.2.1; have h3 := h.2.2.1; simp only at h1 h2 h3; omega) (by omega) (by omega))
          go_enter Tryz.func86, Tryz.ntmps86
          go_wp2
          go_ret
          exact ⟨ret_no X.out, below1 _ _⟩
      · have X := Lib.hid (show ¬ Suits k ⟨n, d, t⟩ from suitsNo_of (fun h => absurd h k1) (fun h => absurd h k2) (fun h => absurd h k3))
        go_enter Tryz.func86, Tryz.ntmps86
        go_wp2
        go_ret
        exact ⟨ret_no X.out, below1 _ _⟩

def IsCode (nl : Nat) (x : It) : Prop := x.d = 1 ∧ 1 ≤ x.n ∧ x.n ≤ nl
theorem implCode (x : It) (al : Option Addr) (nl cl : Nat) (w : World) (hl : nl ≤ 1048576) :
    Calls Tryz.prog 87 #[.agg #[.int .i64 x.n, .int .i64 x.d, .string x.t], .slice al nl cl] w fun e w' => e = .returned (.bool (bB (IsCode nl x))) ∧ Below w.heap.size w w' := by
  obtain ⟨n, d, t⟩ := x
  simp only
  by_cases h0 : d = 1
  · subst h0
    by_cases h1 : 1 ≤ n
    · by_cases h2 : n ≤ nl
      · have X := Lib.hid (show IsCode nl ⟨n, 1, t⟩ from ⟨rfl, h1, h2⟩)
        go_enter Tryz.func87, Tryz.ntmps87
        go_wp2
        go_ret
        exact ⟨ret_bB (by rw [bB_yes X.out] <;> (first | rfl | exact decide_eq_true (by omega) | (simp; done) | (simp; omega))), below1 _ _⟩
      · have X := Lib.hid (show ¬ IsCode nl ⟨n, 1, t⟩ from fun h => by obtain ⟨a, b, c⟩ := h; try dsimp only at a b c; omega)
        go_enter Tryz.func87, Tryz.ntmps87
        go_wp2
        go_ret
        exact ⟨ret_bB (by rw [bB_no X.out] <;> (first | rfl | exact decide_eq_false (by omega) | (simp; done) | (simp; omega))), below1 _ _⟩
    · have X := Lib.hid (show ¬ IsCode nl ⟨n, 1, t⟩ from fun h => by obtain ⟨a, b, c⟩ := h; try dsimp only at a b c; omega)
      go_enter Tryz.func87, Tryz.ntmps87
      go_wp2
      go_ret
      exact ⟨ret_bB (by rw [bB_no X.out] <;> (first | rfl | exact decide_eq_false (by omega) | (simp; done) | (simp; omega))), below1 _ _⟩
  · have X := Lib.hid (show ¬ IsCode nl ⟨n, d, t⟩ from fun h => by obtain ⟨a, b, c⟩ := h; try dsimp only at a b c; omega)
    go_enter Tryz.func87, Tryz.ntmps87
    go_wp2
    go_ret
    exact ⟨ret_bB (by rw [bB_no X.out] <;> (first | rfl | exact decide_eq_false (by omega) | (simp; done) | (simp; omega))), below1 _ _⟩
end Go.Proofs.YtikgcogiiohahaaGreatDoor

/- The program's test of all fields of a vector but its parts. -/
namespace Go.Proofs.YtikgcogiiohahaaGreatDoor
open Go.RowKit
set_option maxRecDepth 100000
set_option linter.unusedVariables false

def ItemsOk (k : Int) (items : List It) (nl : Nat) : Prop := ∀ i, i < items.length → ItOk k (items.getD i noI) ∧ LevOk nl (items.getD i noI)

set_option maxHeartbeats 8000000 in
theorem implItems (kk : Int) (items : List It) (ai : Option Addr) (ap an ac al : Option Addr) (ci np cp nn cn nc cc nl cl : Nat) (code env : Int) (lo hi : Nat) (w : World) (hI : ItemsAt lo hi w ai items) (hhi : hi ≤ w.heap.size) (hit : ∀ i, i < items.length → (items.getD i noI).t.size ≤ 1048576) (hni : items.length ≤ 1048576) (hnl : nl ≤ 1048576) :
    Calls Tryz.prog 79 #[.agg #[.int .i64 kk, .slice ai items.length ci, .slice ap np cp, .slice an nn cn, .slice ac nc cc, .slice al nl cl, .int .i64 code, .int .i64 env]] w fun e w' => e = .returned (.bool (bB (ItemsOk kk items nl))) ∧ Below w.heap.size w w' := by
  have AI := Lib.hid (fun (k : Nat) (w1 : World) (hk : k < items.length) (hb : Below w.heap.size w w1) => (hI.below hb hhi).at_ hk)
  have ZI := Lib.hid hit
  obtain ⟨ni, h_⟩ : ∃ x, items.length = x := ⟨_, rfl⟩
  rw [h_] at AI ZI hni ⊢
  have EI := Lib.hid h_
  clear h_ hI hit
  go_enter Tryz.func79, Tryz.ntmps79
  go_wp2
  go_loopw [8] (fun i wr => ∃ k : Nat, k ≤ ni ∧ i = .int .i64 k ∧ (∀ j, j < k → ItOk kk (items.getD j noI) ∧ LevOk nl (items.getD j noI)) ∧ Below w.heap.size w wr ∧ wr.heap[w.heap.size]? = some (.cells #[.int .i64 kk, .slice ai ni ci, .slice ap np cp, .slice an nn cn, .slice ac nc cc, .slice al nl cl, .int .i64 code, .int .i64 env] 31 (0, 0))) (fun i _ => ni - (intOf i).toNat)
  case atStart => exact ⟨0, Nat.zero_le _, rfl, fun _ h => absurd h (Nat.not_lt_zero _), below1 _ _, blk_new _ _ rfl⟩
  case round =>
    obtain ⟨k, hk, rfl, hit, hb, hblk⟩ := hrel
    have IT := Lib.hid hit
    have BB := Lib.hid hb
    have KB := Lib.hid hblk
    clear hit hb hblk
    obtain ⟨k0, k1, k2, k3, k4, k5, k6, k7⟩ := vec8 KB.out
    have hz := (Array.getElem?_eq_some_iff.1 KB.out).1
    by_cases hlt : k < ni
    · have hlt' : (k : Int) < (ni : Int) := by omega
      obtain ⟨b, off, rfl, hbB, c0, c1, c2⟩ := AI.out _ _ hlt BB.out
      have hxt := ZI.out k hlt
      obtain ⟨⟨xn, xd, xt⟩, hx⟩ : ∃ x : It, items.getD k noI = x := ⟨_, rfl⟩
      have ht : txtI items k = xt := by unfold txtI; rw [hx]
      rw [hx] at c0 c1 hxt
      rw [ht] at c2
      simp only at c0 c1 hxt
      have HX := Lib.hid hx
      clear hx ht
      have FIN := Lib.hid (fun (h0 : ItOk kk ⟨xn, xd, xt⟩) (h : LevOk nl ⟨xn, xd, xt⟩) => (fun j hj => by
        by_cases e : j = k
        · subst e; rw [HX.out]; exact ⟨h0, h⟩
        · exact IT.out j (by omega) : ∀ j, j < k + 1 → ItOk kk (items.getD j noI) ∧ LevOk nl (items.getD j noI)))
      by_cases hx0 : (⟨xn, xd, xt⟩ : It) = noI
      · obtain ⟨rfl, rfl, rfl⟩ : xn = 0 ∧ xd = 0 ∧ xt = ⟨#[]⟩ := ⟨congrArg It.n hx0, congrArg It.d hx0, congrArg It.t hx0⟩
        have BN := Lib.hid (below_then BB.out (below1 wr (.cells #[.int .i64 0, .int .i64 0, .string ⟨#[]⟩] 45)))
        have KN := Lib.hid (blk_old (p := .cells #[.int .i64 0, .int .i64 0, .string ⟨#[]⟩] 45) KB.out)
        have IN := Lib.hid (FIN.out (.inl hx0) (.inr (.inl rfl)))
        clear hx0
        go_wp2
        go_roundw
        case rel => exact ⟨k + 1, by omega, by go_num, IN.out, BN.out, KN.out⟩
        case measure => simp [intOf]; omega
      have CS := Lib.hid (fun w => (implSuits kk ⟨xn, xd, xt⟩ w hxt : Calls Tryz.prog 86 #[.agg #[.int .i64 xn, .int .i64 xd, .string xt], .int .i64 kk] w _))
      by_cases hd : xd = 0
      · subst hd
        have hs : ¬ Suits kk ⟨xn, 0, xt⟩ := fun h => suits_d h rfl
        by_cases hn : xn = 0
        · subst hn
          have he : ¬ xt.size = 0 := fun h => hx0 (by rw [empty_of_size h]; rfl)
          have e1 := notEmptyB he
          have X := Lib.hid (show ¬ ItemsOk kk items nl from fun h => (by have := (h k (by rw [EI.out]; exact hlt)).1; rw [HX.out] at this; exact this : ItOk kk ⟨0, 0, xt⟩).elim (fun h' => hx0 h') (fun h' => hs h'))
          rw [bB_no hs] at CS
          clear hx0 hs
          clear he
          go_wp2_with fail
          refine (CS.out _).mono ?_
          rintro e w3 ⟨rfl, b3⟩
          have B3 := Lib.hid (below_then (below_then BB.out (below1 wr _)) b3)
          have K3 := Lib.hid (blk_below b3 (blk_old KB.out))
          have X3 := Lib.hid (blk_below b3 (blk_new wr _ rfl))
          clear b3 k0 k1 k2 k3 k4 k5 k6 k7
          obtain ⟨k0, k1, k2, k3, k4, k5, k6, k7⟩ := vec8 K3.out
          obtain ⟨⟨x0, x1, x2⟩, _⟩ := three X3.out
          go_wp2
          go_ret
          exact ⟨ret_no X.out, B3.out⟩
        · have X := Lib.hid (show ¬ ItemsOk kk items nl from fun h => (by have := (h k (by rw [EI.out]; exact hlt)).1; rw [HX.out] at this; exact this : ItOk kk ⟨xn, 0, xt⟩).elim (fun h' => hx0 h') (fun h' => hs h'))
          rw [bB_no hs] at CS
          clear hx0 hs
          go_wp2_with fail
          refine (CS.out _).mono ?_
          rintro e w3 ⟨rfl, b3⟩
          have B3 := Lib.hid (below_then (below_then BB.out (below1 wr _)) b3)
          have K3 := Lib.hid (blk_below b3 (blk_old KB.out))
          have X3 := Lib.hid (blk_below b3 (blk_new wr _ rfl))
          clear b3 k0 k1 k2 k3 k4 k5 k6 k7
          obtain ⟨k0, k1, k2, k3, k4, k5, k6, k7⟩ := vec8 K3.out
          obtain ⟨⟨x0, x1, x2⟩, _⟩ := three X3.out
          go_wp2
          go_ret
          exact ⟨ret_no X.out, B3.out⟩
      by_cases hs : Suits kk ⟨xn, xd, xt⟩
      · rw [bB_yes hs] at CS
        have HS := Lib.hid hs
        clear hs hx0
        go_wp2_with fail
        refine (CS.out _).mono ?_
        rintro e w3 ⟨rfl, b3⟩
        have B3 := Lib.hid (below_then (below_then BB.out (below1 wr _)) b3)
        have K3 := Lib.hid (blk_below b3 (blk_old KB.out))
        have X3 := Lib.hid (blk_below b3 (blk_new wr _ rfl))
        clear b3 k0 k1 k2 k3 k4 k5 k6 k7
        obtain ⟨k0, k1, k2, k3, k4, k5, k6, k7⟩ := vec8 K3.out
        obtain ⟨⟨x0, x1, x2⟩, _⟩ := three X3.out
        by_cases n0 : nl = 0
        · subst n0
          have IN := Lib.hid (FIN.out (.inr HS.out) (.inl rfl))
          go_wp2
          go_roundw
          case rel => exact ⟨k + 1, by omega, by go_num, IN.out, B3.out, K3.out⟩
          case measure => simp [intOf]; omega
        · have n0' : 0 < nl := by omega
          have CC := Lib.hid (fun w => (implCode ⟨xn, xd, xt⟩ al nl cl w hnl : Calls Tryz.prog 87 #[.agg #[.int .i64 xn, .int .i64 xd, .string xt], .slice al nl cl] w _))
          go_wp2_with fail
          refine (CC.out _).mono ?_
          rintro e w4 ⟨rfl, b4⟩
          have B4 := Lib.hid (below_then B3.out b4)
          have K4 := Lib.hid (blk_below b4 K3.out)
          clear b4
          by_cases hc : IsCode nl ⟨xn, xd, xt⟩
          · have IN := Lib.hid (FIN.out (.inr HS.out) (.inr (.inr hc)))
            rw [bB_yes hc]
            clear hc
            go_wp2
            go_roundw
            case rel => exact ⟨k + 1, by omega, by go_num, IN.out, B4.out, K4.out⟩
            case measure => simp [intOf]; omega
          · have X := Lib.hid (show ¬ ItemsOk kk items nl from fun h => (by have := (h k (by rw [EI.out]; exact hlt)).2; rw [HX.out] at this; exact this : LevOk nl ⟨xn, xd, xt⟩).elim (fun h' => n0 h') (fun h' => h'.elim (fun h' => hd h') (fun h' => hc h')))
            rw [bB_no hc]
            clear hc
            go_wp2
            go_ret
            exact ⟨ret_no X.out, B4.out⟩
      · have X := Lib.hid (show ¬ ItemsOk kk items nl from fun h => (by have := (h k (by rw [EI.out]; exact hlt)).1; rw [HX.out] at this; exact this : ItOk kk ⟨xn, xd, xt⟩).elim (fun h' => hx0 h') (fun h' => hs h'))
        rw [bB_no hs] at CS
        clear hx0 hs
        go_wp2_with fail
        refine (CS.out _).mono ?_
        rintro e w3 ⟨rfl, b3⟩
        have B3 := Lib.hid (below_then (below_then BB.out (below1 wr _)) b3)
        have K3 := Lib.hid (blk_below b3 (blk_old KB.out))
        have X3 := Lib.hid (blk_below b3 (blk_new wr _ rfl))
        clear b3 k0 k1 k2 k3 k4 k5 k6 k7
        obtain ⟨k0, k1, k2, k3, k4, k5, k6, k7⟩ := vec8 K3.out
        obtain ⟨⟨x0, x1, x2⟩, _⟩ := three X3.out
        go_wp2
        go_ret
        exact ⟨ret_no X.out, B3.out⟩
    · obtain rfl : k = ni := by omega
      have X := Lib.hid (show ItemsOk kk items nl from fun i hi => IT.out i (by rw [EI.out] at hi; exact hi))
      go_wp2
      go_ret
      exact ⟨ret_yes X.out, BB.out⟩

def NamesOk (f : Nat → ByteArray) (nn L : Nat) : Prop := (nn = 0 ∨ nn = L) ∧ NamedOk f nn
set_option maxHeartbeats 4000000 in
theorem implNames (kk : Int) (ai : Option Addr) (ni : Nat) (ap an ac al : Option Addr) (ci np cp nn cn nc cc nl cl : Nat) (code env : Int) (f : Nat → ByteArray) (hi : Nat) (w : World) (hs : ∀ w1, Below w.heap.size w w1 → StrsAt hi w1 an nn f) (hz : ∀ i, i < nn → (f i).size ≤ 9223372036854775807) (h1 : ni ≤ 1048576) (h2 : np ≤ 1048576) (h3 : nn ≤ 1048576) (L : Nat) (hL : lenV kk ni np = L) :
    Calls Tryz.prog 77 #[.agg #[.int .i64 kk, .slice ai ni ci, .slice ap np cp, .slice an nn cn, .slice ac nc cc, .slice al nl cl, .int .i64 code, .int .i64 env]] w fun e w' => e = .returned (.bool (bB (NamesOk f nn L))) ∧ Below w.heap.size w w' := by
  have CL := Lib.hid (fun w1 => (hL ▸ implLen kk ai ap an ac al ni ci np cp nn cn nc cc nl cl code env w1 h1 h2 : Calls Tryz.prog 68 #[.agg #[.int .i64 kk, .slice ai ni ci, .slice ap np cp, .slice an nn cn, .slice ac nc cc, .slice al nl cl, .int .i64 code, .int .i64 env]] w1 fun e w' => e = .returned (.int .i64 L) ∧ Below w1.heap.size w1 w'))
  clear hL
  by_cases h0 : nn = 0
  · subst h0
    have X := Lib.hid (show NamesOk f 0 L from ⟨.inl rfl, fun i hi => absurd hi (Nat.not_lt_zero _), .inl rfl⟩)
    clear hs hz
    go_enter Tryz.func77, Tryz.ntmps77
    go_wp2
    go_ret
    exact ⟨ret_yes X.out, below1 _ _⟩
  by_cases he : nn = L
  · have HE := Lib.hid he
    clear he
    by_cases hs0 : SomeIn f nn
    · have CE := Lib.hid (fun (w1 : World) (hb : Below w.heap.size w w1) => (by have h := implAreEmpty an nn cn f hi w1 (hs w1 hb) (by omega); rw [bB_no (fun h => h hs0)] at h; exact h : Calls Tryz.prog 82 #[.slice an nn cn] w1 fun e w' => e = .returned (.bool false) ∧ w1 = w'))
      by_cases hl : LongIn f nn
      · have CF := Lib.hid (fun (w1 : World) (hb : Below w.heap.size w w1) => (by have h := implContainsFunc an nn cn f hi w1 (hs w1 hb) (by omega) hz; rw [bB_yes hl] at h; exact h : Calls Tryz.prog 83 #[.slice an nn cn, .func (.func 84) #[] #[]] w1 fun e w' => e = .returned (.bool true) ∧ w1 = w'))
        have X := Lib.hid (show ¬ NamesOk f nn L from fun h => by obtain ⟨i, hi, h'⟩ := hl; have := h.2.1 i hi; omega)
        have H := Lib.hid (heldC_one (below1 w _) (blk_new w (.cells #[.int .i64 kk, .slice ai ni ci, .slice ap np cp, .slice an nn cn, .slice ac nc cc, .slice al nl cl, .int .i64 code, .int .i64 env] 31) rfl))
        go_enter Tryz.func77, Tryz.ntmps77
        go_wp2
        refine run_region (ops := (opsOf Tryz.f77 3)) (S := fun w' => HeldC w w' ([(w.heap.size, 31, #[.int .i64 kk, .slice ai ni ci, .slice ap np cp, .slice an nn cn, .slice ac nc cc, .slice al nl cl, .int .i64 code, .int .i64 env])])) [(0, true), (1, true), (2, true), (3, true), (4, false), (5, true), (6, true), (7, true), (8, true), (9, false), (10, true), (11, true), (12, true), (13, true), (14, true), (15, false), (16, true), (17, true), (18, true)] (by kernel_rfl) (by kernel_rfl) (by kernel_rfl) (by kernel_rfl) (by kernel_rfl) (fun _ _ _ _ _ h => h) (heldC_drew H.out) ?_
        have H := Lib.hid (heldC_drew H.out)
        refine runC_partV (b := w.heap.size) (by kernel_rfl) (show opAt (opsOf Tryz.f77 3) 0 = some (some 7, .fieldAddr 31 (.tmp 1) 3, none) from by kernel_rfl) (by kernel_rfl) (by kernel_rfl) (by kernel_rfl) ?_
        refine runC_cell (b := w.heap.size) (j := 3) (v := .slice an nn cn) load_strs (show opAt (opsOf Tryz.f77 3) 1 = some (some 8, .load 24 (.tmp 7), none) from by kernel_rfl) (by kernel_rfl) (by kernel_rfl) (by kernel_rfl) (List.Mem.head _) rfl ?_
        refine run_len (b := an) (n := nn) (c := cn) (show opAt (opsOf Tryz.f77 3) 2 = some (some 9, .call { callee := .builtin .len, args := [(.tmp 8)].toArray, argTypes := [24].toArray }, none) from by kernel_rfl) (by kernel_rfl) (by kernel_rfl) (by kernel_rfl) (by kernel_rfl) ?_
        refine runC_vec (b := w.heap.size) (show opAt (opsOf Tryz.f77 3) 3 = some (some 10, .load 31 (.tmp 1), none) from by kernel_rfl) (by kernel_rfl) (by kernel_rfl) (by kernel_rfl) (List.Mem.head _) ?_
        refine run_call (args := [.agg #[.int .i64 kk, .slice ai ni ci, .slice ap np cp, .slice an nn cn, .slice ac nc cc, .slice al nl cl, .int .i64 code, .int .i64 env]]) (show opAt (opsOf Tryz.f77 3) 4 = some (some 11, .call { callee := .value (.func 68), args := [(.tmp 10)].toArray, argTypes := [31].toArray }, none) from by kernel_rfl) (by kernel_rfl) (by kernel_rfl) (by kernel_rfl) (by kernel_rfl) ?_
        refine (CL.out _).mono ?_
        rintro en rw1 ⟨rfl, hb⟩
        refine ⟨_, rfl, heldC_call H.out hb, ?_⟩
        have H := Lib.hid (heldC_call H.out hb)
        clear hb
        refine run_cmp (k := .i64) (p := (nn : Int)) (q := (L : Int)) (b := true) (show opAt (opsOf Tryz.f77 3) 5 = some (some 12, .binOp .eql 3 (.tmp 9) (.tmp 11) 3, none) from by kernel_rfl) (by kernel_rfl) (by kernel_rfl) (by kernel_rfl) (by kernel_rfl) (congrArg some (beq_iff_eq.2 (by have := HE.out; omega))) ?_
        refine run_mov (v := .bool true) (show opAt (opsOf Tryz.f77 3) 6 = some (some 13, .move (.tmp 12), none) from by kernel_rfl) (by kernel_rfl) (by kernel_rfl) (by kernel_rfl) ?_
        refine runC_partV (b := w.heap.size) (by kernel_rfl) (show opAt (opsOf Tryz.f77 3) 7 = some (some 14, .fieldAddr 31 (.tmp 1) 3, some (6, true)) from by kernel_rfl) (by kernel_rfl) (by kernel_rfl) (by kernel_rfl) ?_
        refine runC_cell (b := w.heap.size) (j := 3) (v := .slice an nn cn) load_strs (show opAt (opsOf Tryz.f77 3) 8 = some (some 15, .load 24 (.tmp 14), some (6, true)) from by kernel_rfl) (by kernel_rfl) (by kernel_rfl) (by kernel_rfl) (List.Mem.head _) rfl ?_
        refine run_call (args := [.slice an nn cn]) (show opAt (opsOf Tryz.f77 3) 9 = some (some 16, .call { callee := .value (.func 82), args := [(.tmp 15)].toArray, argTypes := [24].toArray }, some (6, true)) from by kernel_rfl) (by kernel_rfl) (by kernel_rfl) (by kernel_rfl) (by kernel_rfl) ?_
        refine (CE.out _ H.out.1).mono ?_
        rintro en rw2 ⟨rfl, rfl⟩
        refine ⟨_, rfl, H.out, ?_⟩
        refine run_not (b := false) (show opAt (opsOf Tryz.f77 3) 10 = some (some 17, .unOp .not 4 (.tmp 16), some (6, true)) from by kernel_rfl) (by kernel_rfl) (by kernel_rfl) (by kernel_rfl) ?_
        refine run_pick (b := true) (v := .bool true) (show opAt (opsOf Tryz.f77 3) 11 = some (some 18, .pick (.tmp 13) (.tmp 17) (.const (.bool false)), none) from by kernel_rfl) (by kernel_rfl) (by kernel_rfl) (by kernel_rfl) (by kernel_rfl) ?_
        refine run_mov (v := .bool true) (show opAt (opsOf Tryz.f77 3) 12 = some (some 19, .move (.tmp 18), none) from by kernel_rfl) (by kernel_rfl) (by kernel_rfl) (by kernel_rfl) ?_
        refine runC_partV (b := w.heap.size) (by kernel_rfl) (show opAt (opsOf Tryz.f77 3) 13 = some (some 20, .fieldAddr 31 (.tmp 1) 3, some (12, true)) from by kernel_rfl) (by kernel_rfl) (by kernel_rfl) (by kernel_rfl) ?_
        refine runC_cell (b := w.heap.size) (j := 3) (v := .slice an nn cn) load_strs (show opAt (opsOf Tryz.f77 3) 14 = some (some 21, .load 24 (.tmp 20), some (12, true)) from by kernel_rfl) (by kernel_rfl) (by kernel_rfl) (by kernel_rfl) (List.Mem.head _) rfl ?_
        refine run_call (args := [.slice an nn cn, .func (.func 84) #[] #[]]) (show opAt (opsOf Tryz.f77 3) 15 = some (some 22, .call { callee := .value (.func 83), args := [(.tmp 21), (.func 84)].toArray, argTypes := [24, 90].toArray }, some (12, true)) from by kernel_rfl) (by kernel_rfl) (by kernel_rfl) (by kernel_rfl) (by kernel_rfl) ?_
        refine (CF.out _ H.out.1).mono ?_
        rintro en rw3 ⟨rfl, rfl⟩
        refine ⟨_, rfl, H.out, ?_⟩
        refine run_not (b := true) (show opAt (opsOf Tryz.f77 3) 16 = some (some 23, .unOp .not 4 (.tmp 22), some (12, true)) from by kernel_rfl) (by kernel_rfl) (by kernel_rfl) (by kernel_rfl) ?_
        refine run_pick (b := true) (v := .bool false) (show opAt (opsOf Tryz.f77 3) 17 = some (some 24, .pick (.tmp 19) (.tmp 23) (.const (.bool false)), none) from by kernel_rfl) (by kernel_rfl) (by kernel_rfl) (by kernel_rfl) (by kernel_rfl) ?_
        refine run_asg (v := .bool false) (show opAt (opsOf Tryz.f77 3) 18 = some (some 2, .assign (.tmp 24), none) from by kernel_rfl) (by kernel_rfl) (by kernel_rfl) (by kernel_rfl) ?_
        refine run_done ?_
        simp only [putAll, Act.put, List.setIfInBounds_toArray, List.set_cons_zero, List.set_cons_succ]
        go_wp2
        go_ret
        exact ⟨ret_no X.out, H.out.1⟩
      · have CF := Lib.hid (fun (w1 : World) (hb : Below w.heap.size w w1) => (by have h := implContainsFunc an nn cn f hi w1 (hs w1 hb) (by omega) hz; rw [bB_no hl] at h; exact h : Calls Tryz.prog 83 #[.slice an nn cn, .func (.func 84) #[] #[]] w1 fun e w' => e = .returned (.bool false) ∧ w1 = w'))
        have X := Lib.hid (show NamesOk f nn L from ⟨.inr HE.out, fun i hi => Nat.not_lt.1 (fun h => hl ⟨i, hi, h⟩), .inr hs0⟩)
        have H := Lib.hid (heldC_one (below1 w _) (blk_new w (.cells #[.int .i64 kk, .slice ai ni ci, .slice ap np cp, .slice an nn cn, .slice ac nc cc, .slice al nl cl, .int .i64 code, .int .i64 env] 31) rfl))
        go_enter Tryz.func77, Tryz.ntmps77
        go_wp2
        refine run_region (ops := (opsOf Tryz.f77 3)) (S := fun w' => HeldC w w' ([(w.heap.size, 31, #[.int .i64 kk, .slice ai ni ci, .slice ap np cp, .slice an nn cn, .slice ac nc cc, .slice al nl cl, .int .i64 code, .int .i64 env])])) [(0, true), (1, true), (2, true), (3, true), (4, false), (5, true), (6, true), (7, true), (8, true), (9, false), (10, true), (11, true), (12, true), (13, true), (14, true), (15, false), (16, true), (17, true), (18, true)] (by kernel_rfl) (by kernel_rfl) (by kernel_rfl) (by kernel_rfl) (by kernel_rfl) (fun _ _ _ _ _ h => h) (heldC_drew H.out) ?_
        have H := Lib.hid (heldC_drew H.out)
        refine runC_partV (b := w.heap.size) (by kernel_rfl) (show opAt (opsOf Tryz.f77 3) 0 = some (some 7, .fieldAddr 31 (.tmp 1) 3, none) from by kernel_rfl) (by kernel_rfl) (by kernel_rfl) (by kernel_rfl) ?_
        refine runC_cell (b := w.heap.size) (j := 3) (v := .slice an nn cn) load_strs (show opAt (opsOf Tryz.f77 3) 1 = some (some 8, .load 24 (.tmp 7), none) from by kernel_rfl) (by kernel_rfl) (by kernel_rfl) (by kernel_rfl) (List.Mem.head _) rfl ?_
        refine run_len (b := an) (n := nn) (c := cn) (show opAt (opsOf Tryz.f77 3) 2 = some (some 9, .call { callee := .builtin .len, args := [(.tmp 8)].toArray, argTypes := [24].toArray }, none) from by kernel_rfl) (by kernel_rfl) (by kernel_rfl) (by kernel_rfl) (by kernel_rfl) ?_
        refine runC_vec (b := w.heap.size) (show opAt (opsOf Tryz.f77 3) 3 = some (some 10, .load 31 (.tmp 1), none) from by kernel_rfl) (by kernel_rfl) (by kernel_rfl) (by kernel_rfl) (List.Mem.head _) ?_
        refine run_call (args := [.agg #[.int .i64 kk, .slice ai ni ci, .slice ap np cp, .slice an nn cn, .slice ac nc cc, .slice al nl cl, .int .i64 code, .int .i64 env]]) (show opAt (opsOf Tryz.f77 3) 4 = some (some 11, .call { callee := .value (.func 68), args := [(.tmp 10)].toArray, argTypes := [31].toArray }, none) from by kernel_rfl) (by kernel_rfl) (by kernel_rfl) (by kernel_rfl) (by kernel_rfl) ?_
        refine (CL.out _).mono ?_
        rintro en rw1 ⟨rfl, hb⟩
        refine ⟨_, rfl, heldC_call H.out hb, ?_⟩
        have H := Lib.hid (heldC_call H.out hb)
        clear hb
        refine run_cmp (k := .i64) (p := (nn : Int)) (q := (L : Int)) (b := true) (show opAt (opsOf Tryz.f77 3) 5 = some (some 12, .binOp .eql 3 (.tmp 9) (.tmp 11) 3, none) from by kernel_rfl) (by kernel_rfl) (by kernel_rfl) (by kernel_rfl) (by kernel_rfl) (congrArg some (beq_iff_eq.2 (by have := HE.out; omega))) ?_
        refine run_mov (v := .bool true) (show opAt (opsOf Tryz.f77 3) 6 = some (some 13, .move (.tmp 12), none) from by kernel_rfl) (by kernel_rfl) (by kernel_rfl) (by kernel_rfl) ?_
        refine runC_partV (b := w.heap.size) (by kernel_rfl) (show opAt (opsOf Tryz.f77 3) 7 = some (some 14, .fieldAddr 31 (.tmp 1) 3, some (6, true)) from by kernel_rfl) (by kernel_rfl) (by kernel_rfl) (by kernel_rfl) ?_
        refine runC_cell (b := w.heap.size) (j := 3) (v := .slice an nn cn) load_strs (show opAt (opsOf Tryz.f77 3) 8 = some (some 15, .load 24 (.tmp 14), some (6, true)) from by kernel_rfl) (by kernel_rfl) (by kernel_rfl) (by kernel_rfl) (List.Mem.head _) rfl ?_
        refine run_call (args := [.slice an nn cn]) (show opAt (opsOf Tryz.f77 3) 9 = some (some 16, .call { callee := .value (.func 82), args := [(.tmp 15)].toArray, argTypes := [24].toArray }, some (6, true)) from by kernel_rfl) (by kernel_rfl) (by kernel_rfl) (by kernel_rfl) (by kernel_rfl) ?_
        refine (CE.out _ H.out.1).mono ?_
        rintro en rw2 ⟨rfl, rfl⟩
        refine ⟨_, rfl, H.out, ?_⟩
        refine run_not (b := false) (show opAt (opsOf Tryz.f77 3) 10 = some (some 17, .unOp .not 4 (.tmp 16), some (6, true)) from by kernel_rfl) (by kernel_rfl) (by kernel_rfl) (by kernel_rfl) ?_
        refine run_pick (b := true) (v := .bool true) (show opAt (opsOf Tryz.f77 3) 11 = some (some 18, .pick (.tmp 13) (.tmp 17) (.const (.bool false)), none) from by kernel_rfl) (by kernel_rfl) (by kernel_rfl) (by kernel_rfl) (by kernel_rfl) ?_
        refine run_mov (v := .bool true) (show opAt (opsOf Tryz.f77 3) 12 = some (some 19, .move (.tmp 18), none) from by kernel_rfl) (by kernel_rfl) (by kernel_rfl) (by kernel_rfl) ?_
        refine runC_partV (b := w.heap.size) (by kernel_rfl) (show opAt (opsOf Tryz.f77 3) 13 = some (some 20, .fieldAddr 31 (.tmp 1) 3, some (12, true)) from by kernel_rfl) (by kernel_rfl) (by kernel_rfl) (by kernel_rfl) ?_
        refine runC_cell (b := w.heap.size) (j := 3) (v := .slice an nn cn) load_strs (show opAt (opsOf Tryz.f77 3) 14 = some (some 21, .load 24 (.tmp 20), some (12, true)) from by kernel_rfl) (by kernel_rfl) (by kernel_rfl) (by kernel_rfl) (List.Mem.head _) rfl ?_
        refine run_call (args := [.slice an nn cn, .func (.func 84) #[] #[]]) (show opAt (opsOf Tryz.f77 3) 15 = some (some 22, .call { callee := .value (.func 83), args := [(.tmp 21), (.func 84)].toArray, argTypes := [24, 90].toArray }, some (12, true)) from by kernel_rfl) (by kernel_rfl) (by kernel_rfl) (by kernel_rfl) (by kernel_rfl) ?_
        refine (CF.out _ H.out.1).mono ?_
        rintro en rw3 ⟨rfl, rfl⟩
        refine ⟨_, rfl, H.out, ?_⟩
        refine run_not (b := false) (show opAt (opsOf Tryz.f77 3) 16 = some (some 23, .unOp .not 4 (.tmp 22), some (12, true)) from by kernel_rfl) (by kernel_rfl) (by kernel_rfl) (by kernel_rfl) ?_
        refine run_pick (b := true) (v := .bool true) (show opAt (opsOf Tryz.f77 3) 17 = some (some 24, .pick (.tmp 19) (.tmp 23) (.const (.bool false)), none) from by kernel_rfl) (by kernel_rfl) (by kernel_rfl) (by kernel_rfl) (by kernel_rfl) ?_
        refine run_asg (v := .bool true) (show opAt (opsOf Tryz.f77 3) 18 = some (some 2, .assign (.tmp 24), none) from by kernel_rfl) (by kernel_rfl) (by kernel_rfl) (by kernel_rfl) ?_
        refine run_done ?_
        simp only [putAll, Act.put, List.setIfInBounds_toArray, List.set_cons_zero, List.set_cons_succ]
        go_wp2
        go_ret
        exact ⟨ret_yes X.out, H.out.1⟩
    · have CE := Lib.hid (fun (w1 : World) (hb : Below w.heap.size w w1) => (by have h := implAreEmpty an nn cn f hi w1 (hs w1 hb) (by omega); rw [bB_yes hs0] at h; exact h : Calls Tryz.prog 82 #[.slice an nn cn] w1 fun e w' => e = .returned (.bool true) ∧ w1 = w'))
      have X := Lib.hid (show ¬ NamesOk f nn L from fun h => h.2.2.elim (fun h' => h0 h') (fun h' => hs0 h'))
      have H := Lib.hid (heldC_one (below1 w _) (blk_new w (.cells #[.int .i64 kk, .slice ai ni ci, .slice ap np cp, .slice an nn cn, .slice ac nc cc, .slice al nl cl, .int .i64 code, .int .i64 env] 31) rfl))
      go_enter Tryz.func77, Tryz.ntmps77
      go_wp2
      refine run_region (ops := (opsOf Tryz.f77 3)) (S := fun w' => HeldC w w' ([(w.heap.size, 31, #[.int .i64 kk, .slice ai ni ci, .slice ap np cp, .slice an nn cn, .slice ac nc cc, .slice al nl cl, .int .i64 code, .int .i64 env])])) [(0, true), (1, true), (2, true), (3, true), (4, false), (5, true), (6, true), (7, true), (8, true), (9, false), (10, true), (11, true), (12, true), (13, true), (14, true), (15, false), (16, true), (17, true), (18, true)] (by kernel_rfl) (by kernel_rfl) (by kernel_rfl) (by kernel_rfl) (by kernel_rfl) (fun _ _ _ _ _ h => h) (heldC_drew H.out) ?_
      have H := Lib.hid (heldC_drew H.out)
      refine runC_partV (b := w.heap.size) (by kernel_rfl) (show opAt (opsOf Tryz.f77 3) 0 = some (some 7, .fieldAddr 31 (.tmp 1) 3, none) from by kernel_rfl) (by kernel_rfl) (by kernel_rfl) (by kernel_rfl) ?_
      refine runC_cell (b := w.heap.size) (j := 3) (v := .slice an nn cn) load_strs (show opAt (opsOf Tryz.f77 3) 1 = some (some 8, .load 24 (.tmp 7), none) from by kernel_rfl) (by kernel_rfl) (by kernel_rfl) (by kernel_rfl) (List.Mem.head _) rfl ?_
      refine run_len (b := an) (n := nn) (c := cn) (show opAt (opsOf Tryz.f77 3) 2 = some (some 9, .call { callee := .builtin .len, args := [(.tmp 8)].toArray, argTypes := [24].toArray }, none) from by kernel_rfl) (by kernel_rfl) (by kernel_rfl) (by kernel_rfl) (by kernel_rfl) ?_
      refine runC_vec (b := w.heap.size) (show opAt (opsOf Tryz.f77 3) 3 = some (some 10, .load 31 (.tmp 1), none) from by kernel_rfl) (by kernel_rfl) (by kernel_rfl) (by kernel_rfl) (List.Mem.head _) ?_
      refine run_call (args := [.agg #[.int .i64 kk, .slice ai ni ci, .slice ap np cp, .slice an nn cn, .slice ac nc cc, .slice al nl cl, .int .i64 code, .int .i64 env]]) (show opAt (opsOf Tryz.f77 3) 4 = some (some 11, .call { callee := .value (.func 68), args := [(.tmp 10)].toArray, argTypes := [31].toArray }, none) from by kernel_rfl) (by kernel_rfl) (by kernel_rfl) (by kernel_rfl) (by kernel_rfl) ?_
      refine (CL.out _).mono ?_
      rintro en rw1 ⟨rfl, hb⟩
      refine ⟨_, rfl, heldC_call H.out hb, ?_⟩
      have H := Lib.hid (heldC_call H.out hb)
      clear hb
      refine run_cmp (k := .i64) (p := (nn : Int)) (q := (L : Int)) (b := true) (show opAt (opsOf Tryz.f77 3) 5 = some (some 12, .binOp .eql 3 (.tmp 9) (.tmp 11) 3, none) from by kernel_rfl) (by kernel_rfl) (by kernel_rfl) (by kernel_rfl) (by kernel_rfl) (congrArg some (beq_iff_eq.2 (by have := HE.out; omega))) ?_
      refine run_mov (v := .bool true) (show opAt (opsOf Tryz.f77 3) 6 = some (some 13, .move (.tmp 12), none) from by kernel_rfl) (by kernel_rfl) (by kernel_rfl) (by kernel_rfl) ?_
      refine runC_partV (b := w.heap.size) (by kernel_rfl) (show opAt (opsOf Tryz.f77 3) 7 = some (some 14, .fieldAddr 31 (.tmp 1) 3, some (6, true)) from by kernel_rfl) (by kernel_rfl) (by kernel_rfl) (by kernel_rfl) ?_
      refine runC_cell (b := w.heap.size) (j := 3) (v := .slice an nn cn) load_strs (show opAt (opsOf Tryz.f77 3) 8 = some (some 15, .load 24 (.tmp 14), some (6, true)) from by kernel_rfl) (by kernel_rfl) (by kernel_rfl) (by kernel_rfl) (List.Mem.head _) rfl ?_
      refine run_call (args := [.slice an nn cn]) (show opAt (opsOf Tryz.f77 3) 9 = some (some 16, .call { callee := .value (.func 82), args := [(.tmp 15)].toArray, argTypes := [24].toArray }, some (6, true)) from by kernel_rfl) (by kernel_rfl) (by kernel_rfl) (by kernel_rfl) (by kernel_rfl) ?_
      refine (CE.out _ H.out.1).mono ?_
      rintro en rw2 ⟨rfl, rfl⟩
      refine ⟨_, rfl, H.out, ?_⟩
      refine run_not (b := true) (show opAt (opsOf Tryz.f77 3) 10 = some (some 17, .unOp .not 4 (.tmp 16), some (6, true)) from by kernel_rfl) (by kernel_rfl) (by kernel_rfl) (by kernel_rfl) ?_
      refine run_pick (b := true) (v := .bool false) (show opAt (opsOf Tryz.f77 3) 11 = some (some 18, .pick (.tmp 13) (.tmp 17) (.const (.bool false)), none) from by kernel_rfl) (by kernel_rfl) (by kernel_rfl) (by kernel_rfl) (by kernel_rfl) ?_
      refine run_mov (v := .bool false) (show opAt (opsOf Tryz.f77 3) 12 = some (some 19, .move (.tmp 18), none) from by kernel_rfl) (by kernel_rfl) (by kernel_rfl) (by kernel_rfl) ?_
      refine run_skip (show opAt (opsOf Tryz.f77 3) 13 = some (some 20, .fieldAddr 31 (.tmp 1) 3, some (12, true)) from by kernel_rfl) (by kernel_rfl) (by kernel_rfl) ?_
      refine run_skip (show opAt (opsOf Tryz.f77 3) 14 = some (some 21, .load 24 (.tmp 20), some (12, true)) from by kernel_rfl) (by kernel_rfl) (by kernel_rfl) ?_
      refine run_pass (show opAt (opsOf Tryz.f77 3) 15 = some (some 22, .call { callee := .value (.func 83), args := [(.tmp 21), (.func 84)].toArray, argTypes := [24, 90].toArray }, some (12, true)) from by kernel_rfl) (by kernel_rfl) (by kernel_rfl) H.out ?_
      refine run_skip (show opAt (opsOf Tryz.f77 3) 16 = some (some 23, .unOp .not 4 (.tmp 22), some (12, true)) from by kernel_rfl) (by kernel_rfl) (by kernel_rfl) ?_
      refine run_pick (b := false) (v := .bool false) (show opAt (opsOf Tryz.f77 3) 17 = some (some 24, .pick (.tmp 19) (.tmp 23) (.const (.bool false)), none) from by kernel_rfl) (by kernel_rfl) (by kernel_rfl) (by kernel_rfl) (by kernel_rfl) ?_
      refine run_asg (v := .bool false) (show opAt (opsOf Tryz.f77 3) 18 = some (some 2, .assign (.tmp 24), none) from by kernel_rfl) (by kernel_rfl) (by kernel_rfl) (by kernel_rfl) ?_
      refine run_done ?_
      simp only [putAll, Act.put, List.setIfInBounds_toArray, List.set_cons_zero, List.set_cons_succ]
      go_wp2
      go_ret
      exact ⟨ret_no X.out, H.out.1⟩
  · have HE := Lib.hid he
    have X := Lib.hid (show ¬ NamesOk f nn L from fun h => h.1.elim (fun h' => h0 h') (fun h' => he h'))
    clear he
    have H := Lib.hid (heldC_one (below1 w _) (blk_new w (.cells #[.int .i64 kk, .slice ai ni ci, .slice ap np cp, .slice an nn cn, .slice ac nc cc, .slice al nl cl, .int .i64 code, .int .i64 env] 31) rfl))
    go_enter Tryz.func77, Tryz.ntmps77
    go_wp2
    refine run_region (ops := (opsOf Tryz.f77 3)) (S := fun w' => HeldC w w' ([(w.heap.size, 31, #[.int .i64 kk, .slice ai ni ci, .slice ap np cp, .slice an nn cn, .slice ac nc cc, .slice al nl cl, .int .i64 code, .int .i64 env])])) [(0, true), (1, true), (2, true), (3, true), (4, false), (5, true), (6, true), (7, true), (8, true), (9, false), (10, true), (11, true), (12, true), (13, true), (14, true), (15, false), (16, true), (17, true), (18, true)] (by kernel_rfl) (by kernel_rfl) (by kernel_rfl) (by kernel_rfl) (by kernel_rfl) (fun _ _ _ _ _ h => h) (heldC_drew H.out) ?_
    have H := Lib.hid (heldC_drew H.out)
    refine runC_partV (b := w.heap.size) (by kernel_rfl) (show opAt (opsOf Tryz.f77 3) 0 = some (some 7, .fieldAddr 31 (.tmp 1) 3, none) from by kernel_rfl) (by kernel_rfl) (by kernel_rfl) (by kernel_rfl) ?_
    refine runC_cell (b := w.heap.size) (j := 3) (v := .slice an nn cn) load_strs (show opAt (opsOf Tryz.f77 3) 1 = some (some 8, .load 24 (.tmp 7), none) from by kernel_rfl) (by kernel_rfl) (by kernel_rfl) (by kernel_rfl) (List.Mem.head _) rfl ?_
    refine run_len (b := an) (n := nn) (c := cn) (show opAt (opsOf Tryz.f77 3) 2 = some (some 9, .call { callee := .builtin .len, args := [(.tmp 8)].toArray, argTypes := [24].toArray }, none) from by kernel_rfl) (by kernel_rfl) (by kernel_rfl) (by kernel_rfl) (by kernel_rfl) ?_
    refine runC_vec (b := w.heap.size) (show opAt (opsOf Tryz.f77 3) 3 = some (some 10, .load 31 (.tmp 1), none) from by kernel_rfl) (by kernel_rfl) (by kernel_rfl) (by kernel_rfl) (List.Mem.head _) ?_
    refine run_call (args := [.agg #[.int .i64 kk, .slice ai ni ci, .slice ap np cp, .slice an nn cn, .slice ac nc cc, .slice al nl cl, .int .i64 code, .int .i64 env]]) (show opAt (opsOf Tryz.f77 3) 4 = some (some 11, .call { callee := .value (.func 68), args := [(.tmp 10)].toArray, argTypes := [31].toArray }, none) from by kernel_rfl) (by kernel_rfl) (by kernel_rfl) (by kernel_rfl) (by kernel_rfl) ?_
    refine (CL.out _).mono ?_
    rintro en rw1 ⟨rfl, hb⟩
    refine ⟨_, rfl, heldC_call H.out hb, ?_⟩
    have H := Lib.hid (heldC_call H.out hb)
    clear hb
    refine run_cmp (k := .i64) (p := (nn : Int)) (q := (L : Int)) (b := false) (show opAt (opsOf Tryz.f77 3) 5 = some (some 12, .binOp .eql 3 (.tmp 9) (.tmp 11) 3, none) from by kernel_rfl) (by kernel_rfl) (by kernel_rfl) (by kernel_rfl) (by kernel_rfl) (congrArg some (beq_eq_false_iff_ne.2 (by have := HE.out; omega))) ?_
    refine run_mov (v := .bool false) (show opAt (opsOf Tryz.f77 3) 6 = some (some 13, .move (.tmp 12), none) from by kernel_rfl) (by kernel_rfl) (by kernel_rfl) (by kernel_rfl) ?_
    refine run_skip (show opAt (opsOf Tryz.f77 3) 7 = some (some 14, .fieldAddr 31 (.tmp 1) 3, some (6, true)) from by kernel_rfl) (by kernel_rfl) (by kernel_rfl) ?_
    refine run_skip (show opAt (opsOf Tryz.f77 3) 8 = some (some 15, .load 24 (.tmp 14), some (6, true)) from by kernel_rfl) (by kernel_rfl) (by kernel_rfl) ?_
    refine run_pass (show opAt (opsOf Tryz.f77 3) 9 = some (some 16, .call { callee := .value (.func 82), args := [(.tmp 15)].toArray, argTypes := [24].toArray }, some (6, true)) from by kernel_rfl) (by kernel_rfl) (by kernel_rfl) H.out ?_
    refine run_skip (show opAt (opsOf Tryz.f77 3) 10 = some (some 17, .unOp .not 4 (.tmp 16), some (6, true)) from by kernel_rfl) (by kernel_rfl) (by kernel_rfl) ?_
    refine run_pick (b := false) (v := .bool false) (show opAt (opsOf Tryz.f77 3) 11 = some (some 18, .pick (.tmp 13) (.tmp 17) (.const (.bool false)), none) from by kernel_rfl) (by kernel_rfl) (by kernel_rfl) (by kernel_rfl) (by kernel_rfl) ?_
    refine run_mov (v := .bool false) (show opAt (opsOf Tryz.f77 3) 12 = some (some 19, .move (.tmp 18), none) from by kernel_rfl) (by kernel_rfl) (by kernel_rfl) (by kernel_rfl) ?_
    refine run_skip (show opAt (opsOf Tryz.f77 3) 13 = some (some 20, .fieldAddr 31 (.tmp 1) 3, some (12, true)) from by kernel_rfl) (by kernel_rfl) (by kernel_rfl) ?_
    refine run_skip (show opAt (opsOf Tryz.f77 3) 14 = some (some 21, .load 24 (.tmp 20), some (12, true)) from by kernel_rfl) (by kernel_rfl) (by kernel_rfl) ?_
    refine run_pass (show opAt (opsOf Tryz.f77 3) 15 = some (some 22, .call { callee := .value (.func 83), args := [(.tmp 21), (.func 84)].toArray, argTypes := [24, 90].toArray }, some (12, true)) from by kernel_rfl) (by kernel_rfl) (by kernel_rfl) H.out ?_
    refine run_skip (show opAt (opsOf Tryz.f77 3) 16 = some (some 23, .unOp .not 4 (.tmp 22), some (12, true)) from by kernel_rfl) (by kernel_rfl) (by kernel_rfl) ?_
    refine run_pick (b := false) (v := .bool false) (show opAt (opsOf Tryz.f77 3) 17 = some (some 24, .pick (.tmp 19) (.tmp 23) (.const (.bool false)), none) from by kernel_rfl) (by kernel_rfl) (by kernel_rfl) (by kernel_rfl) (by kernel_rfl) ?_
    refine run_asg (v := .bool false) (show opAt (opsOf Tryz.f77 3) 18 = some (some 2, .assign (.tmp 24), none) from by kernel_rfl) (by kernel_rfl) (by kernel_rfl) (by kernel_rfl) ?_
    refine run_done ?_
    simp only [putAll, Act.put, List.setIfInBounds_toArray, List.set_cons_zero, List.set_cons_succ]
    go_wp2
    go_ret
    exact ⟨ret_no X.out, H.out.1⟩

theorem fields_of {k : Int} {items : List It} {ni np L nn nc nl : Nat} {names cls levels : Nat → ByteArray} {code env : Int} (h : FlatN k items ni np L names nn cls nc levels nl code env) (hL : lenV k ni np = L) : FieldsOk k ni np nn nc nl code env :=
  ⟨h.h_kind, h.h_code, h.h_noLevels, h.h_noParts, h.h_func, fun e => by have := h.h_null e; omega, h.h_list⟩
theorem flatN_mk {k : Int} {items : List It} {ni np L nn nc nl : Nat} {names cls levels : Nat → ByteArray} {code env : Int} (h1 : FieldsOk k ni np nn nc nl code env) (h2 : L ≤ 40) (h3 : NamesOk names nn L) (h4 : LabelsOk cls nc 3) (h5 : LabelsOk levels nl 20) (hni : items.length = ni) (hL : lenV k ni np = L) (h6 : ItemsOk k items nl) :
    FlatN k items ni np L names nn cls nc levels nl code env := by
  obtain ⟨g1, g2, g3, g4, g5, g6, g7⟩ := h1
  exact ⟨g1, h2, h3.1, h3.2, h4, h5, g2, g3, g4, g5, fun e => by have := g6 e; have := g4 (by omega); omega, g7, fun i hi => h6 i (by rw [hni]; exact hi)⟩
set_option maxHeartbeats 4000000 in
theorem implFlat (d : Nat) (v : Vec) (val : Value) (lo hi : Nat) (w : World) (hv : VecAt lo hi w d v val) (hhi : hi ≤ w.heap.size) (hsm : Small d v) :
    Calls Tryz.prog 67 #[val] w fun e w' => e = .returned (.bool (bB (FlatV v))) ∧ Below w.heap.size w w' := by
  obtain ⟨kk, items, parts, names, cls, levels, code, env⟩ := v
  obtain ⟨d', ai, ci, ap, cp, an, cn, ac, cc, al, cl, rfl, rfl, hI, hN, hC, hL, hP, hcap⟩ := vecAt_openC hv
  obtain ⟨li, lp, ln, lc, ll, bi, bn, bc, bl, _⟩ := hsm
  have sz : ∀ (l : List ByteArray), (∀ s ∈ l, s.size ≤ 1048576) → ∀ i, i < l.length → (txtS l i).size ≤ 9223372036854775807 := by
    intro l h i hi
    unfold txtS
    rw [List.getD_eq_getElem?_getD, List.getElem?_eq_getElem hi]
    exact Nat.le_trans (h _ (List.getElem_mem hi)) (by omega)
  have hit : ∀ i, i < items.length → (items.getD i noI).t.size ≤ 1048576 := by
    intro i hi
    rw [List.getD_eq_getElem?_getD, List.getElem?_eq_getElem hi]
    exact bi _ (List.getElem_mem hi)
  have CCl := Lib.hid (fun (w1 : World) (hb : Below w.heap.size w w1) => (implLabels ac cls.length cc 3 (txtS cls) hi w1 (hC.below hb hhi).strs hcap.2.2.2.1 (by omega) (by omega) (sz cls bc) : Calls Tryz.prog 78 #[.slice ac cls.length cc, .int .i64 3] w1 _))
  have CLv := Lib.hid (fun (w1 : World) (hb : Below w.heap.size w w1) => (implLabels al levels.length cl 20 (txtS levels) hi w1 (hL.below hb hhi).strs hcap.2.2.2.2 (by omega) (by omega) (sz levels bl) : Calls Tryz.prog 78 #[.slice al levels.length cl, .int .i64 20] w1 _))
  have CIt := Lib.hid (fun (w1 : World) (hb : Below w.heap.size w w1) => implItems kk items ai ap an ac al ci parts.length cp names.length cn cls.length cc levels.length cl code env lo hi w1 (hI.below hb hhi) (Nat.le_trans hhi hb.size) hit li ll)
  have CLn := Lib.hid (fun (w1 : World) => implLen kk ai ap an ac al items.length ci parts.length cp names.length cn cls.length cc levels.length cl code env w1 li lp)
  have CFd := Lib.hid (fun (w1 : World) => implFields kk ai ap an ac al items.length ci parts.length cp names.length cn cls.length cc levels.length cl code env w1)
  obtain ⟨L, hL_⟩ : ∃ L, lenV kk items.length parts.length = L := ⟨_, rfl⟩
  have CNm := Lib.hid (fun (w1 : World) (hb : Below w.heap.size w w1) => implNames kk ai items.length ap an ac al ci parts.length cp names.length cn cls.length cc levels.length cl code env (txtS names) hi w1 (fun w2 hb2 => (hN.below (hb.trans (hb2.mono hb.size)) hhi).strs) (sz names bn) li lp ln L hL_)
  have XF := Lib.hid (flatN_iff (k := kk) (items := items) (parts := parts) (names := names) (cls := cls) (levels := levels) (code := code) (env := env))
  clear hv hI hN hC hL hP sz hit bi bn bc bl
  obtain ⟨ni, hni⟩ : ∃ x, items.length = x := ⟨_, rfl⟩
  obtain ⟨np, hnp⟩ : ∃ x, parts.length = x := ⟨_, rfl⟩
  obtain ⟨nn, hnn⟩ : ∃ x, names.length = x := ⟨_, rfl⟩
  obtain ⟨nc, hnc⟩ : ∃ x, cls.length = x := ⟨_, rfl⟩
  obtain ⟨nl, hnl⟩ : ∃ x, levels.length = x := ⟨_, rfl⟩
  rw [hL_] at CLn XF
  rw [hni] at hL_ CLn CFd CIt CNm XF li
  rw [hnp] at hL_ CLn CFd CIt CNm XF lp
  rw [hnn] at CLn CFd CIt CNm XF ln
  rw [hnc] at CLn CFd CIt CNm CCl XF lc
  rw [hnl] at CLn CFd CIt CNm CLv XF ll
  rw [hni, hnp, hnn, hnc, hnl, bB_iff XF.out]
  have EL := Lib.hid hL_
  have EI := Lib.hid hni
  clear hL_ hni hnp hnn hnc hnl hcap XF
  go_enter Tryz.func67, Tryz.ntmps67
  go_wp2_with fail
  have B0 := Lib.hid (below1 w (.cells #[.int .i64 kk, .slice ai ni ci, .slice ap np cp, .slice an nn cn, .slice ac nc cc, .slice al nl cl, .int .i64 code, .int .i64 env] 31))
  have K0 := Lib.hid (blk_new w (.cells #[.int .i64 kk, .slice ai ni ci, .slice ap np cp, .slice an nn cn, .slice ac nc cc, .slice al nl cl, .int .i64 code, .int .i64 env] 31) rfl)
  obtain ⟨k0, k1, k2, k3, k4, k5, k6, k7⟩ := vec8 K0.out
  refine (CFd.out _).mono ?_
  rintro e w1 ⟨rfl, b⟩
  have B1 := Lib.hid (below_then B0.out b)
  have K1 := Lib.hid (blk_below b K0.out)
  clear b k0 k1 k2 k3 k4 k5 k6 k7
  obtain ⟨k0, k1, k2, k3, k4, k5, k6, k7⟩ := vec8 K1.out
  by_cases q1 : FieldsOk kk ni np nn nc nl code env
  · rw [bB_yes q1]
    have Q1 := Lib.hid q1
    clear q1
    go_wp2_with fail
    refine (CLn.out _).mono ?_
    rintro e w2 ⟨rfl, b⟩
    have B2 := Lib.hid (below_then B1.out b)
    have K2 := Lib.hid (blk_below b K1.out)
    clear b k0 k1 k2 k3 k4 k5 k6 k7
    obtain ⟨k0, k1, k2, k3, k4, k5, k6, k7⟩ := vec8 K2.out
    by_cases q2 : L ≤ 40
    · go_wp2_with fail
      refine (CNm.out _ B2.out).mono ?_
      rintro e w3 ⟨rfl, b⟩
      have B3 := Lib.hid (below_then B2.out b)
      have K3 := Lib.hid (blk_below b K2.out)
      clear b k0 k1 k2 k3 k4 k5 k6 k7
      obtain ⟨k0, k1, k2, k3, k4, k5, k6, k7⟩ := vec8 K3.out
      by_cases q3 : NamesOk (txtS names) nn L
      · rw [bB_yes q3]
        have Q3 := Lib.hid q3
        clear q3
        go_wp2_with fail
        refine (CCl.out _ B3.out).mono ?_
        rintro e w' ⟨rfl, rfl⟩
        by_cases q4 : LabelsOk (txtS cls) nc 3
        · rw [bB_yes q4]
          have Q4 := Lib.hid q4
          clear q4
          go_wp2_with fail
          refine (CLv.out _ B3.out).mono ?_
          rintro e w' ⟨rfl, rfl⟩
          by_cases q5 : LabelsOk (txtS levels) nl 20
          · rw [bB_yes q5]
            have Q5 := Lib.hid q5
            clear q5
            go_wp2_with fail
            refine (CIt.out _ B3.out).mono ?_
            rintro e w6 ⟨rfl, b⟩
            have B6 := Lib.hid (below_then B3.out b)
            clear b
            by_cases q6 : ItemsOk kk items nl
            · have X := Lib.hid (show FlatN kk items ni np L (txtS names) nn (txtS cls) nc (txtS levels) nl code env from flatN_mk Q1.out (by omega) Q3.out Q4.out Q5.out EI.out EL.out q6)
              rw [bB_yes q6]
              clear q6
              go_wp2
              go_ret
              exact ⟨ret_yes X.out, B6.out⟩
            · have X := Lib.hid (show ¬ FlatN kk items ni np L (txtS names) nn (txtS cls) nc (txtS levels) nl code env from fun h => q6 (fun i hi => h.h_items i (by rw [EI.out] at hi; exact hi)))
              rw [bB_no q6]
              clear q6
              go_wp2
              go_ret
              exact ⟨ret_no X.out, B6.out⟩
          · have X := Lib.hid (show ¬ FlatN kk items ni np L (txtS names) nn (txtS cls) nc (txtS levels) nl code env from fun h => q5 h.h_levels)
            rw [bB_no q5]
            clear q5
            go_wp2
            go_ret
            exact ⟨ret_no X.out, B3.out⟩
        · have X := Lib.hid (show ¬ FlatN kk items ni np L (txtS names) nn (txtS cls) nc (txtS levels) nl code env from fun h => q4 h.h_cls)
          rw [bB_no q4]
          clear q4
          go_wp2
          go_ret
          exact ⟨ret_no X.out, B3.out⟩
      · have X := Lib.hid (show ¬ FlatN kk items ni np L (txtS names) nn (txtS cls) nc (txtS levels) nl code env from fun h => q3 ⟨h.h_names, h.h_named⟩)
        rw [bB_no q3]
        clear q3
        go_wp2
        go_ret
        exact ⟨ret_no X.out, B3.out⟩
    · have X := Lib.hid (show ¬ FlatN kk items ni np L (txtS names) nn (txtS cls) nc (txtS levels) nl code env from fun h => q2 h.h_len)
      go_wp2
      go_ret
      exact ⟨ret_no X.out, B2.out⟩
  · have X := Lib.hid (show ¬ FlatN kk items ni np L (txtS names) nn (txtS cls) nc (txtS levels) nl code env from fun h => q1 (fields_of h EL.out))
    rw [bB_no q1]
    clear q1
    go_wp2
    go_ret
    exact ⟨ret_no X.out, B1.out⟩
end Go.Proofs.YtikgcogiiohahaaGreatDoor

/- How many cells a vector has, by the reference; the reference's IsVector, CellCount and LengthOf. -/
namespace Go.Proofs.YtikgcogiiohahaaGreatDoor
open Go.RowKit
set_option maxRecDepth 100000
set_option linter.unusedVariables false

theorem sIsAll : ∀ n, n ≤ 3 → SIsOk n
  | 0, h => sIsStep 0 h (fun m e => by omega)
  | n + 1, h => sIsStep (n + 1) h (fun m e => (Nat.succ.inj e) ▸ sIsAll n (by omega))
theorem cellsV_eq {n : Nat} {v : Vec} (h : IsV n v) : cellsV n v = lengthV v + sumN (fun i => cellsV (n - 1) ((partsV v).getD i noV)) (partsV v).length := by
  cases n with
  | zero =>
    have h0 : (partsV v).length = 0 := h.2
    rw [h0]; rfl
  | succ n => rfl
theorem VecAt.cells {lo hi : Nat} {w : World} {d : Nat} {v : Vec} {u0 u1 u2 u3 u4 u5 u6 u7 : Value} (h : VecAt lo hi w d v (.agg #[u0, u1, u2, u3, u4, u5, u6, u7])) :
    ∃ (k : Int) (a1 : Option Addr) (n1 m1 : Nat) (a2 : Option Addr) (n2 m2 : Nat) (a3 : Option Addr) (n3 m3 : Nat) (a4 : Option Addr) (n4 m4 : Nat) (a5 : Option Addr) (n5 m5 : Nat) (c e : Int),
      u0 = .int .i64 k ∧ u1 = .slice a1 n1 m1 ∧ u2 = .slice a2 n2 m2 ∧ u3 = .slice a3 n3 m3 ∧ u4 = .slice a4 n4 m4 ∧ u5 = .slice a5 n5 m5 ∧ u6 = .int .i64 c ∧ u7 = .int .i64 e := by
  obtain ⟨kk, items, parts, names, cls, levels, code, env⟩ := v
  obtain ⟨d', ai, ci, ap, cp, an, cn, ac, cc, al, cl, ed, he, _⟩ := vecAt_open h
  simp only [Value.agg.injEq, Array.mk.injEq, List.cons.injEq, and_true] at he
  obtain ⟨e0, e1, e2, e3, e4, e5, e6, e7⟩ := he
  exact ⟨_, _, _, _, _, _, _, _, _, _, _, _, _, _, _, _, _, _, e0, e1, e2, e3, e4, e5, e6, e7⟩
theorem capC3 : ∀ n, n ≤ 3 → capC n ≤ 3000000
  | 0, _ => by decide
  | 1, _ => by decide
  | 2, _ => by decide
  | 3, _ => by decide
  | n + 4, h => by omega
structure SCeOk (n : Nat) : Prop where
  out : ∀ (d : Nat) (v : Vec) (val : Value) (lo hi : Nat) (w : World), VecAt lo hi w d v val → hi ≤ w.heap.size → Small d v → IsV n v →
    Calls Tryz.prog 50 #[val] w fun e w' => e = .returned (.int .i64 (cellsV n v)) ∧ Below w.heap.size w w'
set_option maxHeartbeats 2000000 in
theorem sCeStep (n : Nat) (hn3 : n ≤ 3) (IH : ∀ m, n = m + 1 → SCeOk m) : SCeOk n := by
  refine ⟨fun d v val lo hi w hv hhi hsm hok => ?_⟩
  have hcap := Nat.le_trans (cells_cap n v hok) (capC3 n hn3)
  have hcell := cellsV_eq hok
  have hflat := hok.flat.len
  obtain ⟨kk, items, parts, names, cls, levels, code, env⟩ := v
  obtain ⟨d', ai, ci, ap, cp, an, cn, ac, cc, al, cl, ed, rfl, hI, hN, hC, hL, hP⟩ := vecAt_open hv
  subst ed
  have hsp : ∀ i, i < parts.length → Small d' (parts.getD i noV) := fun i hi => hsm.part hi
  obtain ⟨li, lp, ln, lc, ll, _⟩ := hsm
  have CLn := Lib.hid (fun (w1 : World) => specLen kk ai ap an ac al items.length ci parts.length cp names.length cn cls.length cc levels.length cl code env w1 li lp)
  have AP := Lib.hid (fun (k : Nat) (w1 : World) (hk : k < parts.length) (hb : Below w.heap.size w w1) => (hP.below hb hhi).at_ hk)
  have CIs := Lib.hid (fun (i : Nat) (w1 : World) (val : Value) (hi' : i < parts.length) (hb : Below w.heap.size w w1) (hv : VecAt lo hi w1 d' (parts.getD i noV) val) => (by
    obtain ⟨h0, hp⟩ := (isV_iff.1 hok).2 i hi'
    obtain ⟨m, rfl⟩ : ∃ m, n = m + 1 := ⟨n - 1, by omega⟩
    exact (IH m rfl).out d' _ val lo hi w1 hv (Nat.le_trans hhi hb.size) (hsp i hi') hp : Calls Tryz.prog 50 #[val] w1 fun e w' => e = .returned (.int .i64 (cellsV (n - 1) (parts.getD i noV))) ∧ Below w1.heap.size w1 w'))
  rw [hcell] at hcap ⊢
  have e1 : lengthV (.mk kk items parts names cls levels code env) = lenV kk items.length parts.length := rfl
  have e2 : partsV (.mk kk items parts names cls levels code env) = parts := rfl
  rw [e1, e2] at hcap ⊢
  obtain ⟨f, hf⟩ : ∃ f, (fun i => cellsV (n - 1) (parts.getD i noV)) = f := ⟨_, rfl⟩
  have hfk : ∀ k, cellsV (n - 1) (parts.getD k noV) = f k := fun k => by rw [← hf]
  rw [hf] at hcap ⊢
  simp only [hfk] at CIs
  clear hv hI hN hC hL hP hsp IH hok hcell hflat e1 e2 hf hfk
  obtain ⟨ni, hni⟩ : ∃ x, items.length = x := ⟨_, rfl⟩
  obtain ⟨np, hnp⟩ : ∃ x, parts.length = x := ⟨_, rfl⟩
  obtain ⟨nn, hnn⟩ : ∃ x, names.length = x := ⟨_, rfl⟩
  obtain ⟨nc, hnc⟩ : ∃ x, cls.length = x := ⟨_, rfl⟩
  obtain ⟨nl, hnl⟩ : ∃ x, levels.length = x := ⟨_, rfl⟩
  obtain ⟨L, hL⟩ : ∃ L, lenV kk ni np = L := ⟨_, rfl⟩
  rw [hni, hnp, hnn, hnc, hnl] at CLn
  rw [hnp] at AP CIs lp
  rw [hni, hnp] at hcap
  rw [hni, hnp, hnn, hnc, hnl]
  rw [hL] at CLn hcap ⊢
  clear hni hnp hnn hnc hnl hL li ln lc ll
  have HC := Lib.hid hcap
  clear hcap
  go_enter Tryz.func50, Tryz.ntmps50
  go_wp2_with fail
  with_reducible refine (CLn.out _).mono ?_
  rintro e w2 ⟨rfl, b2⟩
  have B2 := Lib.hid (below_then (below1 w _) b2)
  have K2 := Lib.hid (blk_below b2 (blk_new w _ rfl))
  clear b2
  obtain ⟨k0, k1, k2, k3, k4, k5, k6, k7⟩ := vec8 K2.out
  go_wp2_with fail
  go_loopw [3, 4] (fun c i wr => ∃ k : Nat, k ≤ np ∧ i = .int .i64 k ∧ c = .int .i64 ((L + sumN f k : Nat) : Int) ∧ Below w.heap.size w wr ∧ wr.heap[w.heap.size]? = w2.heap[w.heap.size]?) (fun _ i _ => np - (intOf i).toNat)
  case atStart => exact ⟨0, Nat.zero_le _, rfl, by simp [sumN], B2.out, rfl⟩
  case round =>
    obtain ⟨k, hk, rfl, rfl, hb, hblk⟩ := hrel
    have BB := Lib.hid hb
    have KB := Lib.hid (hblk.trans K2.out)
    clear hb hblk k0 k1 k2 k3 k4 k5 k6 k7
    obtain ⟨k0, k1, k2, k3, k4, k5, k6, k7⟩ := vec8 KB.out
    by_cases hlt : k < np
    · obtain ⟨b, off, u0, u1, u2, u3, u4, u5, u6, u7, rfl, hbB, hv, c0, c1, c2, c3, c4, c5, c6, c7⟩ := AP.out _ _ hlt BB.out
      have C := Lib.hid (CIs.out k wr _ hlt BB.out hv)
      clear hv
      have hs1 := sumN_at f hlt
      have hs2 := HC.out
      go_wp2_with fail
      with_reducible refine C.out.mono ?_
      rintro e w4 ⟨rfl, b4⟩
      have B4 := Lib.hid (below_then BB.out b4)
      have K4 := Lib.hid ((blk_below b4 KB.out).trans K2.out.symm)
      clear b4
      have hs3 : (0 : Int) ≤ ((L + sumN f k : Nat) : Int) + (f k : Int) := by omega
      have hs4 : ((L + sumN f k : Nat) : Int) + (f k : Int) ≤ 3000000 := by omega
      go_wp2
      go_roundw
      case rel => exact ⟨k + 1, by omega, by go_num, by simp only [sumN]; congr 1; omega, B4.out, K4.out⟩
      case measure => simp [intOf]; omega
    · obtain rfl : k = np := by omega
      go_wp2
      go_ret
      exact ⟨rfl, BB.out⟩
theorem sCeAll : ∀ n, n ≤ 3 → SCeOk n
  | 0, h => sCeStep 0 h (fun m e => by omega)
  | n + 1, h => sCeStep (n + 1) h (fun m e => (Nat.succ.inj e) ▸ sCeAll n (by omega))
/-- The number of cells of a valid vector that is not too large, else 0. -/
noncomputable def cntV (n : Nat) (v : Vec) : Int := match bB (CountOk n v) with | true => cellsV n v | false => 0
theorem cnt_yes {n : Nat} {v : Vec} (h : CountOk n v) : cntV n v = cellsV n v := by unfold cntV; rw [bB_yes h]
theorem cnt_no {n : Nat} {v : Vec} (h : ¬ CountOk n v) : cntV n v = 0 := by unfold cntV; rw [bB_no h]
noncomputable def lenOkV (v : Vec) : Int := match bB (ValidV v) with | true => lengthV v | false => 0
set_option maxHeartbeats 1000000 in
theorem specIsVector (d : Nat) (v : Vec) (val : Value) (lo hi : Nat) (w : World) (hv : VecAt lo hi w d v val) (hhi : hi ≤ w.heap.size) (hsm : Small d v) :
    Calls Tryz.prog 37 #[val] w fun e w' => e = .returned (.bool (bB (ValidV v))) ∧ Below w.heap.size w w' := by
  have C1 := Lib.hid (fun (w1 : World) (hb : Below w.heap.size w w1) => (show Calls Tryz.prog 49 #[val, .int .i64 3] w1 (fun e w' => e = .returned (.bool (bB (IsV 3 v))) ∧ Below w1.heap.size w1 w') from (sIsAll 3 (Nat.le_refl _)).out d v val lo hi w1 (hv.below hb hhi) (Nat.le_trans hhi hb.size) hsm))
  have C2 := Lib.hid (fun (hok : IsV 3 v) (w1 : World) (hb : Below w.heap.size w w1) => (sCeAll 3 (Nat.le_refl _)).out d v val lo hi w1 (hv.below hb hhi) (Nat.le_trans hhi hb.size) hsm hok)
  have XV := Lib.hid (show ValidV v ↔ IsV 3 v ∧ cellsV 3 v ≤ 200 from Iff.rfl)
  obtain ⟨VV, hVV⟩ : ∃ VV, v = VV := ⟨_, rfl⟩
  have HV := Lib.hid hVV
  rw [hVV] at C1 C2 XV ⊢
  clear hVV
  obtain ⟨kk, items, parts, names, cls, levels, code, env⟩ := v
  obtain ⟨d', ai, ci, ap, cp, an, cn, ac, cc, al, cl, ed, rfl, hI, hN, hC, hL, hP⟩ := vecAt_open hv
  clear hv hI hN hC hL hP hsm HV
  go_enter Tryz.func37, Tryz.ntmps37
  go_wp2_with fail
  have B0 := Lib.hid (below1 w (.cells #[.int .i64 kk, .slice ai items.length ci, .slice ap parts.length cp, .slice an names.length cn, .slice ac cls.length cc, .slice al levels.length cl, .int .i64 code, .int .i64 env] 31))
  have K0 := Lib.hid (blk_new w (.cells #[.int .i64 kk, .slice ai items.length ci, .slice ap parts.length cp, .slice an names.length cn, .slice ac cls.length cc, .slice al levels.length cl, .int .i64 code, .int .i64 env] 31) rfl)
  with_reducible refine (C1.out _ B0.out).mono ?_
  rintro e w1 ⟨rfl, b⟩
  have B1 := Lib.hid (below_then B0.out b)
  have K1 := Lib.hid (blk_below b K0.out)
  clear b
  by_cases h : IsV 3 VV
  · rw [bB_yes h]
    have C := Lib.hid (C2.out h)
    obtain ⟨x, hx⟩ : ∃ x, cellsV 3 VV = x := ⟨_, rfl⟩
    have XX := Lib.hid (show ValidV VV ↔ x ≤ 200 from ⟨fun h' => hx ▸ (XV.out.1 h').2, fun h' => XV.out.2 ⟨h, hx.symm ▸ h'⟩⟩)
    rw [hx] at C
    clear hx h C1 C2
    obtain ⟨k0, k1, k2, k3, k4, k5, k6, k7⟩ := vec8 K1.out
    go_wp2_with fail
    with_reducible refine (C.out _ B1.out).mono ?_
    rintro e w2 ⟨rfl, b⟩
    have B2 := Lib.hid (below_then B1.out b)
    clear b k0 k1 k2 k3 k4 k5 k6 k7
    by_cases h2 : x ≤ 200
    · have X := Lib.hid (XX.out.2 h2)
      go_wp2
      go_ret
      exact ⟨ret_bB (by rw [bB_yes X.out] <;> (first | rfl | exact decide_eq_true (by omega) | (simp; omega))), B2.out⟩
    · have X := Lib.hid (fun h' => h2 (XX.out.1 h') : ¬ ValidV VV)
      go_wp2
      go_ret
      exact ⟨ret_bB (by rw [bB_no X.out] <;> (first | rfl | exact decide_eq_false (by omega) | (simp; omega))), B2.out⟩
  · have X := Lib.hid (fun h' => h (XV.out.1 h').1 : ¬ ValidV VV)
    rw [bB_no h]
    clear h
    go_wp2
    go_ret
    exact ⟨ret_no X.out, B1.out⟩
end Go.Proofs.YtikgcogiiohahaaGreatDoor

/- The program's countCells, IsVector, CellCount and LengthOf. -/
namespace Go.Proofs.YtikgcogiiohahaaGreatDoor
open Go.RowKit
set_option maxRecDepth 100000
set_option linter.unusedVariables false

theorem count_iff {n : Nat} {v : Vec} : CountOk n v ↔ FlatV v ∧ (n = 0 → (partsV v).length = 0) ∧ (∀ i, i < (partsV v).length → CountOk (n - 1) ((partsV v).getD i noV)) ∧ lengthV v + sumN (fun i => cellsV (n - 1) ((partsV v).getD i noV)) (partsV v).length ≤ 200 := by
  constructor
  · rintro ⟨h, hc⟩
    have e := cellsV_eq h
    rw [e] at hc
    have hi := isV_iff.1 h
    refine ⟨hi.1, fun h0 => ?_, fun i hi' => ⟨(hi.2 i hi').2, ?_⟩, hc⟩
    · rcases Nat.eq_zero_or_pos (partsV v).length with e | e
      · exact e
      · exact absurd h0 (hi.2 0 e).1
    · have := sumN_at (fun i => cellsV (n - 1) ((partsV v).getD i noV)) hi'
      (try simp only at this)
      omega
  · rintro ⟨h1, h2, h3, h4⟩
    have h : IsV n v := isV_iff.2 ⟨h1, fun i hi => ⟨fun h0 => by have := h2 h0; omega, (h3 i hi).1⟩⟩
    exact ⟨h, by rw [cellsV_eq h]; exact h4⟩
structure ICoOk (n : Nat) : Prop where
  out : ∀ (d : Nat) (v : Vec) (val : Value) (lo hi : Nat) (w : World), VecAt lo hi w d v val → hi ≤ w.heap.size → Small d v →
    Calls Tryz.prog 53 #[val, .int .i64 n] w fun e w' => e = .returned (.tuple #[.int .i64 (cntV n v), .bool (bB (CountOk n v))]) ∧ Below w.heap.size w w'
theorem ret2_no {n : Nat} {v : Vec} (h : ¬ CountOk n v) : Ending.returned (.tuple #[.int .i64 0, .bool false]) = .returned (.tuple #[.int .i64 (cntV n v), .bool (bB (CountOk n v))]) := by rw [cnt_no h, bB_no h]
theorem ret2_yes {n : Nat} {v : Vec} {x : Int} (h : CountOk n v) (hx : x = cellsV n v) : Ending.returned (.tuple #[.int .i64 x, .bool true]) = .returned (.tuple #[.int .i64 (cntV n v), .bool (bB (CountOk n v))]) := by rw [cnt_yes h, bB_yes h, hx]
set_option maxHeartbeats 4000000 in
theorem iCoStep (n : Nat) (hn3 : n ≤ 3) (IH : ∀ m, n = m + 1 → ICoOk m) : ICoOk n := by
  refine ⟨fun d v val lo hi w hv hhi hsm => ?_⟩
  have CF := Lib.hid (fun (w1 : World) (hb : Below w.heap.size w w1) => implFlat d v val lo hi w1 (hv.below hb hhi) (Nat.le_trans hhi hb.size) hsm)
  have XC := Lib.hid (count_iff (n := n) (v := v))
  have XQ := Lib.hid (fun h => cellsV_eq (n := n) (v := v) h)
  obtain ⟨VV, hVV⟩ : ∃ VV, v = VV := ⟨_, rfl⟩
  rw [hVV] at CF XC XQ ⊢
  obtain ⟨kk, items, parts, names, cls, levels, code, env⟩ := v
  obtain ⟨d', ai, ci, ap, cp, an, cn, ac, cc, al, cl, ed, rfl, hI, hN, hC, hL, hP⟩ := vecAt_open hv
  subst ed
  have hsp : ∀ i, i < parts.length → Small d' (parts.getD i noV) := fun i hi => hsm.part hi
  obtain ⟨li, lp, ln, lc, ll, _⟩ := hsm
  have CLn := Lib.hid (fun (w1 : World) => implLen kk ai ap an ac al items.length ci parts.length cp names.length cn cls.length cc levels.length cl code env w1 li lp)
  have AP := Lib.hid (fun (k : Nat) (w1 : World) (hk : k < parts.length) (hb : Below w.heap.size w w1) => (hP.below hb hhi).at_ hk)
  have CIs := Lib.hid (fun (h0 : n ≠ 0) (i : Nat) (w1 : World) (val : Value) (hi' : i < parts.length) (hb : Below w.heap.size w w1) (hv : VecAt lo hi w1 d' (parts.getD i noV) val) => (by
    obtain ⟨m, rfl⟩ : ∃ m, n = m + 1 := ⟨n - 1, by omega⟩
    have e : (((m + 1 : Nat) : Int) - 1) = (m : Int) := by omega
    rw [e]
    exact (IH m rfl).out d' _ val lo hi w1 hv (Nat.le_trans hhi hb.size) (hsp i hi') : Calls Tryz.prog 53 #[val, .int .i64 ((n : Int) - 1)] w1 fun e w' => e = .returned (.tuple #[.int .i64 (cntV (n - 1) (parts.getD i noV)), .bool (bB (CountOk (n - 1) (parts.getD i noV)))]) ∧ Below w1.heap.size w1 w'))
  have e1 : lengthV VV = lenV kk items.length parts.length := by rw [← hVV]; rfl
  have e2 : partsV VV = parts := by rw [← hVV]; rfl
  rw [e1, e2] at XC XQ
  have e1L := e1
  clear hv hI hN hC hL hP hsp IH hVV e1 e2
  obtain ⟨ni, hni⟩ : ∃ x, items.length = x := ⟨_, rfl⟩
  obtain ⟨np, hnp⟩ : ∃ x, parts.length = x := ⟨_, rfl⟩
  obtain ⟨nn, hnn⟩ : ∃ x, names.length = x := ⟨_, rfl⟩
  obtain ⟨nc, hnc⟩ : ∃ x, cls.length = x := ⟨_, rfl⟩
  obtain ⟨nl, hnl⟩ : ∃ x, levels.length = x := ⟨_, rfl⟩
  obtain ⟨L, hL⟩ : ∃ L, lenV kk ni np = L := ⟨_, rfl⟩
  rw [hni, hnp, hnn, hnc, hnl] at CLn CF
  rw [hnp] at AP CIs lp
  rw [hni, hnp] at XC XQ e1L
  rw [hni, hnp, hnn, hnc, hnl]
  rw [hL] at CLn XC XQ e1L
  have hL40 := Lib.hid (fun (h : FlatV VV) => (by have := h.len; rw [e1L] at this; exact this : L ≤ 40))
  clear e1L
  clear hni hnp hnn hnc hnl hL li ln lc ll
  go_enter Tryz.func53, Tryz.ntmps53
  go_wp2_with fail
  have B0 := Lib.hid (below1 w (.cells #[.int .i64 kk, .slice ai ni ci, .slice ap np cp, .slice an nn cn, .slice ac nc cc, .slice al nl cl, .int .i64 code, .int .i64 env] 31))
  have K0 := Lib.hid (blk_new w (.cells #[.int .i64 kk, .slice ai ni ci, .slice ap np cp, .slice an nn cn, .slice ac nc cc, .slice al nl cl, .int .i64 code, .int .i64 env] 31) rfl)
  with_reducible refine (CF.out _ B0.out).mono ?_
  rintro e w1 ⟨rfl, b⟩
  have B1 := Lib.hid (below_then B0.out b)
  have K1 := Lib.hid (blk_below b K0.out)
  clear b
  obtain ⟨k0, k1, k2, k3, k4, k5, k6, k7⟩ := vec8 K1.out
  by_cases hF : FlatV VV
  · rw [bB_yes hF]
    have HF := Lib.hid hF
    clear hF
    by_cases h0 : n = 0 ∧ 0 < np
    · obtain ⟨h0, h1⟩ := h0
      have X := Lib.hid (show ¬ CountOk n VV from fun h => by have := (XC.out.1 h).2.1 h0; omega)
      subst h0
      go_wp2
      go_ret2
      exact ⟨ret2_no X.out, B1.out⟩
    · have hd : n = 0 ∧ np = 0 ∨ ¬ n = 0 := by omega
      have H0 := Lib.hid h0
      clear h0
      rcases hd with ⟨h1, h2⟩ | hnz
      · subst h1 h2
        go_wp2_with fail
        with_reducible refine (CLn.out _).mono ?_
        rintro e w2 ⟨rfl, b⟩
        have B2 := Lib.hid (below_then B1.out b)
        have K2 := Lib.hid (blk_below b K1.out)
        clear b k0 k1 k2 k3 k4 k5 k6 k7
        obtain ⟨k0, k1, k2, k3, k4, k5, k6, k7⟩ := vec8 K2.out
        have HL := Lib.hid (hL40.out HF.out)
        go_wp2_with fail
        go_loopw [6, 29] (fun c i wr => ∃ k : Nat, k ≤ 0 ∧ i = .int .i64 k ∧ c = .int .i64 ((L + sumN (fun i => cellsV (0 - 1) (parts.getD i noV)) k : Nat) : Int) ∧ L + sumN (fun i => cellsV (0 - 1) (parts.getD i noV)) k ≤ 200 ∧ (∀ j, j < k → CountOk (0 - 1) (parts.getD j noV)) ∧ Below w.heap.size w wr) (fun _ i _ => 0 - (intOf i).toNat)
        case atStart => exact ⟨0, Nat.zero_le _, rfl, by simp [sumN], by have := HL.out; simp only [sumN]; omega, fun _ h => absurd h (Nat.not_lt_zero _), B2.out⟩
        case round =>
          obtain ⟨k, hk, rfl, rfl, hsum, hok, hb⟩ := hrel
          have OK := Lib.hid hok
          have SM := Lib.hid hsum
          have BB := Lib.hid hb
          clear hb hok hsum
          by_cases hlt : k < 0
          · exact absurd hlt (Nat.not_lt_zero _)
          · obtain rfl : k = 0 := by omega
            have X := Lib.hid (show CountOk 0 VV from XC.out.2 ⟨HF.out, by intro _; first | rfl | trivial, OK.out, SM.out⟩)
            have XE := Lib.hid (XQ.out X.out.1)
            go_wp2
            go_ret2
            exact ⟨ret2_yes X.out (by rw [XE.out]), BB.out⟩
      · have h1' : 0 < n := by omega
        go_wp2_with fail
        with_reducible refine (CLn.out _).mono ?_
        rintro e w2 ⟨rfl, b⟩
        have B2 := Lib.hid (below_then B1.out b)
        have K2 := Lib.hid (blk_below b K1.out)
        clear b k0 k1 k2 k3 k4 k5 k6 k7
        obtain ⟨k0, k1, k2, k3, k4, k5, k6, k7⟩ := vec8 K2.out
        have HL := Lib.hid (hL40.out HF.out)
        go_wp2_with fail
        go_loopw [6, 29] (fun c i wr => ∃ k : Nat, k ≤ np ∧ i = .int .i64 k ∧ c = .int .i64 ((L + sumN (fun i => cellsV (n - 1) (parts.getD i noV)) k : Nat) : Int) ∧ L + sumN (fun i => cellsV (n - 1) (parts.getD i noV)) k ≤ 200 ∧ (∀ j, j < k → CountOk (n - 1) (parts.getD j noV)) ∧ Below w.heap.size w wr) (fun _ i _ => np - (intOf i).toNat)
        case atStart => exact ⟨0, Nat.zero_le _, rfl, by simp [sumN], by have := HL.out; simp only [sumN]; omega, fun _ h => absurd h (Nat.not_lt_zero _), B2.out⟩
        case round =>
          obtain ⟨k, hk, rfl, rfl, hsum, hok, hb⟩ := hrel
          have OK := Lib.hid hok
          have SM := Lib.hid hsum
          have BB := Lib.hid hb
          clear hb hok hsum
          by_cases hlt : k < np
          · obtain ⟨b, off, u0, u1, u2, u3, u4, u5, u6, u7, rfl, hbB, hv, c0, c1, c2, c3, c4, c5, c6, c7⟩ := AP.out _ _ hlt BB.out
            have hlt' : (k : Int) < (np : Int) := by omega
            obtain ⟨zk, a1, n1, m1, a2, n2, m2, a3, n3, m3, a4, n4, m4, a5, n5, m5, zc, ze, rfl, rfl, rfl, rfl, rfl, rfl, rfl, rfl⟩ := hv.cells
            have hh : hi ≤ wr.heap.size := Nat.le_trans hhi BB.out.size
            have HV := Lib.hid (fun o => hv.below (below1 wr o) hh)
            have HC := Lib.hid (fun o => CIs.out hnz k (wr.alloc o) _ hlt (below_then BB.out (below1 wr o)) (HV.out o))
            clear hv
            obtain ⟨S, hS⟩ : ∃ S, L + sumN (fun i => cellsV (n - 1) (parts.getD i noV)) k = S := ⟨_, rfl⟩
            have ES := Lib.hid hS
            have hS2 : S ≤ 200 := by have := SM.out; omega
            rw [hS]
            clear hS
            go_wp2_with fail
            with_reducible refine (HC.out _).mono ?_
            rintro e w4 ⟨rfl, b4⟩
            have B4 := Lib.hid (below_then (below_then BB.out (below1 wr _)) b4)
            clear b4
            by_cases hp : CountOk (n - 1) (parts.getD k noV)
            · rw [bB_yes hp, cnt_yes hp]
              have hle := hp.2
              have HP := Lib.hid hp
              clear hp
              obtain ⟨x, hx⟩ : ∃ x, cellsV (n - 1) (parts.getD k noV) = x := ⟨_, rfl⟩
              have EX := Lib.hid hx
              rw [hx] at hle ⊢
              clear hx
              by_cases h200 : 200 < S + x
              · have X := Lib.hid (show ¬ CountOk n VV from fun h => by
                  have h1 := (XC.out.1 h).2.2.2
                  have h2 := sumN_at (fun i => cellsV (n - 1) (parts.getD i noV)) hlt
                  (try simp only at h2)
                  have h3 := ES.out
                  have h4 := EX.out
                  omega)
                go_wp2
                go_ret2
                exact ⟨ret2_no X.out, B4.out⟩
              · have PN := Lib.hid (show ∀ j, j < k + 1 → CountOk (n - 1) (parts.getD j noV) from fun j hj => by
                  by_cases e : j = k
                  · subst e; exact HP.out
                  · exact OK.out j (by omega))
                have NE := Lib.hid (show L + sumN (fun i => cellsV (n - 1) (parts.getD i noV)) (k + 1) = S + x by
                  have h3 := ES.out
                  have h4 := EX.out
                  simp only [sumN]
                  omega)
                go_wp2
                go_roundw
                case rel => exact ⟨k + 1, by omega, by go_num, by rw [NE.out]; congr 1, by rw [NE.out]; omega, PN.out, B4.out⟩
                case measure => simp [intOf]; omega
            · have X := Lib.hid (show ¬ CountOk n VV from fun h => hp ((XC.out.1 h).2.2.1 k hlt))
              rw [bB_no hp, cnt_no hp]
              clear hp
              go_wp2
              go_ret2
              exact ⟨ret2_no X.out, B4.out⟩
          · obtain rfl : k = np := by omega
            have X := Lib.hid (show CountOk n VV from XC.out.2 ⟨HF.out, fun h => absurd h hnz, OK.out, SM.out⟩)
            have XE := Lib.hid (XQ.out X.out.1)
            go_wp2
            go_ret2
            exact ⟨ret2_yes X.out (by rw [XE.out]), BB.out⟩
  · have X := Lib.hid (show ¬ CountOk n VV from fun h => hF (XC.out.1 h).1)
    rw [bB_no hF]
    clear hF
    go_wp2
    go_ret2
    exact ⟨ret2_no X.out, B1.out⟩
theorem iCoAll : ∀ n, n ≤ 3 → ICoOk n
  | 0, h => iCoStep 0 h (fun m e => by omega)
  | n + 1, h => iCoStep (n + 1) h (fun m e => (Nat.succ.inj e) ▸ iCoAll n (by omega))
set_option maxHeartbeats 1000000 in
theorem implIsVector (d : Nat) (v : Vec) (val : Value) (lo hi : Nat) (w : World) (hv : VecAt lo hi w d v val) (hhi : hi ≤ w.heap.size) (hsm : Small d v) :
    Calls Tryz.prog 41 #[val] w fun e w' => e = .returned (.bool (bB (ValidV v))) ∧ Below w.heap.size w w' := by
  have C1 := Lib.hid (fun (w1 : World) (hb : Below w.heap.size w w1) => (show Calls Tryz.prog 53 #[val, .int .i64 3] w1 (fun e w' => e = .returned (.tuple #[.int .i64 (cntV 3 v), .bool (bB (CountOk 3 v))]) ∧ Below w1.heap.size w1 w') from (iCoAll 3 (Nat.le_refl _)).out d v val lo hi w1 (hv.below hb hhi) (Nat.le_trans hhi hb.size) hsm))
  obtain ⟨VV, hVV⟩ : ∃ VV, v = VV := ⟨_, rfl⟩
  have HV := Lib.hid hVV
  rw [hVV] at C1 ⊢
  clear hVV
  obtain ⟨kk, items, parts, names, cls, levels, code, env⟩ := v
  obtain ⟨d', ai, ci, ap, cp, an, cn, ac, cc, al, cl, ed, rfl, hI, hN, hC, hL, hP⟩ := vecAt_open hv
  clear hv hI hN hC hL hP hsm HV
  go_enter Tryz.func41, Tryz.ntmps41
  go_wp2_with fail
  have B0 := Lib.hid (below1 w (.cells #[.int .i64 kk, .slice ai items.length ci, .slice ap parts.length cp, .slice an names.length cn, .slice ac cls.length cc, .slice al levels.length cl, .int .i64 code, .int .i64 env] 31))
  have K0 := Lib.hid (blk_new w (.cells #[.int .i64 kk, .slice ai items.length ci, .slice ap parts.length cp, .slice an names.length cn, .slice ac cls.length cc, .slice al levels.length cl, .int .i64 code, .int .i64 env] 31) rfl)
  with_reducible refine (C1.out _ B0.out).mono ?_
  rintro e w1 ⟨rfl, b⟩
  have B1 := Lib.hid (below_then B0.out b)
  clear b
  go_wp2
  go_ret
  exact ⟨rfl, B1.out⟩
end Go.Proofs.YtikgcogiiohahaaGreatDoor

/- The cursor of the laws' own draws. -/
namespace Go.Proofs.YtikgcogiiohahaaGreatDoor
open Go.RowKit

/-- The bytes that the draws read. -/
def CodeAt (B : Nat) (w : World) (a : Option Addr) (n : Nat) : Prop := ∀ i, i < n → ∃ b off, a = some ⟨b, off, none⟩ ∧ b < B ∧ ∃ x : Int, 0 ≤ x ∧ x < 256 ∧ w.cell? ⟨b, off + i, none⟩ = some (.int .u8 x)
theorem CodeAt.below {B : Nat} {w w1 : World} {a : Option Addr} {n : Nat} (h : CodeAt B w a n) (hb : Below B w w1) : CodeAt B w1 a n := by
  intro i hi
  obtain ⟨b, off, e, hlt, x, h0, h1, hc⟩ := h i hi
  exact ⟨b, off, e, hlt, x, h0, h1, by rw [hb.cell hlt]; exact hc⟩
theorem CodeAt.mono {B B' : Nat} {w : World} {a : Option Addr} {n : Nat} (h : CodeAt B w a n) (hB : B ≤ B') : CodeAt B' w a n := by
  intro i hi
  obtain ⟨b, off, e, hlt, r⟩ := h i hi
  exact ⟨b, off, e, by omega, r⟩
end Go.Proofs.YtikgcogiiohahaaGreatDoor

/- More operations for a region that draws its order: stores of items, subtraction, texts. -/
namespace Go.Proofs.YtikgcogiiohahaaGreatDoor
set_option maxRecDepth 100000
open Go.RowKit
set_option linter.unusedVariables false

section
variable {P : Program} {ops : Array Oper} {Q : Exit → Act → World → Prop} {S : World → Prop}
variable {r : List (Nat × Bool)} {a : Act} {e : List (Nat × Value)} {w : World} {i d : Nat} {g : Option (Nat × Bool)} {v : Value}
/-- A store: where nothing else may come up. -/
theorem run_store {t : TypeId} {x y : Operand} {p u : Value} {w' : World} (ho : opAt ops i = some (none, .store t x y, g)) (hw : wantE ops a e g = some true)
    (hx : lookO a e x = p) (hy : lookO a e y = u) (hs : (Instr.storeAt t p u).run P w = .ok () w') (hS : S w') (h : RunE P ops Q S r a e w') : RunE P ops Q S ((i, false) :: r) a e w := by
  refine ⟨fun hk => ?_⟩
  obtain ⟨o, hi, h1, h2, h3⟩ := opAt_spec ho
  show wpOp P ops Q i (fun a' w' => (lastK ops i = true ∨ S w') ∧ seqH P ops Q S r a' w') (putAll a e) w
  unfold wpOp
  simp only [hi, if_pos (wantE_spec hk (by rw [h3]; exact hw))]
  left
  unfold Oper.wp
  have hrun : (execOp (putAll a e).eval o).run P w = .ok .skip w' := by
    rw [eval_putAll a e hk]
    unfold execOp
    rw [h2]
    simp only [hx, hy]
    rw [Sem.run_bind, hs]; rfl
  rw [hrun]
  simp only [Oper.upon]
  rw [h1]
  exact ⟨.inr hS, h.out hk⟩
theorem run_sub {x y : Operand} {t t' : TypeId} {k : IntKind} {p q z : Int} (ho : opAt ops i = some (some d, .binOp .sub t x y t', g)) (hd : Nat.blt d a.tmps.size = true)
    (hw : wantE ops a e g = some true) (hx : lookO a e x = .int k p) (hy : lookO a e y = .int k q) (hz : k.wrap (p - q) = z)
    (h : RunE P ops Q S r a ((d, .int k z) :: e) w) : RunE P ops Q S ((i, true) :: r) a e w :=
  run_yield ho hd hw (fun o w' h1 _ => by
    unfold execOp; rw [h1]; simp only [hx, hy]; subst hz
    simp [eqGuard, binOp, Op.intArith, go_sem] <;> rfl) h
theorem str_not {x : ByteArray} (h : x ≠ ⟨#[]⟩) : (x.toList == (⟨#[]⟩ : ByteArray).toList) = false := by
  rw [beq_eq_false_iff_ne]
  intro e
  apply h
  rw [ByteArray.toList_eq, ByteArray.toList_eq] at e
  apply ByteArray.ext
  exact Array.toList_inj.1 e
end
theorem row_set {w : World} {b : Nat} {o : Array Value} {t : TypeId} {c : Array Value} (h : w.heap[b]? = some (.cells o t (0, 0))) : (w.setRow b c).heap[b]? = some (.cells c t (0, 0)) := setRow_heap w b o c t (0, 0) h
theorem row_old {w : World} {b k : Nat} {c : Array Value} {o : Option Obj} (h : w.heap[k]? = o) (hne : k ≠ b) : (w.setRow b c).heap[k]? = o := (setRow_other w b k c hne).trans h
theorem below_row {B : Nat} {a w : World} (h : Below B a w) {b : Nat} (hb : B ≤ b) (c : Array Value) : Below B a (w.setRow b c) :=
  ⟨h.os, h.tape, h.output, by have := h.size; simp [World.setRow]; exact this, fun k hk => (setRow_other w b k c (by omega)).trans (h.block k hk)⟩
end Go.Proofs.YtikgcogiiohahaaGreatDoor

/- The laws' own copy of a vector: every slice in a block of its own. -/
namespace Go.Proofs.YtikgcogiiohahaaGreatDoor
open Go.RowKit
set_option maxRecDepth 100000
set_option linter.unusedVariables false

/-- The slice at a holds the items of l in a block of its own. -/
def OwnIts (w : World) (a : Option Addr) (l : List It) (F : List Nat) : Prop :=
  (l = [] ∧ F = []) ∨ ∃ b C, F = [b] ∧ a = some ⟨b, 0, none⟩ ∧ w.heap[b]? = some (.cells C 45 (0, 0)) ∧ l.length * 3 ≤ C.size ∧
    ∀ i, i < l.length → C[i * 3]? = some (.int .i64 (l.getD i noI).n) ∧ C[i * 3 + 1]? = some (.int .i64 (l.getD i noI).d) ∧ C[i * 3 + 2]? = some (.string (txtI l i))
def OwnTxs (w : World) (a : Option Addr) (l : List ByteArray) (F : List Nat) : Prop :=
  (l = [] ∧ F = []) ∨ ∃ b C, F = [b] ∧ a = some ⟨b, 0, none⟩ ∧ w.heap[b]? = some (.cells C 9 (0, 0)) ∧ l.length ≤ C.size ∧ ∀ i, i < l.length → C[i]? = some (.string (txtS l i))
/-- Cells i*8 .. of C are the value's. -/
def Eight (C : Array Value) (i : Nat) (val : Value) : Prop := ∃ c0 c1 c2 c3 c4 c5 c6 c7, val = .agg #[c0, c1, c2, c3, c4, c5, c6, c7] ∧
  C[i * 8]? = some c0 ∧ C[i * 8 + 1]? = some c1 ∧ C[i * 8 + 2]? = some c2 ∧ C[i * 8 + 3]? = some c3 ∧ C[i * 8 + 4]? = some c4 ∧ C[i * 8 + 5]? = some c5 ∧ C[i * 8 + 6]? = some c6 ∧ C[i * 8 + 7]? = some c7
/-- The value is the vector v; each of its slices that is not empty lies in a block of its own; these blocks are F. -/
def OwnVec (w : World) : Nat → Vec → Value → List Nat → Prop
  | 0, _, _, _ => False
  | d + 1, .mk k items parts names cls levels code env, val, F => ∃ ai ci ap cp an cn ac cc al cl Fi Fp Fn Fc Fl,
      val = .agg #[.int .i64 k, .slice ai items.length ci, .slice ap parts.length cp, .slice an names.length cn, .slice ac cls.length cc, .slice al levels.length cl, .int .i64 code, .int .i64 env] ∧
      F = Fi ++ (Fp ++ (Fn ++ (Fc ++ Fl))) ∧ CapsOk items.length ci parts.length cp names.length cn cls.length cc levels.length cl ∧ OwnIts w ai items Fi ∧ OwnTxs w an names Fn ∧ OwnTxs w ac cls Fc ∧ OwnTxs w al levels Fl ∧
      ((parts = [] ∧ Fp = []) ∨ ∃ b C, ∃ Fs : List (List Nat), Fp = b :: Fs.flatten ∧ Fs.length = parts.length ∧ ap = some ⟨b, 0, none⟩ ∧ w.heap[b]? = some (.cells C 31 (0, 0)) ∧ parts.length * 8 ≤ C.size ∧
        ∀ i, i < parts.length → ∃ val, OwnVec w d (parts.getD i noV) val (Fs.getD i []) ∧ Eight C i val)
/-- A row of vectors whose first k are those of l, with their blocks. -/
def OwnRow (w : World) (d b n k : Nat) (l : List Vec) (Fs : List (List Nat)) : Prop := ∃ C, w.heap[b]? = some (.cells C 31 (0, 0)) ∧ C.size = n * 8 ∧ Fs.length = k ∧
  ∀ i, i < k → ∃ val, OwnVec w d (l.getD i noV) val (Fs.getD i []) ∧ Eight C i val
theorem OwnIts.kept {w w1 : World} {a : Option Addr} {l : List It} {F : List Nat} (h : OwnIts w a l F) (k : ∀ b ∈ F, w1.heap[b]? = w.heap[b]?) : OwnIts w1 a l F := by
  rcases h with h | ⟨b, C, rfl, e, hb, r⟩
  · exact .inl h
  · exact .inr ⟨b, C, rfl, e, (k b (by simp)).trans hb, r⟩
theorem OwnTxs.kept {w w1 : World} {a : Option Addr} {l : List ByteArray} {F : List Nat} (h : OwnTxs w a l F) (k : ∀ b ∈ F, w1.heap[b]? = w.heap[b]?) : OwnTxs w1 a l F := by
  rcases h with h | ⟨b, C, rfl, e, hb, r⟩
  · exact .inl h
  · exact .inr ⟨b, C, rfl, e, (k b (by simp)).trans hb, r⟩
theorem mem_flat {Fs : List (List Nat)} {i b : Nat} (hi : i < Fs.length) (hb : b ∈ Fs.getD i []) : b ∈ Fs.flatten := by
  rw [List.getD_eq_getElem?_getD, List.getElem?_eq_getElem hi] at hb
  exact List.mem_flatten.2 ⟨_, List.getElem_mem hi, hb⟩
theorem OwnVec.kept {w w1 : World} : ∀ (d : Nat) (v : Vec) (val : Value) (F : List Nat), OwnVec w d v val F → (∀ b ∈ F, w1.heap[b]? = w.heap[b]?) → OwnVec w1 d v val F
  | 0, _, _, _, h, _ => h.elim
  | d + 1, .mk _ _ parts _ _ _ _ _, val, F, h, k => by
    unfold OwnVec at h ⊢
    obtain ⟨ai, ci, ap, cp, an, cn, ac, cc, al, cl, Fi, Fp, Fn, Fc, Fl, e, rfl, hC, h1, h2, h3, h4, h5⟩ := h
    refine ⟨ai, ci, ap, cp, an, cn, ac, cc, al, cl, Fi, Fp, Fn, Fc, Fl, e, rfl, hC, h1.kept (fun b hb => k b (by simp [hb])), h2.kept (fun b hb => k b (by simp [hb])), h3.kept (fun b hb => k b (by simp [hb])), h4.kept (fun b hb => k b (by simp [hb])), ?_⟩
    rcases h5 with h5 | ⟨b, C, Fs, rfl, hl, e', hb, hc, hp⟩
    · exact .inl h5
    · refine .inr ⟨b, C, Fs, rfl, hl, e', (k b (by simp)).trans hb, hc, fun i hi => ?_⟩
      obtain ⟨val, hv, m⟩ := hp i hi
      exact ⟨val, OwnVec.kept d _ _ _ hv (fun b' hb' => k b' (by have := mem_flat (by omega) hb'; simp only [List.mem_append, List.mem_cons]; exact .inr (.inl (.inr this)))), m⟩
theorem OwnIts.at_ {w : World} {a : Option Addr} {l : List It} {F : List Nat} {lo hi : Nat} (h : OwnIts w a l F) (hF : ∀ b ∈ F, lo ≤ b ∧ b < hi) : ItemsAt lo hi w a l := by
  intro i x hx
  obtain ⟨hi', rfl⟩ := List.getElem?_eq_some_iff.1 hx
  rcases h with ⟨rfl, _⟩ | ⟨b, C, rfl, e, hb, hc, r⟩
  · cases hi'
  · obtain ⟨h0, h1, h2⟩ := r i hi'
    have e1 : l.getD i noI = l[i] := by simp [List.getD_eq_getElem?_getD, List.getElem?_eq_getElem hi']
    unfold txtI at h2
    rw [e1] at h0 h1 h2
    have := hF b (by simp)
    exact ⟨b, 0, e, this.1, this.2, by rw [Nat.zero_add]; exact cellOf hb h0, by rw [Nat.zero_add]; exact cellOf hb h1, by rw [Nat.zero_add]; exact cellOf hb h2⟩
theorem OwnTxs.at_ {w : World} {a : Option Addr} {l : List ByteArray} {F : List Nat} {lo hi : Nat} (h : OwnTxs w a l F) (hF : ∀ b ∈ F, lo ≤ b ∧ b < hi) : TextsAt lo hi w a l := by
  intro i x hx
  obtain ⟨hi', rfl⟩ := List.getElem?_eq_some_iff.1 hx
  rcases h with ⟨rfl, _⟩ | ⟨b, C, rfl, e, hb, hc, r⟩
  · cases hi'
  · have h0 := r i hi'
    have e1 : txtS l i = l[i] := by unfold txtS; simp [List.getD_eq_getElem?_getD, List.getElem?_eq_getElem hi']
    rw [e1] at h0
    have := hF b (by simp)
    exact ⟨b, 0, e, this.1, this.2, by rw [Nat.zero_add]; exact cellOf hb h0⟩
theorem OwnVec.vecAt {w : World} {lo hi : Nat} : ∀ (d : Nat) (v : Vec) (val : Value) (F : List Nat), OwnVec w d v val F → (∀ b ∈ F, lo ≤ b ∧ b < hi) → VecAt lo hi w d v val
  | 0, _, _, _, h, _ => h.elim
  | d + 1, .mk _ _ parts _ _ _ _ _, val, F, h, k => by
    unfold OwnVec at h
    obtain ⟨ai, ci, ap, cp, an, cn, ac, cc, al, cl, Fi, Fp, Fn, Fc, Fl, rfl, rfl, hC, h1, h2, h3, h4, h5⟩ := h
    refine vecAt_mk (h1.at_ (fun b hb => k b (by simp [hb]))) (h2.at_ (fun b hb => k b (by simp [hb]))) (h3.at_ (fun b hb => k b (by simp [hb]))) (h4.at_ (fun b hb => k b (by simp [hb]))) ?_ hC
    intro i p hp
    obtain ⟨hi', rfl⟩ := List.getElem?_eq_some_iff.1 hp
    rcases h5 with ⟨rfl, _⟩ | ⟨b, C, Fs, rfl, hl, e', hb, hc, hps⟩
    · cases hi'
    · obtain ⟨val, hv, c0, c1, c2, c3, c4, c5, c6, c7, rfl, m0, m1, m2, m3, m4, m5, m6, m7⟩ := hps i hi'
      have e1 : parts.getD i noV = parts[i] := by simp [List.getD_eq_getElem?_getD, List.getElem?_eq_getElem hi']
      rw [e1] at hv
      have hbb := k b (by simp)
      refine ⟨b, 0, c0, c1, c2, c3, c4, c5, c6, c7, e', hbb.1, hbb.2, OwnVec.vecAt d _ _ _ hv (fun b' hb' => k b' (by have := mem_flat (by omega) hb'; simp only [List.mem_append, List.mem_cons]; exact .inr (.inl (.inr this)))), ?_⟩
      rw [Nat.zero_add]
      exact ⟨cellOf hb m0, cellOf hb m1, cellOf hb m2, cellOf hb m3, cellOf hb m4, cellOf hb m5, cellOf hb m6, cellOf hb m7⟩
theorem FilledIt.own {w : World} {b : Nat} {l : List It} (h : FilledIt w b l.length l.length l) : OwnIts w (some ⟨b, 0, none⟩) l [b] := by
  obtain ⟨C, hC, hn, r⟩ := h
  exact .inr ⟨b, C, rfl, rfl, hC, by omega, r⟩
theorem Filled.own {w : World} {b : Nat} {l : List ByteArray} (h : Filled w b l.length l.length (txtS l)) : OwnTxs w (some ⟨b, 0, none⟩) l [b] := by
  obtain ⟨C, hC, hn, r⟩ := h
  exact .inr ⟨b, C, rfl, rfl, hC, by omega, r⟩

theorem infoVec8 : (Tryz.prog.info? 31).map (fun i => (i.zero, i.size, i.bytes)) = some (some (.agg #[.int .i64 0, .slice none 0 0, .slice none 0 0, .slice none 0 0, .slice none 0 0, .slice none 0 0, .int .i64 0, .int .i64 0]), 8, 144) := by kernel_rfl
theorem OwnRow.below {w w1 : World} {d b n k : Nat} {l : List Vec} {Fs : List (List Nat)} (h : OwnRow w d b n k l Fs) (hb : Below w.heap.size w w1) (hF : ∀ b ∈ Fs.flatten, b < w.heap.size) : OwnRow w1 d b n k l Fs := by
  obtain ⟨C, hC, hn, hl, r⟩ := h
  refine ⟨C, blk_below hb hC, hn, hl, fun i hi => ?_⟩
  obtain ⟨val, hv, m⟩ := r i hi
  exact ⟨val, hv.kept _ _ _ _ (fun b' hb' => hb.block b' (hF _ (mem_flat (by omega) hb'))), m⟩
theorem OwnRow.old {w : World} {d b n k : Nat} {l : List Vec} {Fs : List (List Nat)} (h : OwnRow w d b n k l Fs) (hk : k < n) :
    (∃ x, w.cell? ⟨b, k * 8, none⟩ = some x) ∧ (∃ x, w.cell? ⟨b, k * 8 + 1, none⟩ = some x) ∧ (∃ x, w.cell? ⟨b, k * 8 + 2, none⟩ = some x) ∧ (∃ x, w.cell? ⟨b, k * 8 + 3, none⟩ = some x) ∧ (∃ x, w.cell? ⟨b, k * 8 + 4, none⟩ = some x) ∧ (∃ x, w.cell? ⟨b, k * 8 + 5, none⟩ = some x) ∧ (∃ x, w.cell? ⟨b, k * 8 + 6, none⟩ = some x) ∧ (∃ x, w.cell? ⟨b, k * 8 + 7, none⟩ = some x) ∧
    w.frozen? ⟨b, k * 8, none⟩ = false ∧ w.frozen? ⟨b, k * 8 + 1, none⟩ = false ∧ w.frozen? ⟨b, k * 8 + 2, none⟩ = false ∧ w.frozen? ⟨b, k * 8 + 3, none⟩ = false ∧ w.frozen? ⟨b, k * 8 + 4, none⟩ = false ∧ w.frozen? ⟨b, k * 8 + 5, none⟩ = false ∧ w.frozen? ⟨b, k * 8 + 6, none⟩ = false ∧ w.frozen? ⟨b, k * 8 + 7, none⟩ = false := by
  obtain ⟨C, hC, hn, _⟩ := h
  exact ⟨⟨_, cellOf hC (Array.getElem?_eq_getElem (by omega))⟩, ⟨_, cellOf hC (Array.getElem?_eq_getElem (by omega))⟩, ⟨_, cellOf hC (Array.getElem?_eq_getElem (by omega))⟩, ⟨_, cellOf hC (Array.getElem?_eq_getElem (by omega))⟩, ⟨_, cellOf hC (Array.getElem?_eq_getElem (by omega))⟩, ⟨_, cellOf hC (Array.getElem?_eq_getElem (by omega))⟩, ⟨_, cellOf hC (Array.getElem?_eq_getElem (by omega))⟩, ⟨_, cellOf hC (Array.getElem?_eq_getElem (by omega))⟩,
    freeOf hC, freeOf hC, freeOf hC, freeOf hC, freeOf hC, freeOf hC, freeOf hC, freeOf hC⟩
/-- The world after an element of a row of vectors was written. -/
def put8 (w : World) (b p : Nat) (c0 c1 c2 c3 c4 c5 c6 c7 : Value) : World :=
  (((((((w.setCell ⟨b, p, none⟩ c0).setCell ⟨b, p + 1, none⟩ c1).setCell ⟨b, p + 2, none⟩ c2).setCell ⟨b, p + 3, none⟩ c3).setCell ⟨b, p + 4, none⟩ c4).setCell ⟨b, p + 5, none⟩ c5).setCell ⟨b, p + 6, none⟩ c6).setCell ⟨b, p + 7, none⟩ c7
def arr8 (C : Array Value) (p : Nat) (c0 c1 c2 c3 c4 c5 c6 c7 : Value) : Array Value :=
  (((((((C.setIfInBounds p c0).setIfInBounds (p + 1) c1).setIfInBounds (p + 2) c2).setIfInBounds (p + 3) c3).setIfInBounds (p + 4) c4).setIfInBounds (p + 5) c5).setIfInBounds (p + 6) c6).setIfInBounds (p + 7) c7
theorem put8_block {w : World} {b p : Nat} {c0 c1 c2 c3 c4 c5 c6 c7 : Value} {C : Array Value} {t : TypeId} (h : w.heap[b]? = some (.cells C t (0, 0))) :
    (put8 w b p c0 c1 c2 c3 c4 c5 c6 c7).heap[b]? = some (.cells (arr8 C p c0 c1 c2 c3 c4 c5 c6 c7) t (0, 0)) := by
  unfold put8 arr8
  exact Joins.block_setCell (Joins.block_setCell (Joins.block_setCell (Joins.block_setCell (Joins.block_setCell (Joins.block_setCell (Joins.block_setCell (Joins.block_setCell h _) _) _) _) _) _) _) _
theorem put8_other {w : World} {b g p : Nat} {c0 c1 c2 c3 c4 c5 c6 c7 : Value} (h : g ≠ b) : (put8 w b p c0 c1 c2 c3 c4 c5 c6 c7).heap[g]? = w.heap[g]? := by
  unfold put8
  rw [Below.heap_setCell _ _ _ _ h, Below.heap_setCell _ _ _ _ h, Below.heap_setCell _ _ _ _ h, Below.heap_setCell _ _ _ _ h, Below.heap_setCell _ _ _ _ h, Below.heap_setCell _ _ _ _ h, Below.heap_setCell _ _ _ _ h, Below.heap_setCell _ _ _ _ h]
theorem put8_below {B : Nat} {w0 w : World} {b p : Nat} {c0 c1 c2 c3 c4 c5 c6 c7 : Value} (h : Below B w0 w) (hB : B ≤ b) : Below B w0 (put8 w b p c0 c1 c2 c3 c4 c5 c6 c7) :=
  (((((((h.setCell hB _).setCell hB _).setCell hB _).setCell hB _).setCell hB _).setCell hB _).setCell hB _).setCell hB _
theorem arr8_size (C : Array Value) (p : Nat) (c0 c1 c2 c3 c4 c5 c6 c7 : Value) : (arr8 C p c0 c1 c2 c3 c4 c5 c6 c7).size = C.size := by unfold arr8; simp
theorem arr8_ne (C : Array Value) (p j : Nat) (c0 c1 c2 c3 c4 c5 c6 c7 : Value) (h : j < p ∨ p + 7 < j) : (arr8 C p c0 c1 c2 c3 c4 c5 c6 c7)[j]? = C[j]? := by
  unfold arr8
  rw [Array.getElem?_setIfInBounds_ne (by omega), Array.getElem?_setIfInBounds_ne (by omega), Array.getElem?_setIfInBounds_ne (by omega), Array.getElem?_setIfInBounds_ne (by omega), Array.getElem?_setIfInBounds_ne (by omega), Array.getElem?_setIfInBounds_ne (by omega), Array.getElem?_setIfInBounds_ne (by omega), Array.getElem?_setIfInBounds_ne (by omega)]
theorem arr8_at (C : Array Value) (i : Nat) (c0 c1 c2 c3 c4 c5 c6 c7 : Value) (h : i * 8 + 7 < C.size) : Eight (arr8 C (i * 8) c0 c1 c2 c3 c4 c5 c6 c7) i (.agg #[c0, c1, c2, c3, c4, c5, c6, c7]) := by
  have h0 : i * 8 < C.size := by omega
  have h1 : i * 8 + 1 < C.size := by omega
  have h2 : i * 8 + 2 < C.size := by omega
  have h3 : i * 8 + 3 < C.size := by omega
  have h4 : i * 8 + 4 < C.size := by omega
  have h5 : i * 8 + 5 < C.size := by omega
  have h6 : i * 8 + 6 < C.size := by omega
  refine ⟨c0, c1, c2, c3, c4, c5, c6, c7, rfl, ?_, ?_, ?_, ?_, ?_, ?_, ?_, ?_⟩ <;> unfold arr8 <;> simp [h, h0, h1, h2, h3, h4, h5, h6]
theorem OwnRow.step {w : World} {d b n k : Nat} {l : List Vec} {Fs : List (List Nat)} {c0 c1 c2 c3 c4 c5 c6 c7 : Value} {F : List Nat} (h : OwnRow w d b n k l Fs) (hk : k < n) (hv : OwnVec w d (l.getD k noV) (.agg #[c0, c1, c2, c3, c4, c5, c6, c7]) F) (hF : ∀ g ∈ Fs.flatten, g ≠ b) (hG : ∀ g ∈ F, g ≠ b) :
    OwnRow (put8 w b (k * 8) c0 c1 c2 c3 c4 c5 c6 c7) d b n (k + 1) l (Fs ++ [F]) := by
  obtain ⟨C, hC, hn, hl, r⟩ := h
  refine ⟨_, put8_block hC, by rw [arr8_size]; exact hn, by simp [hl], fun i hi => ?_⟩
  by_cases e : i = k
  · subst e
    refine ⟨_, ?_, arr8_at C i _ _ _ _ _ _ _ _ (by omega)⟩
    have : (Fs ++ [F]).getD i [] = F := by rw [List.getD_eq_getElem?_getD, List.getElem?_append_right (by omega)]; simp [hl]
    rw [this]
    exact hv.kept _ _ _ _ (fun g hg => put8_other (hG g hg))
  · obtain ⟨val, hv', u0, u1, u2, u3, u4, u5, u6, u7, rfl, m0, m1, m2, m3, m4, m5, m6, m7⟩ := r i (by omega)
    have : (Fs ++ [F]).getD i [] = Fs.getD i [] := by rw [List.getD_eq_getElem?_getD, List.getD_eq_getElem?_getD, List.getElem?_append_left (by omega)]
    rw [this]
    refine ⟨_, hv'.kept _ _ _ _ (fun g hg => put8_other (hF g (mem_flat (by omega) hg))), u0, u1, u2, u3, u4, u5, u6, u7, rfl, ?_, ?_, ?_, ?_, ?_, ?_, ?_, ?_⟩ <;> (rw [arr8_ne _ _ _ _ _ _ _ _ _ _ _ (by omega)]; assumption)
theorem madeRowV (w : World) (d n : Nat) (l : List Vec) (z : Array Value) : OwnRow (w.alloc (.cells (madeCells z (n * 8)) 31)) d w.heap.size n 0 l [] :=
  ⟨_, (MapKept.heap_alloc w _).1, size_madeCells _ _, rfl, fun _ hi => absurd hi (Nat.not_lt_zero _)⟩

/-- The contract of toVector at depth d. -/
structure ToOk (d : Nat) : Prop where
  out : ∀ (v : Vec) (x : Value) (lo hi : Nat) (w : World), VecAt lo hi w d v x → hi ≤ w.heap.size → Small d v →
    Calls Tryz.prog 6 #[x] w fun e w' => ∃ (y : Value) (F : List Nat), e = .returned y ∧ OwnVec w' d v y F ∧ F.Nodup ∧ (∀ b ∈ F, w.heap.size ≤ b ∧ b < w'.heap.size) ∧ Below w.heap.size w w'
theorem OwnVec.agg {w : World} {d : Nat} {v : Vec} {y : Value} {F : List Nat} (h : OwnVec w d v y F) : ∃ (k : Int) (a1 : Option Addr) (n1 m1 : Nat) (a2 : Option Addr) (n2 m2 : Nat) (a3 : Option Addr) (n3 m3 : Nat) (a4 : Option Addr) (n4 m4 : Nat) (a5 : Option Addr) (n5 m5 : Nat) (code env : Int), y = .agg #[.int .i64 k, .slice a1 n1 m1, .slice a2 n2 m2, .slice a3 n3 m3, .slice a4 n4 m4, .slice a5 n5 m5, .int .i64 code, .int .i64 env] := by
  cases d with
  | zero => exact h.elim
  | succ d =>
    obtain ⟨k, items, parts, names, cls, levels, code, env⟩ := v
    unfold OwnVec at h
    obtain ⟨ai, ci, ap, cp, an, cn, ac, cc, al, cl, Fi, Fp, Fn, Fc, Fl, e, _⟩ := h
    exact ⟨_, _, _, _, _, _, _, _, _, _, _, _, _, _, _, _, _, _, e⟩

set_option maxHeartbeats 2000000 in
theorem toParts (d : Nat) (IH : ToOk d) (parts : List Vec) (a : Option Addr) (cap : Nat) (lo hi : Nat) (w : World) (hs : VecsAt lo hi w d a parts) (hhi : hi ≤ w.heap.size) (hsm : ∀ i, i < parts.length → Small d (parts.getD i noV)) (hn : parts.length ≤ 1048576) :
    Calls Tryz.prog 21 #[.slice a parts.length cap] w fun e w' => ∃ Fs : List (List Nat), e = .returned (.slice (some ⟨w.heap.size, 0, none⟩) parts.length parts.length) ∧ OwnRow w' d w.heap.size parts.length parts.length parts Fs ∧ Fs.flatten.Nodup ∧ (∀ b ∈ Fs.flatten, w.heap.size < b ∧ b < w'.heap.size) ∧ Below w.heap.size w w' ∧ w.heap.size < w'.heap.size := by
  have A := Lib.hid (fun (k : Nat) (w1 : World) (hk : k < parts.length) (hb : Below w.heap.size w w1) => (hs.below hb hhi).at_ hk)
  have C := Lib.hid (fun (k : Nat) (w1 : World) (x : Value) (hk : k < parts.length) (hb : Below w.heap.size w w1) (hv : VecAt lo hi w1 d (parts.getD k noV) x) => IH.out _ x lo hi w1 hv (Nat.le_trans hhi hb.size) (hsm k hk))
  clear hs hsm IH
  obtain ⟨n, hn'⟩ : ∃ n, parts.length = n := ⟨_, rfl⟩
  rw [hn'] at hn A C ⊢
  clear hn'
  have hmk := run_make_rows (P := Tryz.prog) 29 31 _ 8 144 Tryz.underlying29 infoVec8 .i64 .i64 n (by omega) (by omega) w
  have MR := Lib.hid (madeRowV w d n parts (Value.agg #[.int .i64 0, .slice none 0 0, .slice none 0 0, .slice none 0 0, .slice none 0 0, .slice none 0 0, .int .i64 0, .int .i64 0]).cells)
  obtain ⟨o, ho⟩ : ∃ o, Obj.cells (madeCells (Value.agg #[.int .i64 0, .slice none 0 0, .slice none 0 0, .slice none 0 0, .slice none 0 0, .slice none 0 0, .int .i64 0, .int .i64 0]).cells (n * 8)) 31 (0, 0) = o := ⟨_, rfl⟩
  rw [ho] at hmk MR
  clear ho
  go_enter Tryz.func21, Tryz.ntmps21
  go_wp2
  go_loopw [4] (fun i wr => ∃ (k : Nat) (Fs : List (List Nat)), k ≤ n ∧ i = .int .i64 k ∧ OwnRow wr d w.heap.size n k parts Fs ∧ Fs.flatten.Nodup ∧ (∀ b ∈ Fs.flatten, w.heap.size < b ∧ b < wr.heap.size) ∧ Below w.heap.size w wr ∧ w.heap.size < wr.heap.size) (fun i _ => n - (intOf i).toNat)
  case atStart => exact ⟨0, [], Nat.zero_le _, rfl, MR.out, List.nodup_nil, (fun _ h => by cases h), (Below.refl _ w).alloc (Nat.le_refl _) _, by simp⟩
  case round =>
    obtain ⟨k, Fs, hk, rfl, hF, hnd, hrg, hb, hsz⟩ := hrel
    clear hmk
    have FF := Lib.hid hF
    have BB := Lib.hid hb
    have ND := Lib.hid hnd
    have RG := Lib.hid hrg
    clear hF hb hnd hrg
    by_cases hlt : k < n
    · obtain ⟨b, off, u0, u1, u2, u3, u4, u5, u6, u7, rfl, hbB, hv, c0, c1, c2, c3, c4, c5, c6, c7⟩ := A.out _ _ hlt BB.out
      have HV := Lib.hid hv
      clear hv
      go_wp2_with fail
      refine (C.out _ _ _ hlt BB.out HV.out).mono ?_
      rintro e w1 ⟨y, F, rfl, hO, hnd, hrg, b1⟩
      obtain ⟨zk, a1, n1, m1, a2, n2, m2, a3, n3, m3, a4, n4, m4, a5, n5, m5, zc, ze, rfl⟩ := hO.agg
      have F1 := Lib.hid (FF.out.below b1 (fun g hg => (RG.out g hg).2))
      have B1 := Lib.hid (below_then BB.out b1)
      have NEXT := Lib.hid (F1.out.step hlt hO (fun g hg => by have := RG.out g hg; omega) (fun g hg => by have := hrg g hg; omega))
      have ND1 := Lib.hid (show (Fs ++ [F]).flatten.Nodup by
        rw [List.flatten_append]
        refine List.nodup_append.2 ⟨ND.out, by simpa using hnd, fun g hg g' hg' e => ?_⟩
        have h1 := RG.out g hg
        have h2 := hrg g' (by simpa using hg')
        omega)
      have hsz1 : wr.heap.size ≤ w1.heap.size := b1.size
      have RG1 := Lib.hid (show ∀ g ∈ (Fs ++ [F]).flatten, w.heap.size < g ∧ g < w1.heap.size by
        intro g hg
        rw [List.flatten_append, List.mem_append] at hg
        rcases hg with hg | hg
        · have h1 := RG.out g hg; omega
        · have h2 := hrg g (by simpa using hg); omega)
      clear b1 hO hnd hrg
      obtain ⟨⟨y0, o0⟩, ⟨y1, o1⟩, ⟨y2, o2⟩, ⟨y3, o3⟩, ⟨y4, o4⟩, ⟨y5, o5⟩, ⟨y6, o6⟩, ⟨y7, o7⟩, f0, f1, f2, f3, f4, f5, f6, f7⟩ := F1.out.old hlt
      have BNEXT := Lib.hid (put8_below (b := w.heap.size) (p := k * 8) (c0 := .int .i64 zk) (c1 := .slice a1 n1 m1) (c2 := .slice a2 n2 m2) (c3 := .slice a3 n3 m3) (c4 := .slice a4 n4 m4) (c5 := .slice a5 n5 m5) (c6 := .int .i64 zc) (c7 := .int .i64 ze) B1.out (Nat.le_refl _))
      have hsz2 : w.heap.size < w1.heap.size := by omega
      go_wp2
      go_roundw
      case rel => exact ⟨k + 1, Fs ++ [F], by omega, by go_num, NEXT.out, ND1.out, by simpa using RG1.out, BNEXT.out, by simpa using hsz2⟩
      case measure => simp [intOf]; omega
    · obtain rfl : k = n := by omega
      go_wp2
      go_ret
      exact ⟨Fs, rfl, FF.out, ND.out, RG.out, BB.out, hsz⟩

theorem infoVec : (Tryz.prog.info? 31).map (·.size) = some 8 := by kernel_rfl
/-- A vector that lies in the result's block. -/
theorem vec_ret0 {fn : Func} {R : Ending → World → Prop} {act : Act} {w : World} {g : Nat} {p : Tmp} {a b c d e f h i : Value} {t : TypeId} {fr : Nat × Nat}
    (hfn : fn.results = #[.cell p 31]) (hp : act.tmps.getD p undef = .pointer (some ⟨g, 0, none⟩)) (hd : act.defers = []) (hg : w.heap[g]? = some (.cells #[a, b, c, d, e, f, h, i] t fr))
    (hR : R (.returned (.agg #[a, b, c, d, e, f, h, i])) w) : bodyPost Tryz.prog fn R .ret act w :=
  bodyPost_ret (results_cell_row hfn _ _ g t #[a, b, c, d, e, f, h, i] fr _ hp hg Tryz.underlying31 rfl infoVec) hd hR
theorem keep_step {W W' : World} {o j : Nat} {v : Value} (hb : Below (W.setCell ⟨o, j, none⟩ v).heap.size (W.setCell ⟨o, j, none⟩ v) W') {b : Nat} (h1 : b < W.heap.size) (h2 : b ≠ o) : W'.heap[b]? = W.heap[b]? :=
  (hb.block b (by simpa using h1)).trans (Below.heap_setCell _ _ _ _ h2)
theorem blk_set {w : World} {b i : Nat} {C : Array Value} {t : TypeId} {fr : Nat × Nat} (h : w.heap[b]? = some (.cells C t fr)) (v : Value) : (w.setCell ⟨b, i, none⟩ v).heap[b]? = some (.cells (C.setIfInBounds i v) t fr) := Joins.block_setCell h v

theorem OwnRow.kept {w w1 : World} {d g n k : Nat} {l : List Vec} {Fs : List (List Nat)} (h : OwnRow w d g n k l Fs) (hk : ∀ b ∈ g :: Fs.flatten, w1.heap[b]? = w.heap[b]?) : OwnRow w1 d g n k l Fs := by
  obtain ⟨C, hC, hn, hl, r⟩ := h
  refine ⟨C, (hk g (by simp)).trans hC, hn, hl, fun i hi => ?_⟩
  obtain ⟨val, hv, m⟩ := r i hi
  exact ⟨val, hv.kept _ _ _ _ (fun b' hb' => hk b' (List.mem_cons.2 (.inr (mem_flat (by omega) hb')))), m⟩
theorem OwnRow.own {w : World} {d g : Nat} {l : List Vec} {Fs : List (List Nat)} (h : OwnRow w d g l.length l.length l Fs) :
    (l = [] ∧ (g :: Fs.flatten) = []) ∨ ∃ b C, ∃ Gs : List (List Nat), (g :: Fs.flatten) = b :: Gs.flatten ∧ Gs.length = l.length ∧ (some ⟨g, 0, none⟩ : Option Addr) = some ⟨b, 0, none⟩ ∧ w.heap[b]? = some (.cells C 31 (0, 0)) ∧ l.length * 8 ≤ C.size ∧
        ∀ i, i < l.length → ∃ val, OwnVec w d (l.getD i noV) val (Gs.getD i []) ∧ Eight C i val := by
  obtain ⟨C, hC, hn, hl, r⟩ := h
  exact .inr ⟨g, C, Fs, rfl, hl, rfl, hC, by omega, r⟩

theorem nodup_ranges {g1 g2 g3 g4 g5 : Nat} {L : List Nat} (nd : L.Nodup) (h12 : g1 < g2) (hL : ∀ b ∈ L, g2 < b ∧ b < g3) (h23 : g2 < g3) (h34 : g3 < g4) (h45 : g4 < g5) : ([g1] ++ ((g2 :: L) ++ ([g3] ++ ([g4] ++ [g5])))).Nodup := by
  have e : [g1] ++ ((g2 :: L) ++ ([g3] ++ ([g4] ++ [g5]))) = g1 :: g2 :: (L ++ [g3, g4, g5]) := by simp
  rw [e, List.nodup_cons, List.nodup_cons, List.nodup_append]
  refine ⟨fun h => ?_, fun h => ?_, nd, ?_, fun a ha b hb e => ?_⟩
  · simp only [List.mem_cons, List.mem_append, List.not_mem_nil, or_false] at h
    rcases h with h | h | h | h | h
    · omega
    · have := hL _ h; omega
    · omega
    · omega
    · omega
  · simp only [List.mem_cons, List.mem_append, List.not_mem_nil, or_false] at h
    rcases h with h | h | h | h
    · have := hL _ h; omega
    · omega
    · omega
    · omega
  · simp only [List.nodup_cons, List.mem_cons, List.not_mem_nil, or_false, not_false_eq_true, List.nodup_nil, and_true]
    omega
  · simp only [List.mem_cons, List.not_mem_nil, or_false] at hb
    have := hL _ ha
    omega
theorem toDone {d o : Nat} {w w1 w2 w3 w4 w5 WF : World} {kk code env : Int} {items : List It} {parts : List Vec} {names cls levels : List ByteArray} {g1 g2 g3 g4 g5 : Nat} {Fs : List (List Nat)}
    (ho : o = w.heap.size + 1 + 1) (hz1 : w.heap.size + 3 ≤ g1) (hs1 : g1 < w1.heap.size) (hz2 : w1.heap.size ≤ g2) (hs2 : g2 < w2.heap.size) (hz3 : w2.heap.size ≤ g3) (hs3 : g3 < w3.heap.size) (hz4 : w3.heap.size ≤ g4) (hs4 : g4 < w4.heap.size) (hz5 : w4.heap.size ≤ g5) (hs5 : g5 < w5.heap.size)
    (S2 : ∀ b', b' < w1.heap.size → b' ≠ o → w2.heap[b']? = w1.heap[b']?) (S3 : ∀ b', b' < w2.heap.size → b' ≠ o → w3.heap[b']? = w2.heap[b']?) (S4 : ∀ b', b' < w3.heap.size → b' ≠ o → w4.heap[b']? = w3.heap[b']?) (S5 : ∀ b', b' < w4.heap.size → b' ≠ o → w5.heap[b']? = w4.heap[b']?)
    (KF : ∀ b', b' ≠ w.heap.size + 1 → b' ≠ o → WF.heap[b']? = w5.heap[b']?) (hsz : WF.heap.size = w5.heap.size)
    (Q1 : OwnIts w1 (some ⟨g1, 0, none⟩) items [g1]) (Q2 : OwnRow w2 d g2 parts.length parts.length parts Fs) (ND : Fs.flatten.Nodup) (RG : ∀ b ∈ Fs.flatten, g2 < b ∧ b < w2.heap.size)
    (Q3 : OwnTxs w3 (some ⟨g3, 0, none⟩) names [g3]) (Q4 : OwnTxs w4 (some ⟨g4, 0, none⟩) cls [g4]) (Q5 : OwnTxs w5 (some ⟨g5, 0, none⟩) levels [g5]) :
    ∃ F, OwnVec WF (d + 1) (.mk kk items parts names cls levels code env) (.agg #[.int .i64 kk, .slice (some ⟨g1, 0, none⟩) items.length items.length, .slice (some ⟨g2, 0, none⟩) parts.length parts.length, .slice (some ⟨g3, 0, none⟩) names.length names.length, .slice (some ⟨g4, 0, none⟩) cls.length cls.length, .slice (some ⟨g5, 0, none⟩) levels.length levels.length, .int .i64 code, .int .i64 env]) F ∧ F.Nodup ∧ ∀ b ∈ F, w.heap.size ≤ b ∧ b < WF.heap.size := by
  refine ⟨[g1] ++ ((g2 :: Fs.flatten) ++ ([g3] ++ ([g4] ++ [g5]))), ?_, nodup_ranges ND (by omega) (fun b hb => by have := RG b hb; omega) (by omega) (by omega) (by omega), ?_⟩
  · unfold OwnVec
    refine ⟨_, _, _, _, _, _, _, _, _, _, [g1], g2 :: Fs.flatten, [g3], [g4], [g5], rfl, rfl, ⟨Nat.le_refl _, Nat.le_refl _, Nat.le_refl _, Nat.le_refl _, Nat.le_refl _⟩, Q1.kept ?_, Q3.kept ?_, Q4.kept ?_, Q5.kept ?_, (Q2.kept ?_).own⟩
    · intro b hb
      obtain rfl := List.mem_singleton.1 hb
      exact (((KF _ (by omega) (by omega)).trans (S5 _ (by omega) (by omega))).trans (S4 _ (by omega) (by omega))).trans ((S3 _ (by omega) (by omega)).trans (S2 _ (by omega) (by omega)))
    · intro b hb
      obtain rfl := List.mem_singleton.1 hb
      exact ((KF _ (by omega) (by omega)).trans (S5 _ (by omega) (by omega))).trans (S4 _ (by omega) (by omega))
    · intro b hb
      obtain rfl := List.mem_singleton.1 hb
      exact (KF _ (by omega) (by omega)).trans (S5 _ (by omega) (by omega))
    · intro b hb
      obtain rfl := List.mem_singleton.1 hb
      exact KF _ (by omega) (by omega)
    · intro b hb
      have hr : g2 ≤ b ∧ b < w2.heap.size := by
        rcases List.mem_cons.1 hb with rfl | hb
        · exact ⟨Nat.le_refl _, hs2⟩
        · have := RG b hb; omega
      exact (((KF _ (by omega) (by omega)).trans (S5 _ (by omega) (by omega))).trans (S4 _ (by omega) (by omega))).trans (S3 _ (by omega) (by omega))
  · intro b hb
    rw [hsz]
    simp only [List.cons_append, List.nil_append, List.mem_cons, List.mem_append, List.not_mem_nil, or_false] at hb
    rcases hb with rfl | rfl | hb | rfl | rfl | rfl
    · omega
    · omega
    · have := RG b hb; omega
    · omega
    · omega
    · omega
theorem fin_keep {w : World} {o g b : Nat} {x y z c0 c1 c2 c3 c4 c5 c6 c7 : Value} (h1 : b ≠ g) (h2 : b ≠ o) : (put8 (((w.setCell ⟨o, 5, none⟩ x).setCell ⟨o, 6, none⟩ y).setCell ⟨o, 7, none⟩ z) g 0 c0 c1 c2 c3 c4 c5 c6 c7).heap[b]? = w.heap[b]? := by
  rw [put8_other h1, Below.heap_setCell _ _ _ _ h2, Below.heap_setCell _ _ _ _ h2, Below.heap_setCell _ _ _ _ h2]
theorem fin_size {w : World} {o g : Nat} {x y z c0 c1 c2 c3 c4 c5 c6 c7 : Value} : (put8 (((w.setCell ⟨o, 5, none⟩ x).setCell ⟨o, 6, none⟩ y).setCell ⟨o, 7, none⟩ z) g 0 c0 c1 c2 c3 c4 c5 c6 c7).heap.size = w.heap.size := by
  unfold put8; simp
theorem fin_below {B : Nat} {w0 w : World} {o g : Nat} {x y z c0 c1 c2 c3 c4 c5 c6 c7 : Value} (h : Below B w0 w) (ho : B ≤ o) (hg : B ≤ g) : Below B w0 (put8 (((w.setCell ⟨o, 5, none⟩ x).setCell ⟨o, 6, none⟩ y).setCell ⟨o, 7, none⟩ z) g 0 c0 c1 c2 c3 c4 c5 c6 c7) :=
  put8_below (((h.setCell (p := ⟨o, 5, none⟩) ho x).setCell (p := ⟨o, 6, none⟩) ho y).setCell (p := ⟨o, 7, none⟩) ho z) hg
theorem put8_lit {w : World} {b : Nat} {z0 z1 z2 z3 z4 z5 z6 z7 c0 c1 c2 c3 c4 c5 c6 c7 : Value} {t : TypeId} (h : w.heap[b]? = some (.cells #[z0, z1, z2, z3, z4, z5, z6, z7] t (0, 0))) :
    (put8 w b 0 c0 c1 c2 c3 c4 c5 c6 c7).heap[b]? = some (.cells #[c0, c1, c2, c3, c4, c5, c6, c7] t (0, 0)) := by
  have h0 : (w.setCell ⟨b, 0, none⟩ c0).heap[b]? = some (.cells #[c0, z1, z2, z3, z4, z5, z6, z7] t (0, 0)) := Joins.block_setCell h c0
  have h1 : ((w.setCell ⟨b, 0, none⟩ c0).setCell ⟨b, 1, none⟩ c1).heap[b]? = some (.cells #[c0, c1, z2, z3, z4, z5, z6, z7] t (0, 0)) := Joins.block_setCell h0 c1
  have h2 : (((w.setCell ⟨b, 0, none⟩ c0).setCell ⟨b, 1, none⟩ c1).setCell ⟨b, 2, none⟩ c2).heap[b]? = some (.cells #[c0, c1, c2, z3, z4, z5, z6, z7] t (0, 0)) := Joins.block_setCell h1 c2
  have h3 : ((((w.setCell ⟨b, 0, none⟩ c0).setCell ⟨b, 1, none⟩ c1).setCell ⟨b, 2, none⟩ c2).setCell ⟨b, 3, none⟩ c3).heap[b]? = some (.cells #[c0, c1, c2, c3, z4, z5, z6, z7] t (0, 0)) := Joins.block_setCell h2 c3
  have h4 : (((((w.setCell ⟨b, 0, none⟩ c0).setCell ⟨b, 1, none⟩ c1).setCell ⟨b, 2, none⟩ c2).setCell ⟨b, 3, none⟩ c3).setCell ⟨b, 4, none⟩ c4).heap[b]? = some (.cells #[c0, c1, c2, c3, c4, z5, z6, z7] t (0, 0)) := Joins.block_setCell h3 c4
  have h5 : ((((((w.setCell ⟨b, 0, none⟩ c0).setCell ⟨b, 1, none⟩ c1).setCell ⟨b, 2, none⟩ c2).setCell ⟨b, 3, none⟩ c3).setCell ⟨b, 4, none⟩ c4).setCell ⟨b, 5, none⟩ c5).heap[b]? = some (.cells #[c0, c1, c2, c3, c4, c5, z6, z7] t (0, 0)) := Joins.block_setCell h4 c5
  have h6 : (((((((w.setCell ⟨b, 0, none⟩ c0).setCell ⟨b, 1, none⟩ c1).setCell ⟨b, 2, none⟩ c2).setCell ⟨b, 3, none⟩ c3).setCell ⟨b, 4, none⟩ c4).setCell ⟨b, 5, none⟩ c5).setCell ⟨b, 6, none⟩ c6).heap[b]? = some (.cells #[c0, c1, c2, c3, c4, c5, c6, z7] t (0, 0)) := Joins.block_setCell h5 c6
  have h7 : ((((((((w.setCell ⟨b, 0, none⟩ c0).setCell ⟨b, 1, none⟩ c1).setCell ⟨b, 2, none⟩ c2).setCell ⟨b, 3, none⟩ c3).setCell ⟨b, 4, none⟩ c4).setCell ⟨b, 5, none⟩ c5).setCell ⟨b, 6, none⟩ c6).setCell ⟨b, 7, none⟩ c7).heap[b]? = some (.cells #[c0, c1, c2, c3, c4, c5, c6, c7] t (0, 0)) := Joins.block_setCell h6 c7
  exact h7
/-- The last world of a function that returns a vector from a block of its own. -/
theorem vec_done {fn : Func} {R : Ending → World → Prop} {act : Act} {w : World} {g o : Nat} {p : Tmp} {x y z z0 z1 z2 z3 z4 z5 z6 z7 c0 c1 c2 c3 c4 c5 c6 c7 : Value} {t : TypeId}
    (hfn : fn.results = #[.cell p 31]) (hp : act.tmps.getD p undef = .pointer (some ⟨g, 0, none⟩)) (hd : act.defers = []) (hg : w.heap[g]? = some (.cells #[z0, z1, z2, z3, z4, z5, z6, z7] t (0, 0))) (hne : g ≠ o)
    (hR : R (.returned (.agg #[c0, c1, c2, c3, c4, c5, c6, c7])) (put8 (((w.setCell ⟨o, 5, none⟩ x).setCell ⟨o, 6, none⟩ y).setCell ⟨o, 7, none⟩ z) g 0 c0 c1 c2 c3 c4 c5 c6 c7)) :
    bodyPost Tryz.prog fn R .ret act (((((((((((w.setCell ⟨o, 5, none⟩ x).setCell ⟨o, 6, none⟩ y).setCell ⟨o, 7, none⟩ z).setCell ⟨g, 0, none⟩ c0).setCell ⟨g, 1, none⟩ c1).setCell ⟨g, 2, none⟩ c2).setCell ⟨g, 3, none⟩ c3).setCell ⟨g, 4, none⟩ c4).setCell ⟨g, 5, none⟩ c5).setCell ⟨g, 6, none⟩ c6).setCell ⟨g, 7, none⟩ c7) :=
  vec_ret0 hfn hp hd (put8_lit (by rw [Below.heap_setCell _ _ _ _ hne, Below.heap_setCell _ _ _ _ hne, Below.heap_setCell _ _ _ _ hne]; exact hg)) hR

set_option maxHeartbeats 1500000 in
theorem toStep (d : Nat) (IH : ToOk d) : ToOk (d + 1) := by
  refine ⟨fun v x lo hi w hv hhi hsm => ?_⟩
  obtain ⟨kk, items, parts, names, cls, levels, code, env⟩ := v
  obtain ⟨d', ai, ci, ap, cp, an, cn, ac, cc, al, cl, ed, rfl, hI, hN, hC, hL, hP⟩ := vecAt_open hv
  obtain rfl : d = d' := by omega
  obtain ⟨li, lp, ln, lc, ll, _, _, _, _, hsp⟩ := hsm
  have hfp : ∀ i, i < parts.length → Small d (parts.getD i noV) := fun i hi => hsp _ (by rw [List.getD_eq_getElem?_getD, List.getElem?_eq_getElem hi]; exact List.getElem_mem hi)
  have CI0 : (∀ (w1 : World), Below w.heap.size w w1 → Calls Tryz.prog 20 #[.slice ai items.length ci] w1 fun e w' => ∃ g, e = .returned (.slice (some ⟨g, 0, none⟩) items.length items.length) ∧ OwnIts w' (some ⟨g, 0, none⟩) items [g] ∧ w1.heap.size ≤ g ∧ g < w'.heap.size ∧ Below w1.heap.size w1 w') := by
    refine (fun w1 hb => (toItems items ai ci lo hi w1 (hI.below hb hhi) (Nat.le_trans hhi hb.size) li).mono ?_)
    rintro e w' ⟨rfl, f, b⟩
    exact ⟨_, rfl, f.own, Nat.le_refl _, f.lt, b⟩
  have CP0 : (∀ (w1 : World), Below w.heap.size w w1 → Calls Tryz.prog 21 #[.slice ap parts.length cp] w1 fun e w' => ∃ g, ∃ Fs : List (List Nat), e = .returned (.slice (some ⟨g, 0, none⟩) parts.length parts.length) ∧ OwnRow w' d g parts.length parts.length parts Fs ∧ Fs.flatten.Nodup ∧ (∀ b ∈ Fs.flatten, g < b ∧ b < w'.heap.size) ∧ w1.heap.size ≤ g ∧ g < w'.heap.size ∧ Below w1.heap.size w1 w') := by
    refine (fun w1 hb => (toParts d IH parts ap cp lo hi w1 (hP.below hb hhi) (Nat.le_trans hhi hb.size) hfp lp).mono ?_)
    rintro e w' ⟨Fs, rfl, f, nd, rg, b, hsz⟩
    exact ⟨_, Fs, rfl, f, nd, rg, Nat.le_refl _, hsz, b⟩
  have TS : ∀ (l : List ByteArray) (a : Option Addr) (cap : Nat), TextsAt lo hi w a l → l.length ≤ 1048576 → ∀ (w1 : World), Below w.heap.size w w1 →
      Calls Tryz.prog 22 #[.slice a l.length cap] w1 fun e w' => ∃ g, e = .returned (.slice (some ⟨g, 0, none⟩) l.length l.length) ∧ OwnTxs w' (some ⟨g, 0, none⟩) l [g] ∧ w1.heap.size ≤ g ∧ g < w'.heap.size ∧ Below w1.heap.size w1 w' := by
    intro l a cap ht hlen w1 hb
    refine (toStrs a l.length cap (txtS l) w1 ((ht.below hb hhi).strs.mono (Nat.le_trans hhi hb.size)) hlen).mono ?_
    rintro e w' ⟨rfl, f, b⟩
    exact ⟨_, rfl, f.own, Nat.le_refl _, by obtain ⟨C, hC, _⟩ := f; exact hC.lt, b⟩
  have CI := Lib.hid CI0
  have CP := Lib.hid CP0
  have CN := Lib.hid (TS names an cn hN ln)
  have CC := Lib.hid (TS cls ac cc hC lc)
  have CL := Lib.hid (TS levels al cl hL ll)
  clear CI0 CP0 hv hI hN hC hL hP hfp hsp TS ed li lp ln lc ll IH
  go_enter Tryz.func6, Tryz.ntmps6
  go_wp2_with fail
  refine (CI.out _ (below3 w _ _ _)).mono ?_
  rintro e w1 ⟨g1, rfl, O1, hg1, hs1, b1⟩
  have B1 := Lib.hid (below_then (below3 w _ _ _) b1)
  have KA1 := Lib.hid (blk_below b1 (blk_old (blk_old (blk_new w _ rfl))))
  have KO1 := Lib.hid (blk_below b1 (blk_new _ _ (show w.heap.size + 1 + 1 = _ by simp)))
  have KR1 := Lib.hid (blk_below b1 (blk_old (blk_new _ _ (show w.heap.size + 1 = _ by simp))))
  have hz1 : w.heap.size + 3 ≤ g1 := by simpa using hg1
  have Q1 := Lib.hid O1
  clear b1 O1 hg1
  obtain ⟨k0, k1, k2, k3, k4, k5, k6, k7⟩ := vec8 KA1.out
  obtain ⟨l0, l1, l2, l3, l4, l5, l6, l7⟩ := vec8 KO1.out
  have fo1 := freeOf (i := 1) KO1.out
  go_wp2_with fail
  have bs1 := Lib.hid (B1.out.setCell (p := ⟨w.heap.size + 1 + 1, 1, none⟩) (by simp only; omega) (.slice (some ⟨g1, 0, none⟩) items.length items.length))
  refine (CP.out _ bs1.out).mono ?_
  rintro e w2 ⟨g2, Fs, rfl, O, hnd, hrg, hg, hs2, b⟩
  have S2 := Lib.hid (fun (b' : Nat) (h1 : b' < w1.heap.size) (h2 : b' ≠ w.heap.size + 1 + 1) => keep_step b h1 h2)
  have hz2 : w1.heap.size ≤ g2 := by simpa using hg
  have B2 := Lib.hid (bs1.out.trans (b.mono bs1.out.size))
  have KA2 := Lib.hid ((keep_step b (by omega) (by omega)).trans KA1.out)
  have KO2 := Lib.hid (blk_below b (blk_set KO1.out (.slice (some ⟨g1, 0, none⟩) items.length items.length)))
  have KR2 := Lib.hid ((keep_step b (by omega) (by omega)).trans KR1.out)
  have Q2 := Lib.hid O
  have ND := Lib.hid hnd
  have RG := Lib.hid hrg
  clear hnd hrg
  clear b O hg k0 k1 k2 k3 k4 k5 k6 k7 l0 l1 l2 l3 l4 l5 l6 l7 fo1
  obtain ⟨k0, k1, k2, k3, k4, k5, k6, k7⟩ := vec8 KA2.out
  obtain ⟨l0, l1, l2, l3, l4, l5, l6, l7⟩ := vec8 KO2.out
  have fo2 := freeOf (i := 2) KO2.out
  go_wp2_with fail
  have bs2 := Lib.hid (B2.out.setCell (p := ⟨w.heap.size + 1 + 1, 2, none⟩) (by simp only; omega) (.slice (some ⟨g2, 0, none⟩) parts.length parts.length))
  refine (CN.out _ bs2.out).mono ?_
  rintro e w3 ⟨g3, rfl, O, hg, hs3, b⟩
  have S3 := Lib.hid (fun (b' : Nat) (h1 : b' < w2.heap.size) (h2 : b' ≠ w.heap.size + 1 + 1) => keep_step b h1 h2)
  have hz3 : w2.heap.size ≤ g3 := by simpa using hg
  have B3 := Lib.hid (bs2.out.trans (b.mono bs2.out.size))
  have KA3 := Lib.hid ((keep_step b (by omega) (by omega)).trans KA2.out)
  have KO3 := Lib.hid (blk_below b (blk_set KO2.out (.slice (some ⟨g2, 0, none⟩) parts.length parts.length)))
  have KR3 := Lib.hid ((keep_step b (by omega) (by omega)).trans KR2.out)
  have Q3 := Lib.hid O
  clear b O hg k0 k1 k2 k3 k4 k5 k6 k7 l0 l1 l2 l3 l4 l5 l6 l7 fo2
  obtain ⟨k0, k1, k2, k3, k4, k5, k6, k7⟩ := vec8 KA3.out
  obtain ⟨l0, l1, l2, l3, l4, l5, l6, l7⟩ := vec8 KO3.out
  have fo3 := freeOf (i := 3) KO3.out
  go_wp2_with fail
  have bs3 := Lib.hid (B3.out.setCell (p := ⟨w.heap.size + 1 + 1, 3, none⟩) (by simp only; omega) (.slice (some ⟨g3, 0, none⟩) names.length names.length))
  refine (CC.out _ bs3.out).mono ?_
  rintro e w4 ⟨g4, rfl, O, hg, hs4, b⟩
  have S4 := Lib.hid (fun (b' : Nat) (h1 : b' < w3.heap.size) (h2 : b' ≠ w.heap.size + 1 + 1) => keep_step b h1 h2)
  have hz4 : w3.heap.size ≤ g4 := by simpa using hg
  have B4 := Lib.hid (bs3.out.trans (b.mono bs3.out.size))
  have KA4 := Lib.hid ((keep_step b (by omega) (by omega)).trans KA3.out)
  have KO4 := Lib.hid (blk_below b (blk_set KO3.out (.slice (some ⟨g3, 0, none⟩) names.length names.length)))
  have KR4 := Lib.hid ((keep_step b (by omega) (by omega)).trans KR3.out)
  have Q4 := Lib.hid O
  clear b O hg k0 k1 k2 k3 k4 k5 k6 k7 l0 l1 l2 l3 l4 l5 l6 l7 fo3
  obtain ⟨k0, k1, k2, k3, k4, k5, k6, k7⟩ := vec8 KA4.out
  obtain ⟨l0, l1, l2, l3, l4, l5, l6, l7⟩ := vec8 KO4.out
  have fo4 := freeOf (i := 4) KO4.out
  go_wp2_with fail
  have bs4 := Lib.hid (B4.out.setCell (p := ⟨w.heap.size + 1 + 1, 4, none⟩) (by simp only; omega) (.slice (some ⟨g4, 0, none⟩) cls.length cls.length))
  refine (CL.out _ bs4.out).mono ?_
  rintro e w5 ⟨g5, rfl, O, hg, hs5, b⟩
  have S5 := Lib.hid (fun (b' : Nat) (h1 : b' < w4.heap.size) (h2 : b' ≠ w.heap.size + 1 + 1) => keep_step b h1 h2)
  have hz5 : w4.heap.size ≤ g5 := by simpa using hg
  have B5 := Lib.hid (bs4.out.trans (b.mono bs4.out.size))
  have KA5 := Lib.hid ((keep_step b (by omega) (by omega)).trans KA4.out)
  have KO5 := Lib.hid (blk_below b (blk_set KO4.out (.slice (some ⟨g4, 0, none⟩) cls.length cls.length)))
  have KR5 := Lib.hid ((keep_step b (by omega) (by omega)).trans KR4.out)
  have Q5 := Lib.hid O
  clear b O hg k0 k1 k2 k3 k4 k5 k6 k7 l0 l1 l2 l3 l4 l5 l6 l7 fo4
  obtain ⟨k0, k1, k2, k3, k4, k5, k6, k7⟩ := vec8 KA5.out
  obtain ⟨l0, l1, l2, l3, l4, l5, l6, l7⟩ := vec8 KO5.out
  have fo5 := freeOf (i := 5) KO5.out
  have fo6 := freeOf (i := 6) KO5.out
  have fo7 := freeOf (i := 7) KO5.out
  obtain ⟨r0, r1, r2, r3, r4, r5, r6, r7⟩ := vec8 KR5.out
  have fr0 := freeOf (i := 0) KR5.out
  have fr1 := freeOf (i := 1) KR5.out
  have fr2 := freeOf (i := 2) KR5.out
  have fr3 := freeOf (i := 3) KR5.out
  have fr4 := freeOf (i := 4) KR5.out
  have fr5 := freeOf (i := 5) KR5.out
  have fr6 := freeOf (i := 6) KR5.out
  have fr7 := freeOf (i := 7) KR5.out
  go_wp2
  refine vec_done (g := w.heap.size + 1) rfl rfl rfl KR5.out (by omega) ?_
  obtain ⟨WF, hWF, hk, hsz, hbf⟩ : ∃ WF, put8 (((w5.setCell ⟨w.heap.size + 1 + 1, 5, none⟩ (.slice (some ⟨g5, 0, none⟩) levels.length levels.length)).setCell ⟨w.heap.size + 1 + 1, 6, none⟩ (.int .i64 code)).setCell ⟨w.heap.size + 1 + 1, 7, none⟩ (.int .i64 env)) (w.heap.size + 1) 0 (.int .i64 kk) (.slice (some ⟨g1, 0, none⟩) items.length items.length) (.slice (some ⟨g2, 0, none⟩) parts.length parts.length) (.slice (some ⟨g3, 0, none⟩) names.length names.length) (.slice (some ⟨g4, 0, none⟩) cls.length cls.length) (.slice (some ⟨g5, 0, none⟩) levels.length levels.length) (.int .i64 code) (.int .i64 env) = WF ∧ (∀ b', b' ≠ w.heap.size + 1 → b' ≠ w.heap.size + 1 + 1 → WF.heap[b']? = w5.heap[b']?) ∧ WF.heap.size = w5.heap.size ∧ Below w.heap.size w WF :=
    ⟨_, rfl, fun _ h1 h2 => fin_keep h1 h2, fin_size, fin_below B5.out (by omega) (by omega)⟩
  rw [hWF]
  obtain ⟨F, f1, f2, f3⟩ := toDone (d := d) (w := w) (kk := kk) (code := code) (env := env) rfl hz1 hs1 hz2 hs2 hz3 hs3 hz4 hs4 hz5 hs5 S2.out S3.out S4.out S5.out hk hsz Q1.out Q2.out ND.out RG.out Q3.out Q4.out Q5.out
  exact ⟨_, F, rfl, f1, f2, f3, hbf⟩
theorem toZero : ToOk 0 := ⟨fun _ _ _ _ _ h => h.elim⟩
theorem toAll : ∀ d, ToOk d
  | 0 => toZero
  | d + 1 => toStep d (toAll d)
end Go.Proofs.YtikgcogiiohahaaGreatDoor

/- Slices of items that a function of vectors builds by append, and the operations for it in a region that draws its order. -/
namespace Go.Proofs.YtikgcogiiohahaaGreatDoor
open Go.RowKit
set_option maxRecDepth 100000
set_option linter.unusedVariables false

section
variable {P : Program} {ops : Array Oper} {Q : Exit → Act → World → Prop} {S : World → Prop}
variable {r : List (Nat × Bool)} {a : Act} {e : List (Nat × Value)} {w : World} {i d : Nat} {g : Option (Nat × Bool)} {v : Value}
/-- An operation that changes the world, where nothing else may come up. -/
theorem run_eff {op : Op} {w' : World} (ho : opAt ops i = some (some d, op, g)) (hd : Nat.blt d a.tmps.size = true) (hw : wantE ops a e g = some true)
    (hx : ∀ o : Oper, o.op = op → (execOp (lookO a e) o).run P w = .ok (.value v) w') (hS : S w') (h : RunE P ops Q S r a ((d, v) :: e) w') : RunE P ops Q S ((i, false) :: r) a e w := by
  refine ⟨fun hk => ?_⟩
  obtain ⟨o, hi, h1, h2, h3⟩ := opAt_spec ho
  show wpOp P ops Q i (fun a' w' => (lastK ops i = true ∨ S w') ∧ seqH P ops Q S r a' w') (putAll a e) w
  unfold wpOp
  simp only [hi, if_pos (wantE_spec hk (by rw [h3]; exact hw))]
  left
  unfold Oper.wp
  rw [eval_putAll a e hk, hx o h2]
  simp only [Oper.upon]
  rw [h1]
  exact ⟨.inr hS, h.out (keysIn_cons hd hk)⟩
/-- A slice literal of one element. -/
theorem run_build {t el : TypeId} {x : Operand} {u z : Value} {cells : Array Value} {ie : TypeInfo} (ho : opAt ops i = some (some d, .buildSlice t 1 #[(0, x)], g)) (hd : Nat.blt d a.tmps.size = true) (hw : wantE ops a e g = some true)
    (hx : lookO a e x = u) (hu : P.underlying t = some (.slice el)) (hie : P.info? el = some ie) (hz : ie.zero = some z) (h24 : ¬ 1 * ie.size > 2 ^ 24) (h0 : ¬ 1 * ie.size = 0)
    (hf : Instr.fill (fun i => some (i * ie.size, ie.size)) ((Array.range (1 * ie.size)).map (z.cells[· % z.cells.size]!)) [(0, u)] = some cells)
    (hS : S (w.alloc (.cells cells el))) (h : RunE P ops Q S r a ((d, .slice (some ⟨w.heap.size, 0, none⟩) 1 1) :: e) (w.alloc (.cells cells el))) : RunE P ops Q S ((i, false) :: r) a e w := by
  refine run_eff ho hd hw (fun o h1 => ?_) hS h
  unfold execOp
  have hb := run_buildSlice (P := P) w t el 1 #[(0, u)] cells ie z hu hie hz h24 h0 hf
  simp only [h1, List.map_toArray, List.map_cons, List.map_nil, hx, Sem.run_bind, hb, Result.andThen_ok]
  rfl
/-- An append onto a row of the call's own. -/
theorem run_app {t el : TypeId} {x y : Operand} {v0 : Value} (ho : opAt ops i = some (some d, .call { callee := .builtin .append, args := [x, y].toArray, argTypes := [t, t].toArray }, g)) (hd : Nat.blt d a.tmps.size = true) (hw : wantE ops a e g = some true)
    (hx : lookO a e x = v0) (ad : Addr) (m c : Nat) (hy : lookO a e y = .slice (some ad) m c)
    (base : Nat) (ie : TypeInfo) (z : Value) (size bytes : Nat) (ht : P.underlying t = some (.slice el)) (hi : P.info? el = some ie) (hz : ie.zero = some z) (hsize : ie.size = size) (hby : ie.bytes = bytes) (hzs : z.cells.size = size) (hsz : 0 < size)
    (n : Nat) (xs : List Value) (hown : w.ownsRow base el size v0 n xs) (news : List Value) (hl : news.length = m * size) (hnews : ∀ j u, news[j]? = some u → w.cell? (ad.add j) = some u) (h1 : ∀ u ∈ news, u.oneCell' = true)
    (h63 : n + m ≤ maxLen) (hbytes : (n + m) * bytes ≤ 140737488355328) (hbase : base ≤ w.heap.size)
    (h : ∀ v' w', w'.ownsRow base el size v' (n + m) (xs ++ news) → w.grownBy w' v0.ownBlock → S w' ∧ RunE P ops Q S r a ((d, v') :: e) w') : RunE P ops Q S ((i, false) :: r) a e w := by
  refine ⟨fun hk => ?_⟩
  obtain ⟨o, hi', k1, k2, k3⟩ := opAt_spec ho
  show wpOp P ops Q i (fun a' w' => (lastK ops i = true ∨ S w') ∧ seqH P ops Q S r a' w') (putAll a e) w
  unfold wpOp
  simp only [hi', if_pos (wantE_spec hk (by rw [k3]; exact hw))]
  left
  unfold Oper.wp
  rw [eval_putAll a e hk]
  obtain ⟨v', w', hr, h2, h3, _⟩ := run_append_own (P := P) w base t o.type el ie z size bytes ht hi hz hsize hby hzs hsz v0 n xs hown ad m c news hl hnews h1 h63 hbytes hbase
  obtain ⟨hS, hR⟩ := h v' w' h2 h3
  unfold execOp
  simp only [k2, resolve, invoke, builtin, Sem.run_bind, Sem.run_pure, Result.andThen_ok, List.map_toArray, List.map_cons, List.map_nil, hx, hy, hr]
  simp only [Oper.upon]
  rw [k1]
  exact ⟨.inr hS, hR.out (keysIn_cons hd hk)⟩
/-- The last store: it waits for all the others, so nothing is asked of the world behind it. -/
theorem run_last {t : TypeId} {x y : Operand} {p u : Value} {w' : World} (hl : lastK ops i = true) (ho : opAt ops i = some (none, .store t x y, g)) (hw : wantE ops a e g = some true)
    (hx : lookO a e x = p) (hy : lookO a e y = u) (hs : (Instr.storeAt t p u).run P w = .ok () w') (h : RunE P ops Q S r a e w') : RunE P ops Q S ((i, false) :: r) a e w := by
  refine ⟨fun hk => ?_⟩
  obtain ⟨o, hi, h1, h2, h3⟩ := opAt_spec ho
  show wpOp P ops Q i (fun a' w' => (lastK ops i = true ∨ S w') ∧ seqH P ops Q S r a' w') (putAll a e) w
  unfold wpOp
  simp only [hi, if_pos (wantE_spec hk (by rw [h3]; exact hw))]
  left
  unfold Oper.wp
  have hrun : (execOp (putAll a e).eval o).run P w = .ok .skip w' := by
    rw [eval_putAll a e hk]
    unfold execOp
    rw [h2]
    simp only [hx, hy]
    rw [Sem.run_bind, hs]; rfl
  rw [hrun]
  simp only [Oper.upon]
  rw [h1]
  exact ⟨.inl hl, h.out hk⟩
end

/-- No operation that waits for all the others stands ahead of another one. -/
def seqTail (ops : Array Oper) : List (Nat × Bool) → Bool
  | [] => true
  | (_, true) :: r => seqTail ops r
  | (i, false) :: r => (!lastK ops i || r.isEmpty) && seqTail ops r
def itCells : List It → List Value
  | [] => []
  | x :: l => .int .i64 x.n :: .int .i64 x.d :: .string x.t :: itCells l
theorem itCells_len : ∀ l : List It, (itCells l).length = l.length * 3
  | [] => rfl
  | x :: l => by simp only [itCells, List.length_cons, itCells_len l]; omega
theorem itCells_app : ∀ (l m : List It), itCells (l ++ m) = itCells l ++ itCells m
  | [], _ => rfl
  | x :: l, m => by simp only [List.cons_append, itCells, itCells_app l m]
theorem itCells_one : ∀ (l : List It), ∀ u ∈ itCells l, u.oneCell' = true
  | [], _, h => by cases h
  | x :: l, u, h => by
    simp only [itCells, List.mem_cons] at h
    rcases h with rfl | rfl | rfl | h
    · rfl
    · rfl
    · rfl
    · exact itCells_one l u h
theorem itCells_at : ∀ (l : List It) (i : Nat), i < l.length → (itCells l)[i * 3]? = some (.int .i64 (l.getD i noI).n) ∧ (itCells l)[i * 3 + 1]? = some (.int .i64 (l.getD i noI).d) ∧ (itCells l)[i * 3 + 2]? = some (.string (txtI l i))
  | [], _, h => by cases h
  | x :: l, 0, _ => ⟨rfl, rfl, rfl⟩
  | x :: l, i + 1, h => by
    have h := itCells_at l i (by simpa using h)
    have e1 : (x :: l).getD (i + 1) noI = l.getD i noI := by simp
    have e2 : txtI (x :: l) (i + 1) = txtI l i := by unfold txtI; rw [e1]
    rw [e1, e2, show (i + 1) * 3 = i * 3 + 3 by omega, show i * 3 + 3 + 1 = (i * 3 + 1) + 3 by omega, show i * 3 + 3 + 2 = (i * 3 + 2) + 3 by omega]
    exact h
/-- A row of the call's own that holds the items of l. -/
theorem own_of_its {w : World} {B : Nat} {v : Value} {l : List It} (h : w.ownsRow B 45 3 v l.length (itCells l)) :
    ∃ a c F, v = .slice a l.length c ∧ OwnIts w a l F ∧ F.Nodup ∧ (∀ b ∈ F, B ≤ b ∧ b < w.heap.size) ∧ l.length ≤ c := by
  obtain ⟨_, h⟩ := h
  rcases h with ⟨rfl, h0⟩ | ⟨g, cap, cur, rfl, hB, hg, hc, _, hs, ht⟩
  · have : l = [] := List.eq_nil_of_length_eq_zero h0
    subst this
    exact ⟨none, 0, [], rfl, .inl ⟨rfl, rfl⟩, List.nodup_nil, (fun _ h => by cases h), Nat.le_refl _⟩
  · refine ⟨some ⟨g, 0, none⟩, cap, [g], rfl, .inr ⟨g, cur, rfl, rfl, hg, by omega, fun i hi => ?_⟩, by simp, fun b hb => ?_, hc⟩
    · have key : ∀ j, j < l.length * 3 → cur[j]? = (itCells l)[j]? := fun j hj => by
        rw [← ht, List.getElem?_take_of_lt hj, Array.getElem?_toList]
      obtain ⟨h0, h1, h2⟩ := itCells_at l i hi
      exact ⟨(key _ (by omega)).trans h0, (key _ (by omega)).trans h1, (key _ (by omega)).trans h2⟩
    · obtain rfl := List.mem_singleton.1 hb
      exact ⟨hB, (Array.getElem?_eq_some_iff.1 hg).1⟩
theorem infoItm3 : (Tryz.prog.info? 45).map (fun i => (i.zero, i.size, i.bytes)) = some (some (.agg #[.int .i64 0, .int .i64 0, .string ⟨#[]⟩]), 3, 32) := by kernel_rfl
theorem fill_item (x : It) : Instr.fill (fun i => some (i * 3, 3)) ((Array.range (1 * 3)).map ((Value.agg #[.int .i64 0, .int .i64 0, .string ⟨#[]⟩]).cells[· % (Value.agg #[.int .i64 0, .int .i64 0, .string ⟨#[]⟩]).cells.size]!)) [(0, .agg #[.int .i64 x.n, .int .i64 x.d, .string x.t])] = some #[.int .i64 x.n, .int .i64 x.d, .string x.t] := by
  have h := Great.fill_whole (s := 3) (by decide) [.agg #[.int .i64 x.n, .int .i64 x.d, .string x.t]] ((Array.range (1 * 3)).map ((Value.agg #[.int .i64 0, .int .i64 0, .string ⟨#[]⟩]).cells[· % (Value.agg #[.int .i64 0, .int .i64 0, .string ⟨#[]⟩]).cells.size]!)) (fun v hv => by obtain rfl := List.mem_singleton.1 hv; rfl) (by simp)
  exact h
section
variable {ops : Array Oper} {Q : Exit → Act → World → Prop} {S : World → Prop}
variable {r : List (Nat × Bool)} {a : Act} {e : List (Nat × Value)} {w : World} {i d : Nat} {g : Option (Nat × Bool)} {v : Value}
theorem run_build_item {x : Operand} (z : It) (ho : opAt ops i = some (some d, .buildSlice 28 1 #[(0, x)], g)) (hd : Nat.blt d a.tmps.size = true) (hw : wantE ops a e g = some true)
    (hx : lookO a e x = .agg #[.int .i64 z.n, .int .i64 z.d, .string z.t])
    (h : ∀ W, W = w.alloc (.cells #[.int .i64 z.n, .int .i64 z.d, .string z.t] 45) → S W ∧ RunE Tryz.prog ops Q S r a ((d, .slice (some ⟨w.heap.size, 0, none⟩) 1 1) :: e) W) : RunE Tryz.prog ops Q S ((i, false) :: r) a e w := by
  obtain ⟨ie, hie, hz, hsz, _⟩ := info_parts infoItm3
  obtain ⟨hS, hR⟩ := h _ rfl
  exact run_build ho hd hw hx Tryz.underlying28 hie hz (by rw [hsz]; decide) (by rw [hsz]; decide) (by rw [hsz]; exact fill_item z) hS hR
theorem run_app_item {x y : Operand} {v0 : Value} {b : Nat} (z : It) {l : List It} {base : Nat} (ho : opAt ops i = some (some d, .call { callee := .builtin .append, args := [x, y].toArray, argTypes := [28, 28].toArray }, g)) (hd : Nat.blt d a.tmps.size = true) (hw : wantE ops a e g = some true)
    (hx : lookO a e x = v0) (hy : lookO a e y = .slice (some ⟨b, 0, none⟩) 1 1) (hown : w.ownsRow base 45 3 v0 l.length (itCells l)) (hb : w.heap[b]? = some (.cells #[.int .i64 z.n, .int .i64 z.d, .string z.t] 45 (0, 0)))
    (hn : l.length ≤ 1048576) (hbase : base ≤ w.heap.size)
    (h : ∀ v' w', w'.ownsRow base 45 3 v' (l ++ [z]).length (itCells (l ++ [z])) → w.grownBy w' v0.ownBlock → S w' ∧ RunE Tryz.prog ops Q S r a ((d, v') :: e) w') : RunE Tryz.prog ops Q S ((i, false) :: r) a e w := by
  obtain ⟨ie, hie, hz, hsz, hby⟩ := info_parts infoItm3
  refine run_app ho hd hw hx ⟨b, 0, none⟩ 1 1 hy base ie _ 3 32 Tryz.underlying28 hie hz hsz hby rfl (by decide) l.length (itCells l) hown (itCells [z]) rfl (fun j u hj => ?_) (itCells_one _) (by unfold maxLen; omega) (by omega) hbase (fun v' w' h1 h2 => ?_)
  · have hlt : j < 3 := by have := (List.getElem?_eq_some_iff.1 hj).1; simpa [itCells] using this
    have ea : (⟨b, 0, none⟩ : Addr).add j = ⟨b, j, none⟩ := by
      unfold Addr.add; split
      · rename_i h; subst h; rfl
      · simp
    rw [ea]
    refine cellOf hb ?_
    rw [← hj]
    rcases (show j = 0 ∨ j = 1 ∨ j = 2 by omega) with rfl | rfl | rfl <;> rfl
  · refine h v' w' ?_ h2
    rw [itCells_app]
    simpa using h1
/-- The store of a slice into a field of a vector. -/
theorem run_last_field {x y : Operand} {b j : Nat} {u c : Value} {C : Array Value} {t tt : TypeId} (hl : lastK ops i = true) (ho : opAt ops i = some (none, .store t x y, g)) (hw : wantE ops a e g = some true)
    (hst : ∀ {w : World} {p : Addr}, (∃ x, w.cell? p = some x) → w.frozen? p = false → (Instr.storeAt t (.pointer (some p)) u).run Tryz.prog w = .ok () (w.setCell p u))
    (hx : lookO a e x = .pointer (some ⟨b, j, none⟩)) (hy : lookO a e y = u) (hb : w.heap[b]? = some (.cells C tt (0, 0))) (hj : C[j]? = some c)
    (h : ∀ W, W = w.setCell ⟨b, j, none⟩ u → RunE Tryz.prog ops Q S r a e W) : RunE Tryz.prog ops Q S ((i, false) :: r) a e w :=
  run_last hl ho hw hx hy (hst ⟨_, cellOf hb hj⟩ (freeOf hb)) (h _ rfl)
end
theorem store_its {w : World} {p : Addr} {s : Option Addr} {n c : Nat} (h : ∃ x, w.cell? p = some x) (hf : w.frozen? p = false) : (Instr.storeAt 28 (.pointer (some p)) (.slice s n c)).run Tryz.prog w = .ok () (w.setCell p (.slice s n c)) := by
  obtain ⟨x, hx⟩ := h
  simp [Instr.storeAt, go_sem, hx, hf]
theorem look_new {a : Act} {e : List (Nat × Value)} (d : Nat) (v : Value) : lookO a ((d, v) :: e) (.tmp d) = v := by
  show lookAt a ((d, v) :: e) d = v
  unfold lookAt
  rw [Nat.beq_refl]
theorem look_next {a : Act} {e : List (Nat × Value)} {d d' : Nat} {v v' : Value} (h : Nat.beq d d' = false) : lookO a ((d, v) :: (d', v') :: e) (.tmp d') = v' := by
  show lookAt a ((d, v) :: (d', v') :: e) d' = v'
  unfold lookAt
  rw [h]
  show lookAt a ((d', v') :: e) d' = v'
  unfold lookAt
  rw [Nat.beq_refl]
theorem ownsRow_below {w w' : World} {base : Nat} {el : TypeId} {size n : Nat} {v : Value} {xs : List Value} (h : w.ownsRow base el size v n xs) (hb : Below w.heap.size w w') : w'.ownsRow base el size v n xs := by
  obtain ⟨hl, h⟩ := h
  refine ⟨hl, ?_⟩
  rcases h with h | ⟨g, cap, cur, e, hB, hg, r⟩
  · exact .inl h
  · exact .inr ⟨g, cap, cur, e, hB, blk_below hb hg, r⟩
theorem ownsRow_set {w : World} {base b j : Nat} {el : TypeId} {size n : Nat} {v u : Value} {xs : List Value} (h : w.ownsRow base el size v n xs) (hb : b < base) : (w.setCell ⟨b, j, none⟩ u).ownsRow base el size v n xs := by
  obtain ⟨hl, h⟩ := h
  refine ⟨hl, ?_⟩
  rcases h with h | ⟨g, cap, cur, e, hB, hg, r⟩
  · exact .inl h
  · exact .inr ⟨g, cap, cur, e, hB, by rw [Below.heap_setCell _ _ _ _ (show g ≠ b by omega)]; exact hg, r⟩
theorem heldC_alloc {w v : World} {L : List (Nat × TypeId × Array Value)} (h : HeldC w v L) (o : Obj) : HeldC w (v.alloc o) L := ⟨h.1.alloc h.1.size _, fun q hq => blk_old (h.2 q hq)⟩
theorem heldC_grown {w v v1 : World} {L : List (Nat × TypeId × Array Value)} {row : Option Nat} (h : HeldC w v L) (hg : v.grownBy v1 row) (hr : ∀ k, row = some k → w.heap.size ≤ k ∧ ∀ q ∈ L, q.1 ≠ k) : HeldC w v1 L :=
  ⟨h.1.grown hg h.1.size (fun r hr' => (hr r hr').1), fun q hq => (hg.block q.1 (Array.getElem?_eq_some_iff.1 (h.2 q hq)).1 (fun e => (hr q.1 e.symm).2 q hq rfl)).trans (h.2 q hq)⟩
section
variable {ops : Array Oper} {Q : Exit → Act → World → Prop} {S : World → Prop} {w0 : World} {L : List (Nat × TypeId × Array Value)}
variable {r : List (Nat × Bool)} {a : Act} {e : List (Nat × Value)} {w : World} {i d : Nat} {g : Option (Nat × Bool)} {v : Value}
theorem addr_add (b off j : Nat) : (⟨b, off, none⟩ : Addr).add j = ⟨b, off + j, none⟩ := by
  unfold Addr.add; split
  · rename_i h; subst h; rfl
  · rfl
/-- The address of an element of one cell. -/
theorem run_idx1 {t el : TypeId} {x y : Operand} {b off n c k : Nat} {z : Value} {by_ : Nat} (ho : opAt ops i = some (some d, .indexAddr t x y, g)) (hd : Nat.blt d a.tmps.size = true) (hw : wantE ops a e g = some true)
    (hx : lookO a e x = .slice (some ⟨b, off, none⟩) n c) (hy : lookO a e y = .int .i64 (k : Int)) (hk : k < n) (ht : Tryz.prog.underlying t = some (.slice el)) (he : Tryz.prog.elem t = el) (hz : (Tryz.prog.info? el).map (fun i => (i.zero, i.size, i.bytes)) = some (some z, 1, by_))
    (h : RunE Tryz.prog ops Q S r a ((d, .pointer (some ⟨b, off + k, none⟩)) :: e) w) : RunE Tryz.prog ops Q S ((i, true) :: r) a e w :=
  run_yield ho hd hw (fun o w' h1 _ => by
    unfold execOp; rw [h1]; simp only [hx, hy]
    refine run_v ?_
    obtain ⟨ie, hie, _, hsz, _⟩ := info_parts hz
    subst he
    rw [run_indexAt_slice (h := ht), if_pos ⟨Int.natCast_nonneg k, by omega⟩]
    simp [sizeOf, typeInfo, hie, hsz, addr_add]) h
/-- A load of a cell that lay there at the outset. -/
theorem runC_old {x : Operand} {t : TypeId} {b j : Nat} (hl : ∀ {w' : World} {p : Addr} {v : Value}, w'.cell? p = some v → (Instr.loadAt t (.pointer (some p))).run Tryz.prog w' = .ok v w')
    (ho : opAt ops i = some (some d, .load t x, g)) (hd : Nat.blt d a.tmps.size = true) (hw : wantE ops a e g = some true)
    (hx : lookO a e x = .pointer (some ⟨b, j, none⟩)) (hb : b < w0.heap.size) (hc : w0.cell? ⟨b, j, none⟩ = some v) (h : RunE Tryz.prog ops Q (fun w' => HeldC w0 w' L) r a ((d, v) :: e) w) : RunE Tryz.prog ops Q (fun w' => HeldC w0 w' L) ((i, true) :: r) a e w :=
  run_load ho hd hw hx (fun w' hS => hl ((hS.1.cell (p := ⟨b, j, none⟩) hb).trans hc)) h
end
end Go.Proofs.YtikgcogiiohahaaGreatDoor

/- Plain functions for integers and their texts; nothing of the program. -/
namespace Go.Proofs.YtikgcogiiohahaaGreatDoor
set_option maxRecDepth 100000
open Go.RowKit

theorem bytes_cat (a b : List UInt8) : (⟨a.toArray⟩ : ByteArray) ++ ⟨b.toArray⟩ = ⟨(a ++ b).toArray⟩ := by
  apply ByteArray.ext; simp
def digC (d : Nat) : UInt8 := UInt8.ofNat (48 + d)
/-- The digits of a (none for 0) in front of acc. -/
def digs (a : Nat) (acc : List UInt8) : List UInt8 := if a = 0 then acc else Lib.decDigits a ++ acc
theorem digs_step (a : Nat) (acc : List UInt8) (h : a ≠ 0) : digs a acc = digs (a / 10) (digC (a % 10) :: acc) := by
  unfold digs
  rw [if_neg h]
  by_cases h1 : a < 10
  · rw [Lib.decDigits, dif_pos h1, if_pos (by omega), Nat.mod_eq_of_lt h1]; rfl
  · rw [Lib.decDigits, dif_neg h1, if_neg (by omega), List.append_assoc]; rfl
def DigAt (n a : Nat) (v : Value) : Prop := ∃ acc, v = .string ⟨acc.toArray⟩ ∧ digs a acc = digs n []
theorem DigAt.start (n : Nat) : DigAt n n (.string ⟨#[]⟩) := ⟨[], rfl, rfl⟩
theorem DigAt.step {n a : Nat} {acc : List UInt8} (h : digs a acc = digs n []) (ha : a ≠ 0) {b : ByteArray} (hb : b = ⟨[digC (a % 10)].toArray⟩ ++ ⟨acc.toArray⟩) : DigAt n (a / 10) (.string b) :=
  ⟨digC (a % 10) :: acc, by rw [hb, bytes_cat]; rfl, by rw [← digs_step a acc ha, h]⟩
theorem digit_text (d : Nat) (h : d < 10) : (⟨#[48, 49, 50, 51, 52, 53, 54, 55, 56, 57]⟩ : ByteArray).extract d (d + 1) = ⟨[digC d].toArray⟩ := by
  have hc : d = 0 ∨ d = 1 ∨ d = 2 ∨ d = 3 ∨ d = 4 ∨ d = 5 ∨ d = 6 ∨ d = 7 ∨ d = 8 ∨ d = 9 := by omega
  rcases hc with rfl | rfl | rfl | rfl | rfl | rfl | rfl | rfl | rfl | rfl <;> rfl
theorem digs_pos (n : Nat) (h : n ≠ 0) : digs n [] = Lib.decDigits n := by unfold digs; rw [if_neg h]; simp
theorem neg_tdiv (a : Nat) : (-(a : Int)).tdiv 10 = -((a / 10 : Nat) : Int) := by rw [Int.neg_tdiv]; rfl
theorem neg_tmod (a : Nat) : (-(a : Int)).tmod 10 = -((a % 10 : Nat) : Int) := by rw [Int.neg_tmod]; rfl
theorem dec_len2 (n : Nat) (h : n ≤ 9223372036854775808) (h0 : 1 ≤ n) : (Lib.decDigits n).length ≤ 20 := by
  have := Lib.itoa_length_le (-(n : Int)) (by omega) (by omega)
  rw [Lib.itoa_neg n h0] at this
  simpa using this
theorem acc_len {n a : Nat} {acc : List UInt8} (h : digs a acc = digs n []) (hn : n ≤ 9223372036854775808) (h0 : 1 ≤ n) : acc.length ≤ 20 := by
  have h1 := dec_len2 n hn h0
  rw [digs_pos n (by omega)] at h
  rw [← h] at h1
  unfold digs at h1
  split at h1
  · exact h1
  · simp at h1; omega
end Go.Proofs.YtikgcogiiohahaaGreatDoor

/- The laws' own marks: what they write into items and texts of a result, and read again. -/
namespace Go.Proofs.YtikgcogiiohahaaGreatDoor
set_option maxRecDepth 100000
open Go.RowKit
set_option linter.unusedVariables false

theorem ret_strK {a b : ByteArray} (h : a = b) : Ending.returned (.string a) = .returned (.string b) := by rw [h]
theorem int_eqK {a b : Int} (h : a = b) : Value.int .i64 a = Value.int .i64 b := by rw [h]
/-- The mark of a number. -/
def mkT (k : Nat) : ByteArray := ⟨(109 :: Lib.decDigits k).toArray⟩
theorem conv_byteK (wr : World) (x : Int) (u : UInt8) (hx : x = u.toNat) :
    (convert 81 9 (.slice (some ⟨wr.heap.size, 0, none⟩) 1 1)).run Tryz.prog (wr.alloc (.cells #[.int .u8 x] 5)) = .ok (.string ⟨[u].toArray⟩) (wr.alloc (.cells #[.int .u8 x] 5)) := by
  subst hx
  refine run_convert_bytes_back _ 81 9 5 ⟨wr.heap.size, 0, none⟩ 1 [u] Tryz.underlying81 Tryz.underlying5 Tryz.underlying9 ?_
  intro j hj
  have hj0 : j = 0 := by simpa using hj
  subst hj0
  have hh : (wr.alloc (.cells #[.int .u8 (u.toNat : Int)] 5)).heap[wr.heap.size]? = some (.cells #[.int .u8 (u.toNat : Int)] 5) := (MapKept.heap_alloc wr _).1
  have hcell : (wr.alloc (.cells #[.int .u8 (u.toNat : Int)] 5)).cell? ⟨wr.heap.size, 0, none⟩ = some (.int .u8 (u.toNat : Int)) := by
    unfold World.cell?
    simp only [hh]
    rfl
  exact hcell
theorem digC_natK {d : Nat} (h : d < 10) : (digC d).toNat = 48 + d := by
  unfold digC; rw [UInt8.toNat_ofNat']; omega

set_option maxHeartbeats 1000000 in
theorem mkT_any (n : Nat) (w : World) (h0 : 1 ≤ n) (h : n ≤ 9000000) :
    Calls Tryz.prog 48 #[.int .i64 n] w fun e w' => e = .returned (.string (mkT n)) ∧ Below w.heap.size w w' := by
  go_enter Tryz.func48, Tryz.ntmps48
  go_wp2
  go_loopw [0, 3] (fun x v wr => ∃ a : Nat, a ≤ n ∧ x = .int .i64 a ∧ DigAt n a v ∧ Below w.heap.size w wr) (fun x _ _ => (intOf x).toNat)
  case atStart => exact ⟨n, Nat.le_refl _, rfl, DigAt.start n, Below.refl _ _⟩
  case round =>
    obtain ⟨a, ha, rfl, ⟨acc, rfl, hd⟩, hb⟩ := hrel
    have hal := acc_len hd (by omega) h0
    have D := Lib.hid hd
    have BB := Lib.hid hb
    clear hd hb
    by_cases hz : 0 < a
    · have hcv := conv_byteK wr (48 + (a : Int) % 10) (digC (a % 10)) (by rw [digC_natK (by omega)]; omega)
      go_wp2
      go_roundw
      case rel => exact ⟨a / 10, by omega, by go_num, DigAt.step D.out (by omega) rfl, BB.out.alloc BB.out.size _⟩
      case measure => simp [intOf]; omega
    · obtain rfl : a = 0 := by omega
      have X := Lib.hid (digs_pos n (by omega))
      go_wp2
      go_ret
      exact ⟨ret_strK (by unfold mkT; rw [← X.out, ← D.out]; exact bytes_cat [109] acc), BB.out⟩
theorem mkT_at (k j : Nat) (h0 : 1 ≤ k) (h : k + j ≤ 9000000) (W : World) : Calls Tryz.prog 48 #[.int .i64 ((k : Int) + (j : Int))] W fun e w' => e = .returned (.string (mkT (k + j))) ∧ Below W.heap.size W w' := by
  have e1 : (k : Int) + (j : Int) = ((k + j : Nat) : Int) := by omega
  rw [e1]
  exact mkT_any (k + j) W (by omega) h

/-- Nothing but blocks of F has changed. -/
structure Touch (F : List Nat) (w w' : World) : Prop where
  os : w'.os = w.os
  tape : w'.tape = w.tape
  output : w'.output = w.output
  size : w.heap.size ≤ w'.heap.size
  block : ∀ b, b < w.heap.size → b ∉ F → w'.heap[b]? = w.heap[b]?
theorem Touch.refl (F : List Nat) (w : World) : Touch F w w := ⟨rfl, rfl, rfl, Nat.le_refl _, fun _ _ _ => rfl⟩
theorem Touch.trans {F : List Nat} {a b c : World} (h : Touch F a b) (k : Touch F b c) : Touch F a c :=
  ⟨k.os.trans h.os, k.tape.trans h.tape, k.output.trans h.output, Nat.le_trans h.size k.size, fun i hi hF => (k.block i (Nat.lt_of_lt_of_le hi h.size) hF).trans (h.block i hi hF)⟩
theorem Touch.of_below {F : List Nat} {w w' : World} (h : Below w.heap.size w w') : Touch F w w' := ⟨h.os, h.tape, h.output, h.size, fun b hb _ => h.block b hb⟩
theorem Touch.mono {F G : List Nat} {w w' : World} (h : Touch F w w') (hs : ∀ b ∈ F, b ∈ G) : Touch G w w' := ⟨h.os, h.tape, h.output, h.size, fun b hb hG => h.block b hb (fun hF => hG (hs b hF))⟩
theorem Touch.below {F : List Nat} {B : Nat} {w w' : World} (h : Touch F w w') (hF : ∀ b ∈ F, B ≤ b) (hB : B ≤ w.heap.size) : Below B w w' :=
  ⟨h.os, h.tape, h.output, h.size, fun b hb => h.block b (Nat.lt_of_lt_of_le hb hB) (fun hm => by have := hF b hm; omega)⟩
theorem Touch.set {F : List Nat} {w w' : World} {b i : Nat} (h : Touch F w w') (hb : b ∈ F) (v : Value) : Touch F w (w'.setCell ⟨b, i, none⟩ v) :=
  ⟨h.os, h.tape, h.output, by simpa using h.size, fun g hg hF => by rw [Below.heap_setCell _ _ _ _ (show g ≠ b from fun e => hF (e ▸ hb))]; exact h.block g hg hF⟩

/-- A block of texts whose first j are those of g. -/
def MTx (w : World) (a : Option Addr) (F : List Nat) (n j : Nat) (g : Nat → ByteArray) : Prop :=
  (n = 0 ∧ F = []) ∨ ∃ b C, F = [b] ∧ a = some ⟨b, 0, none⟩ ∧ w.heap[b]? = some (.cells C 9 (0, 0)) ∧ n ≤ C.size ∧ ∀ i, i < j → C[i]? = some (.string (g i))
theorem OwnTxs.first {w : World} {a : Option Addr} {l : List ByteArray} {F : List Nat} (h : OwnTxs w a l F) (g : Nat → ByteArray) : MTx w a F l.length 0 g := by
  rcases h with ⟨rfl, h⟩ | ⟨b, C, h1, h2, h3, h4, _⟩
  · exact .inl ⟨rfl, h⟩
  · exact .inr ⟨b, C, h1, h2, h3, h4, fun i hi => absurd hi (Nat.not_lt_zero _)⟩
def markS (k n : Nat) : List ByteArray := (List.range n).map (fun i => mkT (k + i))
theorem markS_len (k n : Nat) : (markS k n).length = n := by simp [markS]
theorem markS_at {k n i : Nat} (h : i < n) : txtS (markS k n) i = mkT (k + i) := by unfold txtS markS; simp [List.getD_eq_getElem?_getD, h]
theorem MTx.own {w : World} {a : Option Addr} {F : List Nat} {k n : Nat} (h : MTx w a F n n (fun i => mkT (k + i))) : OwnTxs w a (markS k n) F := by
  rcases h with ⟨rfl, h⟩ | ⟨b, C, h1, h2, h3, h4, h5⟩
  · exact .inl ⟨rfl, h⟩
  · exact .inr ⟨b, C, h1, h2, h3, by rw [markS_len]; exact h4, fun i hi => by rw [markS_len] at hi; rw [markS_at hi]; exact h5 i hi⟩
theorem MTx.below {w w1 : World} {a : Option Addr} {F : List Nat} {n j : Nat} {g : Nat → ByteArray} (h : MTx w a F n j g) (hb : Below w.heap.size w w1) : MTx w1 a F n j g := by
  rcases h with h | ⟨b, C, h1, h2, h3, h⟩
  · exact .inl h
  · exact .inr ⟨b, C, h1, h2, blk_below hb h3, h⟩
theorem MTx.step {w : World} {b : Nat} {C : Array Value} {F : List Nat} {n j : Nat} {g : Nat → ByteArray} (hF : F = [b]) (hb : w.heap[b]? = some (.cells C 9 (0, 0))) (hn : n ≤ C.size) (h : ∀ i, i < j → C[i]? = some (.string (g i))) (hj : j < n) :
    MTx (w.setCell ⟨b, j, none⟩ (.string (g j))) (some ⟨b, 0, none⟩) F n (j + 1) g := by
  refine .inr ⟨b, _, hF, rfl, Joins.block_setCell hb _, by simpa using hn, fun i hi => ?_⟩
  by_cases e : i = j
  · subst e
    have : i < C.size := by omega
    simp [this]
  · rw [Array.getElem?_setIfInBounds_ne (by omega)]; exact h i (by omega)

set_option maxHeartbeats 1000000 in
theorem markTxs (l : List ByteArray) (a : Option Addr) (c k : Nat) (F : List Nat) (w : World) (h : OwnTxs w a l F) (hn : l.length ≤ 1048576) (h1 : 1 ≤ k) (hk : k + l.length ≤ 9000000) :
    Calls Tryz.prog 32 #[.slice a l.length c, .int .i64 k] w fun e w' => e = .returned (.int .i64 ((k : Int) + (l.length : Int))) ∧ OwnTxs w' a (markS k l.length) F ∧ Touch F w w' := by
  have M0 := Lib.hid (h.first (fun i => mkT (k + i)))
  clear h
  obtain ⟨n, hn'⟩ : ∃ n, l.length = n := ⟨_, rfl⟩
  rw [hn'] at hn hk M0 ⊢
  clear hn'
  go_enter Tryz.func32, Tryz.ntmps32
  go_wp2
  go_loopw [1, 5] (fun kv iv wr => ∃ j : Nat, j ≤ n ∧ iv = .int .i64 j ∧ kv = .int .i64 ((k : Int) + (j : Int)) ∧ MTx wr a F n j (fun i => mkT (k + i)) ∧ Touch F w wr) (fun _ iv _ => n - (intOf iv).toNat)
  case atStart => exact ⟨0, Nat.zero_le _, rfl, int_eqK (by omega), M0.out, Touch.refl _ _⟩
  case round =>
    obtain ⟨j, hj, rfl, rfl, hm, ht⟩ := hrel
    have TT := Lib.hid ht
    have MM := Lib.hid hm
    clear ht hm
    by_cases hlt : j < n
    · have MT := Lib.hid (mkT_at k j h1 (by omega))
      obtain ⟨b, C, hF, rfl, hC, hnC, hg⟩ : ∃ b C, F = [b] ∧ a = some ⟨b, 0, none⟩ ∧ wr.heap[b]? = some (.cells C 9 (0, 0)) ∧ n ≤ C.size ∧ ∀ i, i < j → C[i]? = some (.string (mkT (k + i))) := by
        rcases MM.out with ⟨h0, _⟩ | h
        · omega
        · exact h
      have HF := Lib.hid hF
      have HC := Lib.hid hC
      have HG := Lib.hid hg
      clear hF hC hg MM
      go_wp2_with fail
      with_reducible refine (MT.out _).mono ?_
      rintro e w1 ⟨rfl, b1⟩
      have C1 := Lib.hid (blk_below b1 HC.out)
      have T1 := Lib.hid (TT.out.trans (Touch.of_below b1))
      clear b1
      have hfree : w1.frozen? ⟨b, j, none⟩ = false := freeOf C1.out
      obtain ⟨v0, hold⟩ : ∃ v0, w1.cell? ⟨b, j, none⟩ = some v0 := ⟨_, cellOf C1.out (Array.getElem?_eq_getElem (by omega))⟩
      have NEXT := Lib.hid (MTx.step HF.out C1.out hnC HG.out hlt)
      have TN := Lib.hid (T1.out.set (i := j) (show b ∈ F by rw [HF.out]; exact List.mem_singleton.2 rfl) (.string (mkT (k + j))))
      go_wp2
      go_roundw
      case rel => exact ⟨j + 1, by omega, by go_num, int_eqK (by omega), NEXT.out, TN.out⟩
      case measure => simp [intOf]; omega
    · obtain rfl : j = n := by omega
      go_wp2
      go_ret
      exact ⟨rfl, MM.out.own, TT.out⟩

theorem held_stepK {w w1 w2 : World} {p : Addr} {v : Value} (hp : p.block < w.heap.size) (h : Below w.heap.size w w1 ∧ w1.cell? p = some v) (hb : Below w1.heap.size w1 w2) : Below w.heap.size w w2 ∧ w2.cell? p = some v :=
  ⟨h.1.trans (hb.mono h.1.size), by rw [hb.cell (Nat.lt_of_lt_of_le hp h.1.size)]; exact h.2⟩
set_option maxHeartbeats 1000000 in
theorem heldTxs (n : Nat) (a : Option Addr) (c k lo hi : Nat) (w : World) (hs : TextsAt lo hi w a (markS k n)) (hhi : hi ≤ w.heap.size) (hn : n ≤ 1048576) (h1 : 1 ≤ k) (hk : k + n ≤ 9000000) :
    Calls Tryz.prog 35 #[.slice a n c, .int .i64 k] w fun e w' => e = .returned (.int .i64 ((k : Int) + (n : Int))) ∧ Below w.heap.size w w' := by
  have A := Lib.hid (fun (j : Nat) (w1 : World) (hj : j < n) (hb : Below w.heap.size w w1) => (by
    obtain ⟨b, off, e, _, h2, c0⟩ := (hs.below hb hhi) j (mkT (k + j)) (by unfold markS; simp [hj])
    exact ⟨b, off, e, h2, c0⟩ : ∃ b off, a = some ⟨b, off, none⟩ ∧ b < hi ∧ w1.cell? ⟨b, off + j, none⟩ = some (.string (mkT (k + j)))))
  clear hs
  go_enter Tryz.func35, Tryz.ntmps35
  go_wp2
  go_loopw [1, 5] (fun kv iv wr => ∃ j : Nat, j ≤ n ∧ iv = .int .i64 j ∧ kv = .int .i64 ((k : Int) + (j : Int)) ∧ Below w.heap.size w wr) (fun _ iv _ => n - (intOf iv).toNat)
  case atStart => exact ⟨0, Nat.zero_le _, rfl, int_eqK (by omega), Below.refl _ _⟩
  case round =>
    obtain ⟨j, hj, rfl, rfl, hb⟩ := hrel
    have BB := Lib.hid hb
    clear hb
    by_cases hlt : j < n
    · obtain ⟨b, off, rfl, hbB, hc⟩ := A.out j _ hlt BB.out
      have hlt' : (j : Int) < (n : Int) := by omega
      have hbw : b < wr.heap.size := Nat.lt_of_lt_of_le (Nat.lt_of_lt_of_le hbB hhi) BB.out.size
      have hbw0 : b < w.heap.size := Nat.lt_of_lt_of_le hbB hhi
      have MT := Lib.hid (mkT_at k j h1 (by omega))
      have HB := Lib.hid BB.out
      have HC := Lib.hid hc
      go_wp2
      go_region_held3 (fun w' => Below w.heap.size w w' ∧ w'.cell? ⟨b, off + j, none⟩ = some (.string (mkT (k + j)))) (first | exact ⟨HB.out.drew, HC.out⟩ | exact held_stepK hbw0 (by assumption) (by assumption)) (first | (go_at_call 48; refine (MT.out _).mono ?_; rintro e w1 ⟨rfl, b1⟩))
      go_wp2
      go_roundw
      case rel => exact ⟨j + 1, by omega, by go_num, int_eqK (by omega), ‹Below w.heap.size w _ ∧ _›.1⟩
      case measure => simp [intOf]; omega
    · obtain rfl : j = n := by omega
      go_wp2
      go_ret
      exact ⟨rfl, BB.out⟩
end Go.Proofs.YtikgcogiiohahaaGreatDoor

/- The laws' own marks in items. -/
namespace Go.Proofs.YtikgcogiiohahaaGreatDoor
set_option maxRecDepth 100000
open Go.RowKit
set_option linter.unusedVariables false

def mkM (k i : Nat) : It := ⟨k + 3 * i, k + 3 * i + 1, mkT (k + 3 * i + 2)⟩
def markI (k n : Nat) : List It := (List.range n).map (mkM k)
theorem markI_len (k n : Nat) : (markI k n).length = n := by simp [markI]
theorem markI_at {k n i : Nat} (h : i < n) : (markI k n).getD i noI = mkM k i := by unfold markI; simp [List.getD_eq_getElem?_getD, h]
/-- A block of items whose first j are those of g. -/
def MIx (w : World) (a : Option Addr) (F : List Nat) (n j : Nat) (g : Nat → It) : Prop :=
  (n = 0 ∧ F = []) ∨ ∃ b C, F = [b] ∧ a = some ⟨b, 0, none⟩ ∧ w.heap[b]? = some (.cells C 45 (0, 0)) ∧ n * 3 ≤ C.size ∧
    ∀ i, i < j → C[i * 3]? = some (.int .i64 (g i).n) ∧ C[i * 3 + 1]? = some (.int .i64 (g i).d) ∧ C[i * 3 + 2]? = some (.string (g i).t)
theorem OwnIts.first {w : World} {a : Option Addr} {l : List It} {F : List Nat} (h : OwnIts w a l F) (g : Nat → It) : MIx w a F l.length 0 g := by
  rcases h with ⟨rfl, h⟩ | ⟨b, C, h1, h2, h3, h4, _⟩
  · exact .inl ⟨rfl, h⟩
  · exact .inr ⟨b, C, h1, h2, h3, h4, fun i hi => absurd hi (Nat.not_lt_zero _)⟩
theorem MIx.own {w : World} {a : Option Addr} {F : List Nat} {k n : Nat} (h : MIx w a F n n (mkM k)) : OwnIts w a (markI k n) F := by
  rcases h with ⟨rfl, h⟩ | ⟨b, C, h1, h2, h3, h4, h5⟩
  · exact .inl ⟨rfl, h⟩
  · exact .inr ⟨b, C, h1, h2, h3, by rw [markI_len]; exact h4, fun i hi => by rw [markI_len] at hi; unfold txtI; rw [markI_at hi]; exact h5 i hi⟩
theorem MIx.step {w : World} {b : Nat} {C : Array Value} {x y z : Value} {F : List Nat} {n j : Nat} {g : Nat → It} (hF : F = [b]) (hb : w.heap[b]? = some (.cells ((C.setIfInBounds (j * 3) x).setIfInBounds (j * 3 + 1) y) 45 (0, 0))) (hn : n * 3 ≤ C.size)
    (h : ∀ i, i < j → C[i * 3]? = some (.int .i64 (g i).n) ∧ C[i * 3 + 1]? = some (.int .i64 (g i).d) ∧ C[i * 3 + 2]? = some (.string (g i).t)) (hj : j < n) (hx : x = .int .i64 (g j).n) (hy : y = .int .i64 (g j).d) (hz : z = .string (g j).t) :
    MIx (w.setCell ⟨b, j * 3 + 2, none⟩ z) (some ⟨b, 0, none⟩) F n (j + 1) g := by
  refine .inr ⟨b, _, hF, rfl, Joins.block_setCell hb _, by simpa using hn, fun i hi => ?_⟩
  subst hx hy hz
  by_cases e : i = j
  · subst e
    have l0 : i * 3 < C.size := by omega
    have l1 : i * 3 + 1 < C.size := by omega
    have l2 : i * 3 + 2 < C.size := by omega
    refine ⟨?_, ?_, ?_⟩
    · rw [Array.getElem?_setIfInBounds_ne (by omega), Array.getElem?_setIfInBounds_ne (by omega)]
      simp [l0]
    · rw [Array.getElem?_setIfInBounds_ne (by omega)]
      simp [l1]
    · simp [l2]
  · obtain ⟨h0, h1, h2⟩ := h i (by omega)
    refine ⟨?_, ?_, ?_⟩ <;> (rw [Array.getElem?_setIfInBounds_ne (by omega), Array.getElem?_setIfInBounds_ne (by omega), Array.getElem?_setIfInBounds_ne (by omega)]; assumption)

set_option maxHeartbeats 1000000 in
theorem markIts (l : List It) (a : Option Addr) (c k : Nat) (F : List Nat) (w : World) (h : OwnIts w a l F) (hn : l.length ≤ 1048576) (h1 : 1 ≤ k) (hk : k + 3 * l.length ≤ 9000000) :
    Calls Tryz.prog 30 #[.slice a l.length c, .int .i64 k] w fun e w' => e = .returned (.int .i64 ((k : Int) + 3 * (l.length : Int))) ∧ OwnIts w' a (markI k l.length) F ∧ Touch F w w' := by
  have M0 := Lib.hid (h.first (mkM k))
  clear h
  obtain ⟨n, hn'⟩ : ∃ n, l.length = n := ⟨_, rfl⟩
  rw [hn'] at hn hk M0 ⊢
  clear hn'
  go_enter Tryz.func30, Tryz.ntmps30
  go_wp2
  go_loopw [1, 5] (fun kv iv wr => ∃ j : Nat, j ≤ n ∧ iv = .int .i64 j ∧ kv = .int .i64 ((k : Int) + 3 * (j : Int)) ∧ MIx wr a F n j (mkM k) ∧ Touch F w wr) (fun _ iv _ => n - (intOf iv).toNat)
  case atStart => exact ⟨0, Nat.zero_le _, rfl, int_eqK (by omega), M0.out, Touch.refl _ _⟩
  case round =>
    obtain ⟨j, hj, rfl, rfl, hm, ht⟩ := hrel
    have TT := Lib.hid ht
    have MM := Lib.hid hm
    clear ht hm
    by_cases hlt : j < n
    · obtain ⟨b, C, hF, rfl, hC, hnC, hg⟩ : ∃ b C, F = [b] ∧ a = some ⟨b, 0, none⟩ ∧ wr.heap[b]? = some (.cells C 45 (0, 0)) ∧ n * 3 ≤ C.size ∧
          ∀ i, i < j → C[i * 3]? = some (.int .i64 (mkM k i).n) ∧ C[i * 3 + 1]? = some (.int .i64 (mkM k i).d) ∧ C[i * 3 + 2]? = some (.string (mkM k i).t) := by
        rcases MM.out with ⟨h0, _⟩ | h
        · omega
        · exact h
      have HF := Lib.hid hF
      have HC := Lib.hid hC
      have HG := Lib.hid hg
      clear hF hC hg MM
      obtain ⟨K, hK⟩ : ∃ K : Int, (k : Int) + 3 * (j : Int) = K := ⟨_, rfl⟩
      have EK := Lib.hid hK
      have hK0 : 0 ≤ K := by omega
      have hK1 : K ≤ 9000000 := by omega
      have MT := Lib.hid (fun (W : World) (x : Int) (hx : x = K + 2) => (by
        have e : x = (((k + 3 * j) : Nat) : Int) + ((2 : Nat) : Int) := by omega
        rw [e]
        exact mkT_at (k + 3 * j) 2 (by omega) (by omega) W : Calls Tryz.prog 48 #[.int .i64 x] W fun e w' => e = .returned (.string (mkT (k + 3 * j + 2))) ∧ Below W.heap.size W w'))
      rw [hK]
      clear hK
      have f0 : wr.frozen? ⟨b, j * 3, none⟩ = false := freeOf HC.out
      have f1 : wr.frozen? ⟨b, j * 3 + 1, none⟩ = false := freeOf HC.out
      obtain ⟨v0, o0⟩ : ∃ v0, wr.cell? ⟨b, j * 3, none⟩ = some v0 := ⟨_, cellOf HC.out (Array.getElem?_eq_getElem (by omega))⟩
      obtain ⟨v1, o1⟩ : ∃ v1, wr.cell? ⟨b, j * 3 + 1, none⟩ = some v1 := ⟨_, cellOf HC.out (Array.getElem?_eq_getElem (by omega))⟩
      go_wp2_with fail
      with_reducible refine (MT.out _ _ ?_).mono ?_
      · omega
      rintro e w1 ⟨rfl, b1⟩
      have C1 := Lib.hid (blk_below b1 (Joins.block_setCell (Joins.block_setCell HC.out _) _))
      have hm : b ∈ F := by rw [HF.out]; exact List.mem_singleton.2 rfl
      have T1 := Lib.hid (((TT.out.set hm _).set hm _).trans (Touch.of_below b1))
      clear b1 f0 f1 o0 o1
      have f2 : w1.frozen? ⟨b, j * 3 + 2, none⟩ = false := freeOf C1.out
      obtain ⟨v2, o2⟩ : ∃ v2, w1.cell? ⟨b, j * 3 + 2, none⟩ = some v2 := ⟨_, cellOf C1.out (Array.getElem?_eq_getElem (by simp; omega))⟩
      have NEXT := Lib.hid (MIx.step (z := .string (mkT (k + 3 * j + 2))) HF.out C1.out hnC HG.out hlt (int_eqK (by have := EK.out; simp only [mkM]; omega)) (int_eqK (by have := EK.out; simp only [mkM]; omega)) rfl)
      have TN := Lib.hid (T1.out.set (i := j * 3 + 2) hm (.string (mkT (k + 3 * j + 2))))
      have E1 := Lib.hid (show K + 1 + 1 + 1 = (k : Int) + 3 * ((j + 1 : Nat) : Int) by have := EK.out; omega)
      have E2 := Lib.hid (show K + 3 = (k : Int) + 3 * ((j + 1 : Nat) : Int) by have := EK.out; omega)
      clear hm
      go_wp2
      go_roundw
      case rel => exact ⟨j + 1, by omega, by go_num, int_eqK (by first | exact E1.out | exact E2.out), NEXT.out, TN.out⟩
      case measure => simp [intOf]; omega
    · obtain rfl : j = n := by omega
      go_wp2
      go_ret
      exact ⟨rfl, MM.out.own, TT.out⟩

set_option maxHeartbeats 1000000 in
theorem heldIts (n : Nat) (a : Option Addr) (c k lo hi : Nat) (w : World) (hs : ItemsAt lo hi w a (markI k n)) (hhi : hi ≤ w.heap.size) (hn : n ≤ 1048576) (h1 : 1 ≤ k) (hk : k + 3 * n ≤ 9000000) :
    Calls Tryz.prog 33 #[.slice a n c, .int .i64 k] w fun e w' => e = .returned (.int .i64 ((k : Int) + 3 * (n : Int))) ∧ Below w.heap.size w w' := by
  have A := Lib.hid (fun (j : Nat) (w1 : World) (K : Int) (hK : (k : Int) + 3 * (j : Int) = K) (hj : j < n) (hb : Below w.heap.size w w1) => (by
    obtain ⟨b, off, e, _, h2, c0, c1, c2⟩ := (hs.below hb hhi) j (mkM k j) (by unfold markI; simp [hj])
    subst hK
    exact ⟨b, off, e, h2, c0, c1, c2⟩ : ∃ b off, a = some ⟨b, off, none⟩ ∧ b < hi ∧ w1.cell? ⟨b, off + j * 3, none⟩ = some (.int .i64 K) ∧ w1.cell? ⟨b, off + j * 3 + 1, none⟩ = some (.int .i64 (K + 1)) ∧ w1.cell? ⟨b, off + j * 3 + 2, none⟩ = some (.string (mkT (k + 3 * j + 2)))))
  clear hs
  go_enter Tryz.func33, Tryz.ntmps33
  go_wp2
  go_loopw [1, 5] (fun kv iv wr => ∃ j : Nat, j ≤ n ∧ iv = .int .i64 j ∧ kv = .int .i64 ((k : Int) + 3 * (j : Int)) ∧ Below w.heap.size w wr) (fun _ iv _ => n - (intOf iv).toNat)
  case atStart => exact ⟨0, Nat.zero_le _, rfl, int_eqK (by omega), Below.refl _ _⟩
  case round =>
    obtain ⟨j, hj, rfl, rfl, hb⟩ := hrel
    have BB := Lib.hid hb
    clear hb
    by_cases hlt : j < n
    · obtain ⟨K, hK⟩ : ∃ K : Int, (k : Int) + 3 * (j : Int) = K := ⟨_, rfl⟩
      obtain ⟨b, off, rfl, hbB, c0, c1, c2⟩ := A.out j _ K hK hlt BB.out
      have EK := Lib.hid hK
      have hK0 : 0 ≤ K := by omega
      have hK1 : K ≤ 9000000 := by omega
      have hlt' : (j : Int) < (n : Int) := by omega
      have hbw0 : b < w.heap.size := Nat.lt_of_lt_of_le hbB hhi
      have hbw : b < wr.heap.size := Nat.lt_of_lt_of_le hbw0 BB.out.size
      have MT := Lib.hid (fun (W : World) (x : Int) (hx : x = K + 2) => (by
        have e : x = (((k + 3 * j) : Nat) : Int) + ((2 : Nat) : Int) := by omega
        rw [e]
        exact mkT_at (k + 3 * j) 2 (by omega) (by omega) W : Calls Tryz.prog 48 #[.int .i64 x] W fun e w' => e = .returned (.string (mkT (k + 3 * j + 2))) ∧ Below W.heap.size W w'))
      have HB := Lib.hid BB.out
      have HC := Lib.hid c2
      have E1 := Lib.hid (show K + 1 + 1 + 1 = (k : Int) + 3 * ((j + 1 : Nat) : Int) by omega)
      have E2 := Lib.hid (show K + 3 = (k : Int) + 3 * ((j + 1 : Nat) : Int) by omega)
      rw [hK]
      clear hK
      go_wp2
      go_region_held3 (fun w' => Below w.heap.size w w' ∧ w'.cell? ⟨b, off + j * 3 + 2, none⟩ = some (.string (mkT (k + 3 * j + 2)))) (first | exact ⟨HB.out.drew, HC.out⟩ | exact held_stepK hbw0 (by assumption) (by assumption)) (first | (go_at_call 48; refine (MT.out _ _ (by omega)).mono ?_; rintro e w1 ⟨rfl, b1⟩))
      go_wp2
      go_roundw
      case rel => exact ⟨j + 1, by omega, by go_num, int_eqK (by first | exact E1.out | exact E2.out), ‹Below w.heap.size w _ ∧ _›.1⟩
      case measure => simp [intOf]; omega
    · obtain rfl : j = n := by omega
      go_wp2
      go_ret
      exact ⟨rfl, BB.out⟩
end Go.Proofs.YtikgcogiiohahaaGreatDoor

/- The laws' own marks in whole vectors: what is written. -/
namespace Go.Proofs.YtikgcogiiohahaaGreatDoor
set_option maxRecDepth 100000
open Go.RowKit
set_option linter.unusedVariables false

/-- How many marks a vector takes (its own kind, code and environment are not marked). -/
def cntM : Nat → Vec → Nat
  | 0, _ => 0
  | d + 1, .mk _ items parts names cls levels _ _ => 3 * items.length + sumN (fun i => cntM d (parts.getD i noV) + 3) parts.length + names.length + cls.length + levels.length
def cntP (d : Nat) (parts : List Vec) (i : Nat) : Nat := sumN (fun i => cntM d (parts.getD i noV) + 3) i
def setP (o c : Nat) : Vec → Vec
  | .mk _ it pa na cl le _ _ => .mk o it pa na cl le ((o + 1 + c : Nat) : Int) ((o + 2 + c : Nat) : Int)
def markV : Nat → Nat → Vec → Vec
  | 0, _, v => v
  | d + 1, k, .mk kk items parts names cls levels code env =>
    .mk kk (markI k items.length)
      ((List.range parts.length).map (fun i => setP (k + 3 * items.length + cntP d parts i) (cntM d (parts.getD i noV)) (markV d (k + 3 * items.length + cntP d parts i + 1) (parts.getD i noV))))
      (markS (k + 3 * items.length + cntP d parts parts.length) names.length) (markS (k + 3 * items.length + cntP d parts parts.length + names.length) cls.length) (markS (k + 3 * items.length + cntP d parts parts.length + names.length + cls.length) levels.length) code env
def markP (d k : Nat) (parts : List Vec) (i : Nat) : Vec := setP (k + cntP d parts i) (cntM d (parts.getD i noV)) (markV d (k + cntP d parts i + 1) (parts.getD i noV))
def markPs (d k : Nat) (parts : List Vec) : List Vec := (List.range parts.length).map (markP d k parts)
theorem markPs_len (d k : Nat) (parts : List Vec) : (markPs d k parts).length = parts.length := by simp [markPs]
theorem markPs_at {d k : Nat} {parts : List Vec} {i : Nat} (h : i < parts.length) : (markPs d k parts).getD i noV = markP d k parts i := by unfold markPs; simp [List.getD_eq_getElem?_getD, h]
/-- The parts of a vector in a block of their own. -/
def OwnPs (w : World) (d : Nat) (ap : Option Addr) (parts : List Vec) (Fp : List Nat) : Prop :=
  (parts = [] ∧ Fp = []) ∨ ∃ b C, ∃ Fs : List (List Nat), Fp = b :: Fs.flatten ∧ Fs.length = parts.length ∧ ap = some ⟨b, 0, none⟩ ∧ w.heap[b]? = some (.cells C 31 (0, 0)) ∧ parts.length * 8 ≤ C.size ∧
    ∀ i, i < parts.length → ∃ val, OwnVec w d (parts.getD i noV) val (Fs.getD i []) ∧ Eight C i val
theorem OwnPs.kept {w w1 : World} {d : Nat} {ap : Option Addr} {parts : List Vec} {Fp : List Nat} (h : OwnPs w d ap parts Fp) (k : ∀ b ∈ Fp, w1.heap[b]? = w.heap[b]?) : OwnPs w1 d ap parts Fp := by
  rcases h with h | ⟨b, C, Fs, rfl, hl, e, hb, hc, hp⟩
  · exact .inl h
  · refine .inr ⟨b, C, Fs, rfl, hl, e, (k b (by simp)).trans hb, hc, fun i hi => ?_⟩
    obtain ⟨val, hv, m⟩ := hp i hi
    exact ⟨val, hv.kept _ _ _ _ (fun b' hb' => k b' (List.mem_cons.2 (.inr (mem_flat (by omega) hb')))), m⟩
theorem ownVec_open {w : World} {d : Nat} {k : Int} {items : List It} {parts : List Vec} {names cls levels : List ByteArray} {code env : Int} {val : Value} {F : List Nat} (h : OwnVec w d (.mk k items parts names cls levels code env) val F) :
    ∃ d' ai ci ap cp an cn ac cc al cl Fi Fp Fn Fc Fl, d = d' + 1 ∧ val = .agg #[.int .i64 k, .slice ai items.length ci, .slice ap parts.length cp, .slice an names.length cn, .slice ac cls.length cc, .slice al levels.length cl, .int .i64 code, .int .i64 env] ∧
      F = Fi ++ (Fp ++ (Fn ++ (Fc ++ Fl))) ∧ CapsOk items.length ci parts.length cp names.length cn cls.length cc levels.length cl ∧ OwnIts w ai items Fi ∧ OwnPs w d' ap parts Fp ∧ OwnTxs w an names Fn ∧ OwnTxs w ac cls Fc ∧ OwnTxs w al levels Fl := by
  cases d with
  | zero => exact h.elim
  | succ d =>
    unfold OwnVec at h
    obtain ⟨ai, ci, ap, cp, an, cn, ac, cc, al, cl, Fi, Fp, Fn, Fc, Fl, e, eF, hC, h1, h2, h3, h4, h5⟩ := h
    exact ⟨d, ai, ci, ap, cp, an, cn, ac, cc, al, cl, Fi, Fp, Fn, Fc, Fl, rfl, e, eF, hC, h1, h5, h2, h3, h4⟩
theorem ownVec_mk {w : World} {d : Nat} {k : Int} {items : List It} {parts : List Vec} {names cls levels : List ByteArray} {code env : Int} {ai ap an ac al : Option Addr} {ci cp cn cc cl : Nat} {Fi Fp Fn Fc Fl : List Nat}
    (hC : CapsOk items.length ci parts.length cp names.length cn cls.length cc levels.length cl) (h1 : OwnIts w ai items Fi) (h2 : OwnPs w d ap parts Fp) (h3 : OwnTxs w an names Fn) (h4 : OwnTxs w ac cls Fc) (h5 : OwnTxs w al levels Fl) :
    OwnVec w (d + 1) (.mk k items parts names cls levels code env) (.agg #[.int .i64 k, .slice ai items.length ci, .slice ap parts.length cp, .slice an names.length cn, .slice ac cls.length cc, .slice al levels.length cl, .int .i64 code, .int .i64 env]) (Fi ++ (Fp ++ (Fn ++ (Fc ++ Fl)))) := by
  unfold OwnVec
  exact ⟨ai, ci, ap, cp, an, cn, ac, cc, al, cl, Fi, Fp, Fn, Fc, Fl, rfl, rfl, hC, h1, h3, h4, h5, h2⟩
theorem five_disj {A B C D E : List Nat} (nd : (A ++ (B ++ (C ++ (D ++ E)))).Nodup) :
    (∀ g ∈ A, g ∉ B ∧ g ∉ C ∧ g ∉ D ∧ g ∉ E) ∧ (∀ g ∈ B, g ∉ A ∧ g ∉ C ∧ g ∉ D ∧ g ∉ E) ∧ (∀ g ∈ C, g ∉ A ∧ g ∉ B ∧ g ∉ D ∧ g ∉ E) ∧ (∀ g ∈ D, g ∉ A ∧ g ∉ B ∧ g ∉ C ∧ g ∉ E) ∧ (∀ g ∈ E, g ∉ A ∧ g ∉ B ∧ g ∉ C ∧ g ∉ D) ∧ B.Nodup := by
  obtain ⟨nA, nd, dA⟩ := List.nodup_append.1 nd
  obtain ⟨nB, nd, dB⟩ := List.nodup_append.1 nd
  obtain ⟨nC, nd, dC⟩ := List.nodup_append.1 nd
  obtain ⟨nD, nE, dD⟩ := List.nodup_append.1 nd
  have AB : ∀ g, g ∈ A → g ∈ B → False := fun g h k => dA g h g (by simp [k]) rfl
  have AC : ∀ g, g ∈ A → g ∈ C → False := fun g h k => dA g h g (by simp [k]) rfl
  have AD : ∀ g, g ∈ A → g ∈ D → False := fun g h k => dA g h g (by simp [k]) rfl
  have AE : ∀ g, g ∈ A → g ∈ E → False := fun g h k => dA g h g (by simp [k]) rfl
  have BC : ∀ g, g ∈ B → g ∈ C → False := fun g h k => dB g h g (by simp [k]) rfl
  have BD : ∀ g, g ∈ B → g ∈ D → False := fun g h k => dB g h g (by simp [k]) rfl
  have BE : ∀ g, g ∈ B → g ∈ E → False := fun g h k => dB g h g (by simp [k]) rfl
  have CD : ∀ g, g ∈ C → g ∈ D → False := fun g h k => dC g h g (by simp [k]) rfl
  have CE : ∀ g, g ∈ C → g ∈ E → False := fun g h k => dC g h g (by simp [k]) rfl
  have DE : ∀ g, g ∈ D → g ∈ E → False := fun g h k => dD g h g k rfl
  exact ⟨fun g h => ⟨AB g h, AC g h, AD g h, AE g h⟩, fun g h => ⟨fun k => AB g k h, BC g h, BD g h, BE g h⟩, fun g h => ⟨fun k => AC g k h, fun k => BC g k h, CD g h, CE g h⟩, fun g h => ⟨fun k => AD g k h, fun k => BD g k h, fun k => CD g k h, DE g h⟩, fun g h => ⟨fun k => AE g k h, fun k => BE g k h, fun k => CE g k h, fun k => DE g k h⟩, nB⟩
/-- The contract of markVectorS at depth d. -/
structure MPOk (d : Nat) : Prop where
  out : ∀ (parts : List Vec) (ap : Option Addr) (cp k : Nat) (Fp : List Nat) (w : World), OwnPs w d ap parts Fp → Fp.Nodup → (∀ b ∈ Fp, b < w.heap.size) → parts.length ≤ 1048576 → (∀ i, i < parts.length → Small d (parts.getD i noV)) → 1 ≤ k → k + cntP d parts parts.length ≤ 8000000 →
    Calls Tryz.prog 31 #[.slice ap parts.length cp, .int .i64 k] w fun e w' => e = .returned (.int .i64 ((k : Int) + (cntP d parts parts.length : Int))) ∧ OwnPs w' d ap (markPs d k parts) Fp ∧ Touch Fp w w'
/-- The five slices of a vector, marked one after the other. -/
theorem five_done {d : Nat} {W1 W2 W3 W4 W5 W6 : World} {ai ap an ac al : Option Addr} {items' : List It} {parts' : List Vec} {names' cls' levels' : List ByteArray} {Fi Fp Fn Fc Fl : List Nat}
    (nd : (Fi ++ (Fp ++ (Fn ++ (Fc ++ Fl)))).Nodup) (lt : ∀ b ∈ Fi ++ (Fp ++ (Fn ++ (Fc ++ Fl))), b < W1.heap.size)
    (T1 : Touch Fi W1 W2) (T2 : Touch Fp W2 W3) (T3 : Touch Fn W3 W4) (T4 : Touch Fc W4 W5) (T5 : Touch Fl W5 W6)
    (R1 : OwnIts W2 ai items' Fi) (R2 : OwnPs W3 d ap parts' Fp) (R3 : OwnTxs W4 an names' Fn) (R4 : OwnTxs W5 ac cls' Fc) (R5 : OwnTxs W6 al levels' Fl) :
    OwnIts W6 ai items' Fi ∧ OwnPs W6 d ap parts' Fp ∧ OwnTxs W6 an names' Fn ∧ OwnTxs W6 ac cls' Fc ∧ OwnTxs W6 al levels' Fl ∧ Touch (Fi ++ (Fp ++ (Fn ++ (Fc ++ Fl)))) W1 W6 := by
  obtain ⟨d1, d2, d3, d4, d5, _⟩ := five_disj nd
  have s1 := T1.size
  have s2 := T2.size
  have s3 := T3.size
  have s4 := T4.size
  refine ⟨R1.kept fun g hg => ?_, R2.kept fun g hg => ?_, R3.kept fun g hg => ?_, R4.kept fun g hg => ?_, R5, ?_⟩
  · have hl := lt g (by simp [hg])
    have hd := d1 g hg
    exact (T5.block g (by omega) hd.2.2.2).trans ((T4.block g (by omega) hd.2.2.1).trans ((T3.block g (by omega) hd.2.1).trans (T2.block g (by omega) hd.1)))
  · have hl := lt g (by simp [hg])
    have hd := d2 g hg
    exact (T5.block g (by omega) hd.2.2.2).trans ((T4.block g (by omega) hd.2.2.1).trans (T3.block g (by omega) hd.2.1))
  · have hl := lt g (by simp [hg])
    have hd := d3 g hg
    exact (T5.block g (by omega) hd.2.2.2).trans (T4.block g (by omega) hd.2.2.1)
  · have hl := lt g (by simp [hg])
    have hd := d4 g hg
    exact T5.block g (by omega) hd.2.2.2
  · exact ((((T1.mono (fun b hb => by simp [hb])).trans (T2.mono (fun b hb => by simp [hb]))).trans (T3.mono (fun b hb => by simp [hb]))).trans (T4.mono (fun b hb => by simp [hb]))).trans (T5.mono (fun b hb => by simp [hb]))
theorem cntM_eq (d : Nat) (k : Int) (items : List It) (parts : List Vec) (names cls levels : List ByteArray) (code env : Int) :
    cntM (d + 1) (.mk k items parts names cls levels code env) = 3 * items.length + cntP d parts parts.length + names.length + cls.length + levels.length := rfl
theorem markV_eq (d k : Nat) (kk : Int) (items : List It) (parts : List Vec) (names cls levels : List ByteArray) (code env : Int) :
    markV (d + 1) k (.mk kk items parts names cls levels code env) = .mk kk (markI k items.length) (markPs d (k + 3 * items.length) parts) (markS (k + 3 * items.length + cntP d parts parts.length) names.length) (markS (k + 3 * items.length + cntP d parts parts.length + names.length) cls.length) (markS (k + 3 * items.length + cntP d parts parts.length + names.length + cls.length) levels.length) code env := rfl
set_option maxHeartbeats 4000000 in
/-- markVector, over the contract of markVectorS. -/
theorem markVec_of (d : Nat) (MP : MPOk d) (v : Vec) (y : Value) (k : Nat) (F : List Nat) (w : World) (hv : OwnVec w (d + 1) v y F) (nd : F.Nodup) (lt : ∀ b ∈ F, b < w.heap.size) (hsm : Small (d + 1) v) (h1 : 1 ≤ k) (hk : k + cntM (d + 1) v ≤ 8000000) :
    Calls Tryz.prog 9 #[y, .int .i64 k] w fun e w' => e = .returned (.int .i64 ((k + cntM (d + 1) v : Nat) : Int)) ∧ OwnVec w' (d + 1) (markV (d + 1) k v) y F ∧ Touch F w w' := by
  obtain ⟨kk, items, parts, names, cls, levels, code, env⟩ := v
  obtain ⟨d', ai, ci, ap, cp, an, cn, ac, cc, al, cl, Fi, Fp, Fn, Fc, Fl, ed, rfl, rfl, hC, O1, O2, O3, O4, O5⟩ := ownVec_open hv
  obtain rfl : d = d' := by omega
  have hsp : ∀ i, i < parts.length → Small d (parts.getD i noV) := fun i hi => hsm.part hi
  obtain ⟨li, lp, ln, lc, ll, _⟩ := hsm
  rw [cntM_eq] at hk ⊢
  rw [markV_eq]
  obtain ⟨d1, d2, d3, d4, d5, ndP⟩ := five_disj nd
  obtain ⟨ni, hni⟩ : ∃ x, items.length = x := ⟨_, rfl⟩
  obtain ⟨np, hnp⟩ : ∃ x, parts.length = x := ⟨_, rfl⟩
  obtain ⟨nn, hnn⟩ : ∃ x, names.length = x := ⟨_, rfl⟩
  obtain ⟨nc, hnc⟩ : ∃ x, cls.length = x := ⟨_, rfl⟩
  obtain ⟨nl, hnl⟩ : ∃ x, levels.length = x := ⟨_, rfl⟩
  obtain ⟨cP, hcP⟩ : ∃ x, cntP d parts parts.length = x := ⟨_, rfl⟩
  have MI := Lib.hid (fun (W : World) (h : OwnIts W ai items Fi) => markIts items ai ci k Fi W h li h1 (by omega))
  have MPs := Lib.hid (fun (W : World) (h : OwnPs W d ap parts Fp) (hl : ∀ b ∈ Fp, b < W.heap.size) => (show Calls Tryz.prog 31 #[.slice ap parts.length cp, .int .i64 ((k : Int) + 3 * (items.length : Int))] W (fun e w' => e = .returned (.int .i64 ((k : Int) + 3 * (items.length : Int) + (cntP d parts parts.length : Int))) ∧ OwnPs w' d ap (markPs d (k + 3 * items.length) parts) Fp ∧ Touch Fp W w') from by
    have h := MP.out parts ap cp (k + 3 * items.length) Fp W h ndP hl lp hsp (by omega) (by omega)
    have e : ((k + 3 * items.length : Nat) : Int) = (k : Int) + 3 * (items.length : Int) := by omega
    rw [e] at h; exact h))
  have MTx : ∀ (l : List ByteArray) (a : Option Addr) (c o : Nat) (x : Int) (G : List Nat), l.length ≤ 1048576 → 1 ≤ o → o + l.length ≤ 9000000 → (o : Int) = x → ∀ (W : World), OwnTxs W a l G →
      Calls Tryz.prog 32 #[.slice a l.length c, .int .i64 x] W fun e w' => e = .returned (.int .i64 (x + (l.length : Int))) ∧ OwnTxs w' a (markS o l.length) G ∧ Touch G W w' := by
    intro l a c o x G g1 g2 g3 g4 W h
    subst g4
    exact markTxs l a c o G W h g1 g2 g3
  have MN := Lib.hid (MTx names an cn (k + 3 * items.length + cntP d parts parts.length) ((k : Int) + 3 * (items.length : Int) + (cntP d parts parts.length : Int)) Fn ln (by omega) (by omega) (by omega))
  have MC := Lib.hid (MTx cls ac cc (k + 3 * items.length + cntP d parts parts.length + names.length) ((k : Int) + 3 * (items.length : Int) + (cntP d parts parts.length : Int) + (names.length : Int)) Fc lc (by omega) (by omega) (by omega))
  have ML := Lib.hid (MTx levels al cl (k + 3 * items.length + cntP d parts parts.length + names.length + cls.length) ((k : Int) + 3 * (items.length : Int) + (cntP d parts parts.length : Int) + (names.length : Int) + (cls.length : Int)) Fl ll (by omega) (by omega) (by omega))
  have P1 := Lib.hid O1
  have P2 := Lib.hid O2
  have P3 := Lib.hid O3
  have P4 := Lib.hid O4
  have P5 := Lib.hid O5
  have CK := Lib.hid hC
  have ND := Lib.hid nd
  have LT := Lib.hid lt
  have D1 := Lib.hid d1
  have D2 := Lib.hid d2
  have D3 := Lib.hid d3
  have D4 := Lib.hid d4
  have D5 := Lib.hid d5
  clear hv O1 O2 O3 O4 O5 hC nd lt d1 d2 d3 d4 d5 ndP hsp MTx MP
  rw [hcP] at MPs MN MC ML hk ⊢
  rw [hni] at MI MPs MN MC ML CK hk ⊢
  rw [hnp] at MPs CK ⊢
  rw [hnn] at MN MC ML CK hk ⊢
  rw [hnc] at MC ML CK hk ⊢
  rw [hnl] at ML CK hk ⊢
  have EP := Lib.hid hnp
  clear hni hnp hnn hnc hnl hcP li lp ln lc ll
  have b1 : (0 : Int) ≤ (k : Int) + 3 * (ni : Int) := by omega
  go_enter Tryz.func9, Tryz.ntmps9
  go_wp2_with fail
  obtain ⟨W1, hW1⟩ : ∃ W, w.alloc (.cells #[.int .i64 kk, .slice ai ni ci, .slice ap np cp, .slice an nn cn, .slice ac nc cc, .slice al nl cl, .int .i64 code, .int .i64 env] 31) = W := ⟨_, rfl⟩
  have T0 := Lib.hid (show Below w.heap.size w W1 from hW1 ▸ below1 w _)
  have K0 := Lib.hid (show W1.heap[w.heap.size]? = some (.cells #[.int .i64 kk, .slice ai ni ci, .slice ap np cp, .slice an nn cn, .slice ac nc cc, .slice al nl cl, .int .i64 code, .int .i64 env] 31 (0, 0)) from hW1 ▸ blk_new w _ rfl)
  rw [hW1]
  clear hW1
  have Q1 := Lib.hid (P1.out.kept (fun g hg => T0.out.block g (LT.out g (by simp [hg]))))
  have Q2 := Lib.hid (P2.out.kept (fun g hg => T0.out.block g (LT.out g (by simp [hg]))))
  have Q3 := Lib.hid (P3.out.kept (fun g hg => T0.out.block g (LT.out g (by simp [hg]))))
  have Q4 := Lib.hid (P4.out.kept (fun g hg => T0.out.block g (LT.out g (by simp [hg]))))
  have Q5 := Lib.hid (P5.out.kept (fun g hg => T0.out.block g (LT.out g (by simp [hg]))))
  have L1 := Lib.hid (show ∀ b ∈ Fi ++ (Fp ++ (Fn ++ (Fc ++ Fl))), b < W1.heap.size from fun b hb => Nat.lt_of_lt_of_le (LT.out b hb) T0.out.size)
  have N1 := Lib.hid (show w.heap.size ∉ Fi ++ (Fp ++ (Fn ++ (Fc ++ Fl))) from fun h => by have := LT.out _ h; omega)
  have Z0 := Lib.hid (Array.getElem?_eq_some_iff.1 K0.out).1
  with_reducible refine (MI.out _ Q1.out).mono ?_
  rintro e w2 ⟨rfl, R1, T1⟩
  have U1 := Lib.hid T1
  have S1 := Lib.hid R1
  clear T1 R1
  have K1 := Lib.hid ((U1.out.block _ Z0.out (fun h => N1.out (by simp [h]))).trans K0.out)
  have Z1 := Lib.hid (Nat.lt_of_lt_of_le Z0.out U1.out.size)
  obtain ⟨k0, k1, k2, k3, k4, k5, k6, k7⟩ := vec8 K1.out
  go_wp2_with fail
  with_reducible refine (MPs.out _ (Q2.out.kept (fun g hg => U1.out.block g (L1.out g (by simp [hg])) (D2.out g hg).1)) (fun b hb => Nat.lt_of_lt_of_le (L1.out b (by simp [hb])) U1.out.size)).mono ?_
  rintro e w3 ⟨rfl, R2, T2⟩
  have U2 := Lib.hid T2
  have S2 := Lib.hid R2
  clear T2 R2 k0 k1 k2 k3 k4 k5 k6 k7
  have K2 := Lib.hid ((U2.out.block _ Z1.out (fun h => N1.out (by simp [h]))).trans K1.out)
  have Z2 := Lib.hid (Nat.lt_of_lt_of_le Z1.out U2.out.size)
  have L2 := Lib.hid (fun b hb => Nat.lt_of_lt_of_le (L1.out b hb) U1.out.size)
  have L3 := Lib.hid (fun b hb => Nat.lt_of_lt_of_le (L2.out b hb) U2.out.size)
  obtain ⟨k0, k1, k2, k3, k4, k5, k6, k7⟩ := vec8 K2.out
  go_wp2_with fail
  with_reducible refine (MN.out _ (Q3.out.kept (fun g hg => (U2.out.block g (L2.out g (by simp [hg])) (D3.out g hg).2.1).trans (U1.out.block g (L1.out g (by simp [hg])) (D3.out g hg).1)))).mono ?_
  rintro e w4 ⟨rfl, R3, T3⟩
  have U3 := Lib.hid T3
  have S3 := Lib.hid R3
  clear T3 R3 k0 k1 k2 k3 k4 k5 k6 k7
  have K3 := Lib.hid ((U3.out.block _ Z2.out (fun h => N1.out (by simp [h]))).trans K2.out)
  have Z3 := Lib.hid (Nat.lt_of_lt_of_le Z2.out U3.out.size)
  have L4 := Lib.hid (fun b hb => Nat.lt_of_lt_of_le (L3.out b hb) U3.out.size)
  obtain ⟨k0, k1, k2, k3, k4, k5, k6, k7⟩ := vec8 K3.out
  go_wp2_with fail
  with_reducible refine (MC.out _ (Q4.out.kept (fun g hg => (U3.out.block g (L3.out g (by simp [hg])) (D4.out g hg).2.2.1).trans ((U2.out.block g (L2.out g (by simp [hg])) (D4.out g hg).2.1).trans (U1.out.block g (L1.out g (by simp [hg])) (D4.out g hg).1))))).mono ?_
  rintro e w5 ⟨rfl, R4, T4⟩
  have U4 := Lib.hid T4
  have S4 := Lib.hid R4
  clear T4 R4 k0 k1 k2 k3 k4 k5 k6 k7
  have K4 := Lib.hid ((U4.out.block _ Z3.out (fun h => N1.out (by simp [h]))).trans K3.out)
  obtain ⟨k0, k1, k2, k3, k4, k5, k6, k7⟩ := vec8 K4.out
  go_wp2_with fail
  with_reducible refine (ML.out _ (Q5.out.kept (fun g hg => (U4.out.block g (L4.out g (by simp [hg])) (D5.out g hg).2.2.2).trans ((U3.out.block g (L3.out g (by simp [hg])) (D5.out g hg).2.2.1).trans ((U2.out.block g (L2.out g (by simp [hg])) (D5.out g hg).2.1).trans (U1.out.block g (L1.out g (by simp [hg])) (D5.out g hg).1)))))).mono ?_
  rintro e w6 ⟨rfl, R5, T5⟩
  have DONE := Lib.hid (five_done ND.out L1.out U1.out U2.out U3.out U4.out T5 S1.out S2.out S3.out S4.out R5)
  clear T5 R5 k0 k1 k2 k3 k4 k5 k6 k7
  have OV := Lib.hid (by
    obtain ⟨r1, r2, r3, r4, r5, _⟩ := DONE.out
    have h := ownVec_mk (k := kk) (code := code) (env := env) (ci := ci) (cp := cp) (cn := cn) (cc := cc) (cl := cl) (by rw [markI_len, markPs_len, EP.out, markS_len, markS_len, markS_len]; exact CK.out) r1 r2 r3 r4 r5
    rw [markI_len, markPs_len, EP.out, markS_len, markS_len, markS_len] at h
    exact h)
  have TT := Lib.hid ((Touch.of_below T0.out).trans DONE.out.2.2.2.2.2)
  go_wp2
  go_ret
  exact ⟨ret_i64S (by omega), OV.out, TT.out⟩
end Go.Proofs.YtikgcogiiohahaaGreatDoor

/- The laws' own marks in whole vectors: lists of vectors, by induction on the depth. -/
namespace Go.Proofs.YtikgcogiiohahaaGreatDoor
set_option maxRecDepth 100000
open Go.RowKit
set_option linter.unusedVariables false

theorem flat_disj {Fs : List (List Nat)} (nd : Fs.flatten.Nodup) {i j : Nat} (hi : i < Fs.length) (hj : j < Fs.length) (hne : i ≠ j) {g : Nat} (h : g ∈ Fs.getD i []) : g ∉ Fs.getD j [] := by
  have hp := (List.pairwise_flatten.1 nd).2
  rw [List.getD_eq_getElem?_getD, List.getElem?_eq_getElem hi] at h
  rw [List.getD_eq_getElem?_getD, List.getElem?_eq_getElem hj]
  intro k
  have hq := List.pairwise_iff_getElem.1 hp
  rcases Nat.lt_or_gt_of_ne hne with e | e
  · exact hq i j hi hj e g h g k rfl
  · exact hq j i hj hi e g k g h rfl
theorem flat_one {Fs : List (List Nat)} (nd : Fs.flatten.Nodup) {j : Nat} (hj : j < Fs.length) : (Fs.getD j []).Nodup := by
  have hp := (List.pairwise_flatten.1 nd).1
  rw [List.getD_eq_getElem?_getD, List.getElem?_eq_getElem hj]
  exact hp _ (List.getElem_mem hj)
/-- A row of vectors whose first j are marked. -/
def RowM (w : World) (D b n j k : Nat) (parts : List Vec) (Fs : List (List Nat)) : Prop := ∃ C, w.heap[b]? = some (.cells C 31 (0, 0)) ∧ n * 8 ≤ C.size ∧
  ∀ i, i < n → ∃ val, OwnVec w D (if i < j then markP D k parts i else parts.getD i noV) val (Fs.getD i []) ∧ Eight C i val
theorem eight_ne {C : Array Value} {i p : Nat} {x val : Value} (h : Eight C i val) (hp : p < i * 8 ∨ i * 8 + 7 < p) : Eight (C.setIfInBounds p x) i val := by
  obtain ⟨c0, c1, c2, c3, c4, c5, c6, c7, rfl, m0, m1, m2, m3, m4, m5, m6, m7⟩ := h
  refine ⟨c0, c1, c2, c3, c4, c5, c6, c7, rfl, ?_, ?_, ?_, ?_, ?_, ?_, ?_, ?_⟩ <;> (rw [Array.getElem?_setIfInBounds_ne (by omega)]; assumption)
theorem RowM.step {D b n j k : Nat} {parts : List Vec} {Fs : List (List Nat)} {wr w6 : World} {C : Array Value} {x0 c1 c2 c3 c4 c5 x6 x7 : Value} (hj : j < n) (hlen : Fs.length = n) (nd : (b :: Fs.flatten).Nodup) (lt : ∀ g ∈ b :: Fs.flatten, g < wr.heap.size)
    (hC : wr.heap[b]? = some (.cells C 31 (0, 0))) (hn : n * 8 ≤ C.size) (hrow : ∀ i, i < n → ∃ val, OwnVec wr D (if i < j then markP D k parts i else parts.getD i noV) val (Fs.getD i []) ∧ Eight C i val)
    (hE : C[j * 8 + 1]? = some c1 ∧ C[j * 8 + 2]? = some c2 ∧ C[j * 8 + 3]? = some c3 ∧ C[j * 8 + 4]? = some c4 ∧ C[j * 8 + 5]? = some c5)
    (hT : Touch (Fs.getD j []) (wr.setCell ⟨b, j * 8, none⟩ x0) w6) (hO : OwnVec w6 D (markP D k parts j) (.agg #[x0, c1, c2, c3, c4, c5, x6, x7]) (Fs.getD j [])) :
    RowM ((w6.setCell ⟨b, j * 8 + 6, none⟩ x6).setCell ⟨b, j * 8 + 7, none⟩ x7) D b n (j + 1) k parts Fs := by
  have hb : b ∉ Fs.flatten := (List.nodup_cons.1 nd).1
  have ndF := (List.nodup_cons.1 nd).2
  have hbj : b ∉ Fs.getD j [] := fun h => hb (mem_flat (by omega) h)
  have B6 : w6.heap[b]? = some (.cells (C.setIfInBounds (j * 8) x0) 31 (0, 0)) := by
    rw [hT.block b (by simpa using lt b (List.mem_cons_self ..)) hbj]
    exact Joins.block_setCell hC x0
  have keep : ∀ g, g ≠ b → ((w6.setCell ⟨b, j * 8 + 6, none⟩ x6).setCell ⟨b, j * 8 + 7, none⟩ x7).heap[g]? = w6.heap[g]? := fun g hg => by
    rw [Below.heap_setCell _ _ _ _ hg, Below.heap_setCell _ _ _ _ hg]
  refine ⟨_, Joins.block_setCell (Joins.block_setCell B6 x6) x7, by simpa using hn, fun i hi => ?_⟩
  by_cases e : i = j
  · subst e
    rw [if_pos (by omega)]
    refine ⟨_, hO.kept _ _ _ _ (fun g hg => keep g (fun e => hbj (e ▸ hg))), x0, c1, c2, c3, c4, c5, x6, x7, rfl, ?_, ?_, ?_, ?_, ?_, ?_, ?_, ?_⟩
    · have : i * 8 < C.size := by omega
      rw [Array.getElem?_setIfInBounds_ne (by omega), Array.getElem?_setIfInBounds_ne (by omega)]
      simp [this]
    · rw [Array.getElem?_setIfInBounds_ne (by omega), Array.getElem?_setIfInBounds_ne (by omega), Array.getElem?_setIfInBounds_ne (by omega)]; exact hE.1
    · rw [Array.getElem?_setIfInBounds_ne (by omega), Array.getElem?_setIfInBounds_ne (by omega), Array.getElem?_setIfInBounds_ne (by omega)]; exact hE.2.1
    · rw [Array.getElem?_setIfInBounds_ne (by omega), Array.getElem?_setIfInBounds_ne (by omega), Array.getElem?_setIfInBounds_ne (by omega)]; exact hE.2.2.1
    · rw [Array.getElem?_setIfInBounds_ne (by omega), Array.getElem?_setIfInBounds_ne (by omega), Array.getElem?_setIfInBounds_ne (by omega)]; exact hE.2.2.2.1
    · rw [Array.getElem?_setIfInBounds_ne (by omega), Array.getElem?_setIfInBounds_ne (by omega), Array.getElem?_setIfInBounds_ne (by omega)]; exact hE.2.2.2.2
    · have : i * 8 + 6 < C.size := by omega
      rw [Array.getElem?_setIfInBounds_ne (by omega)]
      simp [this]
    · have : i * 8 + 7 < C.size := by omega
      simp [this]
  · obtain ⟨val, hv, he⟩ := hrow i hi
    have ec : (if i < j + 1 then markP D k parts i else parts.getD i noV) = (if i < j then markP D k parts i else parts.getD i noV) := by
      by_cases h : i < j
      · rw [if_pos h, if_pos (by omega)]
      · rw [if_neg h, if_neg (by omega)]
    rw [ec]
    refine ⟨val, hv.kept _ _ _ _ (fun g hg => ?_), eight_ne (eight_ne (eight_ne he (by omega)) (by omega)) (by omega)⟩
    have hgb : g ≠ b := fun e' => hb (e' ▸ mem_flat (by omega) hg)
    rw [keep g hgb, hT.block g (by simpa using lt g (List.mem_cons.2 (.inr (mem_flat (by omega) hg)))) (flat_disj ndF (by omega) (by omega) e hg)]
    exact Below.heap_setCell _ _ _ _ hgb
theorem RowM.own {w : World} {D b k : Nat} {parts : List Vec} {Fs : List (List Nat)} (h : RowM w D b parts.length parts.length k parts Fs) (hl : Fs.length = parts.length) : OwnPs w D (some ⟨b, 0, none⟩) (markPs D k parts) (b :: Fs.flatten) := by
  obtain ⟨C, hC, hn, hr⟩ := h
  refine .inr ⟨b, C, Fs, rfl, by rw [markPs_len]; exact hl, rfl, hC, by rw [markPs_len]; exact hn, fun i hi => ?_⟩
  rw [markPs_len] at hi
  rw [markPs_at hi]
  have h := hr i hi
  rw [if_pos hi] at h
  exact h
set_option maxHeartbeats 1000000 in
theorem mkNone (ap : Option Addr) (cp k : Nat) (w : World) :
    Calls Tryz.prog 31 #[.slice ap 0 cp, .int .i64 k] w fun e w' => e = .returned (.int .i64 k) ∧ w = w' := by
  go_enter Tryz.func31, Tryz.ntmps31
  go_wp2
  go_loopw [1, 5] (fun kv iv wr => kv = .int .i64 k ∧ iv = .int .i64 0 ∧ wr = w) (fun _ _ _ => 0)
  case atStart => exact ⟨rfl, rfl, rfl⟩
  case round =>
    obtain ⟨rfl, rfl, rfl⟩ := hrel
    go_wp2
    go_ret
    exact ⟨rfl, rfl⟩
theorem setP_mk (o c : Nat) (kk : Int) (it : List It) (pa : List Vec) (na cl le : List ByteArray) (co en : Int) : setP o c (.mk kk it pa na cl le co en) = .mk o it pa na cl le ((o + 1 + c : Nat) : Int) ((o + 2 + c : Nat) : Int) := rfl
theorem cntP_at {d : Nat} {parts : List Vec} {j n : Nat} (h : j < n) : cntP d parts j + (cntM d (parts.getD j noV) + 3) ≤ cntP d parts n := sumN_at (fun i => cntM d (parts.getD i noV) + 3) h
theorem cntP_succ {d : Nat} {parts : List Vec} {j : Nat} : cntP d parts (j + 1) = cntP d parts j + (cntM d (parts.getD j noV) + 3) := rfl

set_option maxHeartbeats 8000000 in
theorem mpStep (d : Nat) (MP : MPOk d) : MPOk (d + 1) := by
  refine ⟨fun parts ap cp k Fp w h nd lt lp hsp h1 hk => ?_⟩
  rcases h with ⟨rfl, rfl⟩ | ⟨b, C0, Fs, rfl, hl, rfl, hb, hc, hp⟩
  · refine (mkNone ap cp k w).mono ?_
    rintro e w' ⟨rfl, rfl⟩
    exact ⟨by simp [cntP, sumN], .inl ⟨rfl, rfl⟩, Touch.refl _ _⟩
  have R0 := Lib.hid (show RowM w (d + 1) b parts.length 0 k parts Fs from ⟨C0, hb, hc, fun i hi => by rw [if_neg (Nat.not_lt_zero _)]; exact hp i hi⟩)
  have HS := Lib.hid hsp
  have HK := Lib.hid (fun (j : Nat) (hj : j < parts.length) => (by have := cntP_at (d := d + 1) (parts := parts) hj; omega : k + cntP (d + 1) parts j + (cntM (d + 1) (parts.getD j noV) + 3) ≤ 8000000))
  have ND := Lib.hid nd
  have LT := Lib.hid lt
  have HL := Lib.hid hl
  have OWN := Lib.hid (fun (W : World) (h : RowM W (d + 1) b parts.length parts.length k parts Fs) => h.own hl)
  clear hb hc hp hsp nd lt hl
  obtain ⟨np, hnp⟩ : ∃ x, parts.length = x := ⟨_, rfl⟩
  have EP := Lib.hid hnp
  rw [hnp] at R0 HS HK HL OWN lp hk ⊢
  clear hnp
  go_enter Tryz.func31, Tryz.ntmps31
  go_wp2
  go_loopw [1, 5] (fun kv iv wr => ∃ j : Nat, j ≤ np ∧ iv = .int .i64 j ∧ kv = .int .i64 ((k : Int) + (cntP (d + 1) parts j : Int)) ∧ RowM wr (d + 1) b np j k parts Fs ∧ Touch (b :: Fs.flatten) w wr) (fun _ iv _ => np - (intOf iv).toNat)
  case atStart => exact ⟨0, Nat.zero_le _, rfl, int_eqK (by simp [cntP, sumN]), R0.out, Touch.refl _ _⟩
  case round =>
    obtain ⟨j, hj, rfl, rfl, hr, ht⟩ := hrel
    by_cases hlt : j < np
    · have hKb := HK.out j hlt
      have hsm := HS.out j hlt
      obtain ⟨C, hC, hn, hrow⟩ := hr
      have TT := Lib.hid ht
      have LT1 := Lib.hid (fun g hg => Nat.lt_of_lt_of_le (LT.out g hg) ht.size : ∀ g ∈ b :: Fs.flatten, g < wr.heap.size)
      have HC := Lib.hid hC
      have HR := Lib.hid hrow
      have STEP := Lib.hid (fun (w6 : World) (x0 c1 c2 c3 c4 c5 x6 x7 : Value) hE hT hO => RowM.step (w6 := w6) (x0 := x0) (c1 := c1) (c2 := c2) (c3 := c3) (c4 := c4) (c5 := c5) (x6 := x6) (x7 := x7) hlt HL.out ND.out LT1.out hC hn hrow hE hT hO)
      have hrj := hrow j hlt
      rw [if_neg (Nat.lt_irrefl j)] at hrj
      obtain ⟨val, hv, he⟩ := hrj
      have PE := Lib.hid (Eq.refl (markP (d + 1) k parts j))
      have CNT := Lib.hid (cntP_succ (d := d + 1) (parts := parts) (j := j))
      obtain ⟨V, hV⟩ : ∃ V, parts.getD j noV = V := ⟨_, rfl⟩
      have hP : markP (d + 1) k parts j = setP (k + cntP (d + 1) parts j) (cntM (d + 1) V) (markV (d + 1) (k + cntP (d + 1) parts j + 1) V) := by unfold markP; rw [hV]
      rw [hV] at hsm hv hKb CNT
      obtain ⟨Fj, hFj⟩ : ∃ G, Fs.getD j [] = G := ⟨_, rfl⟩
      have hlF : Fs.length = np := HL.out
      have ndj : Fj.Nodup := hFj ▸ flat_one (List.nodup_cons.1 ND.out).2 (by omega)
      have ltj : ∀ g ∈ Fj, g < wr.heap.size := fun g hg => LT1.out g (List.mem_cons.2 (.inr (mem_flat (i := j) (by omega) (hFj ▸ hg))))
      have bj : b ∉ Fj := fun h => (List.nodup_cons.1 ND.out).1 (mem_flat (i := j) (by omega) (hFj ▸ h))
      have hsub : ∀ g ∈ Fj, g ∈ b :: Fs.flatten := fun g hg => List.mem_cons.2 (.inr (mem_flat (i := j) (by omega) (hFj ▸ hg)))
      rw [hFj] at hv STEP
      rw [hP] at STEP
      clear ht hrow hFj hV hP HR PE
      obtain ⟨kk, items, qs, names, cls, levels, code, env⟩ := V
      obtain ⟨d', ai, ci, aq, cq, an, cn, ac, cc, al, cl, Fi, Fq, Fn, Fc, Fl, ed, rfl, rfl, hCp, O1, O2, O3, O4, O5⟩ := ownVec_open hv
      obtain rfl : d = d' := by omega
      obtain ⟨e0, e1, e2, e3, e4, e5, e6, e7, heq, m0, m1, m2, m3, m4, m5, m6, m7⟩ := he
      simp only [Value.agg.injEq, Array.mk.injEq, List.cons.injEq, and_true] at heq
      obtain ⟨rfl, rfl, rfl, rfl, rfl, rfl, rfl, rfl⟩ := heq
      have hsq : ∀ i, i < qs.length → Small d (qs.getD i noV) := fun i hi => Small.part hsm hi
      obtain ⟨li, lq, ln, lc, ll, _⟩ := hsm
      rw [cntM_eq] at hKb CNT STEP
      rw [markV_eq, setP_mk] at STEP
      obtain ⟨d1, d2, d3, d4, d5, ndP⟩ := five_disj ndj
      obtain ⟨K, hK⟩ : ∃ K, k + cntP (d + 1) parts j = K := ⟨_, rfl⟩
      have hKi : (k : Int) + (cntP (d + 1) parts j : Int) = (K : Int) := by omega
      rw [hKi]
      rw [hK] at hKb STEP
      have EK := Lib.hid hK
      have EKi := Lib.hid hKi
      clear hK hKi
      obtain ⟨ni, hni⟩ : ∃ x, items.length = x := ⟨_, rfl⟩
      obtain ⟨nq, hnq⟩ : ∃ x, qs.length = x := ⟨_, rfl⟩
      obtain ⟨nn, hnn⟩ : ∃ x, names.length = x := ⟨_, rfl⟩
      obtain ⟨nc, hnc⟩ : ∃ x, cls.length = x := ⟨_, rfl⟩
      obtain ⟨nl, hnl⟩ : ∃ x, levels.length = x := ⟨_, rfl⟩
      obtain ⟨cP, hcP⟩ : ∃ x, cntP d qs qs.length = x := ⟨_, rfl⟩
      have MI := Lib.hid (fun (W : World) (h : OwnIts W ai items Fi) => (show Calls Tryz.prog 30 #[.slice ai items.length ci, .int .i64 ((K : Int) + 1)] W (fun e w' => e = .returned (.int .i64 ((K : Int) + 1 + 3 * (items.length : Int))) ∧ OwnIts w' ai (markI (K + 1) items.length) Fi ∧ Touch Fi W w') from by
        have h := markIts items ai ci (K + 1) Fi W h li (by omega) (by omega)
        have e : ((K + 1 : Nat) : Int) = (K : Int) + 1 := by omega
        rw [e] at h; exact h))
      have MPs := Lib.hid (fun (W : World) (h : OwnPs W d aq qs Fq) (hl : ∀ b ∈ Fq, b < W.heap.size) => (show Calls Tryz.prog 31 #[.slice aq qs.length cq, .int .i64 ((K : Int) + 1 + 3 * (items.length : Int))] W (fun e w' => e = .returned (.int .i64 ((K : Int) + 1 + 3 * (items.length : Int) + (cntP d qs qs.length : Int))) ∧ OwnPs w' d aq (markPs d (K + 1 + 3 * items.length) qs) Fq ∧ Touch Fq W w') from by
        have h := MP.out qs aq cq (K + 1 + 3 * items.length) Fq W h ndP hl lq hsq (by omega) (by omega)
        have e : ((K + 1 + 3 * items.length : Nat) : Int) = (K : Int) + 1 + 3 * (items.length : Int) := by omega
        rw [e] at h; exact h))
      have MTx : ∀ (l : List ByteArray) (a : Option Addr) (c o : Nat) (x : Int) (G : List Nat), l.length ≤ 1048576 → 1 ≤ o → o + l.length ≤ 9000000 → (o : Int) = x → ∀ (W : World), OwnTxs W a l G →
          Calls Tryz.prog 32 #[.slice a l.length c, .int .i64 x] W fun e w' => e = .returned (.int .i64 (x + (l.length : Int))) ∧ OwnTxs w' a (markS o l.length) G ∧ Touch G W w' := by
        intro l a c o x G g1 g2 g3 g4 W h
        subst g4
        exact markTxs l a c o G W h g1 g2 g3
      have MN := Lib.hid (MTx names an cn (K + 1 + 3 * items.length + cntP d qs qs.length) ((K : Int) + 1 + 3 * (items.length : Int) + (cntP d qs qs.length : Int)) Fn ln (by omega) (by omega) (by omega))
      have MC := Lib.hid (MTx cls ac cc (K + 1 + 3 * items.length + cntP d qs qs.length + names.length) ((K : Int) + 1 + 3 * (items.length : Int) + (cntP d qs qs.length : Int) + (names.length : Int)) Fc lc (by omega) (by omega) (by omega))
      have ML := Lib.hid (MTx levels al cl (K + 1 + 3 * items.length + cntP d qs qs.length + names.length + cls.length) ((K : Int) + 1 + 3 * (items.length : Int) + (cntP d qs qs.length : Int) + (names.length : Int) + (cls.length : Int)) Fl ll (by omega) (by omega) (by omega))
      have P1 := Lib.hid O1
      have P2 := Lib.hid O2
      have P3 := Lib.hid O3
      have P4 := Lib.hid O4
      have P5 := Lib.hid O5
      have CK := Lib.hid hCp
      have NDJ := Lib.hid ndj
      have LTJ := Lib.hid ltj
      have BJ := Lib.hid bj
      have SUB := Lib.hid hsub
      have D1 := Lib.hid d1
      have D2 := Lib.hid d2
      have D3 := Lib.hid d3
      have D4 := Lib.hid d4
      have D5 := Lib.hid d5
      have M1 := Lib.hid m1
      have M2 := Lib.hid m2
      have M3 := Lib.hid m3
      have M4 := Lib.hid m4
      have M5 := Lib.hid m5
      clear hv O1 O2 O3 O4 O5 hCp ndj ltj bj hsub d1 d2 d3 d4 d5 ndP hsq MTx m0 m1 m2 m3 m4 m5 m6 m7 ed hlF
      rw [hcP] at MPs MN MC ML hKb CNT STEP
      rw [hni] at MI MPs MN MC ML CK hKb CNT STEP M1
      rw [hnq] at MPs CK M2
      rw [hnn] at MN MC ML CK hKb CNT STEP M3
      rw [hnc] at MC ML CK hKb CNT STEP M4
      rw [hnl] at ML CK hKb CNT STEP M5
      have EQ := Lib.hid hnq
      clear hni hnq hnn hnc hnl hcP li lq ln lc ll hC
      have LB := Lib.hid (LT1.out b (List.mem_cons_self ..))
      have f0 : wr.frozen? ⟨b, j * 8, none⟩ = false := freeOf HC.out
      obtain ⟨v0, o0⟩ : ∃ v0, wr.cell? ⟨b, j * 8, none⟩ = some v0 := ⟨_, cellOf HC.out (Array.getElem?_eq_getElem (by omega))⟩
      obtain ⟨W1, hW1⟩ : ∃ W, wr.setCell ⟨b, j * 8, none⟩ (.int .i64 (K : Int)) = W := ⟨_, rfl⟩
      have X1 := Lib.hid (show W1.heap[b]? = some (.cells (C.setIfInBounds (j * 8) (.int .i64 (K : Int))) 31 (0, 0)) from hW1 ▸ Joins.block_setCell HC.out _)
      have Y1 := Lib.hid (show ∀ g, g ≠ b → W1.heap[g]? = wr.heap[g]? from fun g hg => hW1 ▸ Below.heap_setCell _ _ _ _ hg)
      have S1z := Lib.hid (show W1.heap.size = wr.heap.size from hW1 ▸ (by simp))
      have TW := Lib.hid (show Touch (b :: Fs.flatten) w W1 from hW1 ▸ TT.out.set (List.mem_cons_self ..) _)
      have EW := Lib.hid hW1
      have hbz : b < W1.heap.size := by have := LB.out; rw [S1z.out]; exact this
      have N1 := Lib.hid (show ∀ i, i ≠ 0 → (C.setIfInBounds (j * 8) (.int .i64 (K : Int)))[j * 8 + i]? = C[j * 8 + i]? from fun i hi => Array.getElem?_setIfInBounds_ne (by omega))
      have bnd0 : (K : Int) + 1 + 3 * (ni : Int) + (cP : Int) + (nn : Int) + (nc : Int) + (nl : Int) + 2 ≤ 8000000 := by omega
      have eC : ((K + 1 + (3 * ni + cP + nn + nc + nl) : Nat) : Int) = (K : Int) + 1 + 3 * (ni : Int) + (cP : Int) + (nn : Int) + (nc : Int) + (nl : Int) := by omega
      have eE : ((K + 2 + (3 * ni + cP + nn + nc + nl) : Nat) : Int) = (K : Int) + 1 + 3 * (ni : Int) + (cP : Int) + (nn : Int) + (nc : Int) + (nl : Int) + 1 := by omega
      rw [eC, eE] at STEP
      clear eC eE
      have q1 := cellOf HC.out M1.out
      have LW := Lib.hid (show ∀ g ∈ Fi ++ (Fq ++ (Fn ++ (Fc ++ Fl))), g < W1.heap.size from fun g hg => by rw [S1z.out]; exact LTJ.out g hg)
      have NE := Lib.hid (show ∀ g ∈ Fi ++ (Fq ++ (Fn ++ (Fc ++ Fl))), g ≠ b from fun g hg e => BJ.out (e ▸ hg))
      have L1 := LW
      have Q1 := Lib.hid (P1.out.kept (fun g hg => Y1.out g (NE.out g (by simp [hg]))))
      have Q2 := Lib.hid (P2.out.kept (fun g hg => Y1.out g (NE.out g (by simp [hg]))))
      have Q3 := Lib.hid (P3.out.kept (fun g hg => Y1.out g (NE.out g (by simp [hg]))))
      have Q4 := Lib.hid (P4.out.kept (fun g hg => Y1.out g (NE.out g (by simp [hg]))))
      have Q5 := Lib.hid (P5.out.kept (fun g hg => Y1.out g (NE.out g (by simp [hg]))))
      have Z1 := Lib.hid hbz
      clear hbz hW1
      go_wp2_with fail
      rw [EW.out]
      clear f0 o0 q1
      with_reducible refine (MI.out _ Q1.out).mono ?_
      rintro e w2 ⟨rfl, R1, T1⟩
      have U1 := Lib.hid T1
      have S1 := Lib.hid R1
      clear T1 R1
      have X2 := Lib.hid ((U1.out.block b Z1.out (fun h => BJ.out (by simp [h]))).trans X1.out)
      have Z2 := Lib.hid (Nat.lt_of_lt_of_le Z1.out U1.out.size)
      have L2 := Lib.hid (fun g hg => Nat.lt_of_lt_of_le (L1.out g hg) U1.out.size)
      have q := cellOf X2.out ((N1.out 2 (by omega)).trans M2.out)
      go_wp2_with fail
      with_reducible refine (MPs.out _ (Q2.out.kept (fun g hg => (U1.out.block g (L1.out g (by simp [hg])) (D2.out g hg).1))) (fun g hg => L2.out g (by simp [hg]))).mono ?_
      rintro e w3 ⟨rfl, R2, T2⟩
      have U2 := Lib.hid T2
      have S2 := Lib.hid R2
      clear T2 R2 q
      have X3 := Lib.hid ((U2.out.block b Z2.out (fun h => BJ.out (by simp [h]))).trans X2.out)
      have Z3 := Lib.hid (Nat.lt_of_lt_of_le Z2.out U2.out.size)
      have L3 := Lib.hid (fun g hg => Nat.lt_of_lt_of_le (L2.out g hg) U2.out.size)
      have q := cellOf X3.out ((N1.out 3 (by omega)).trans M3.out)
      go_wp2_with fail
      with_reducible refine (MN.out _ (Q3.out.kept (fun g hg => ((U2.out.block g (L2.out g (by simp [hg])) (D3.out g hg).2.1).trans (U1.out.block g (L1.out g (by simp [hg])) (D3.out g hg).1))))).mono ?_
      rintro e w4 ⟨rfl, R3, T3⟩
      have U3 := Lib.hid T3
      have S3 := Lib.hid R3
      clear T3 R3 q
      have X4 := Lib.hid ((U3.out.block b Z3.out (fun h => BJ.out (by simp [h]))).trans X3.out)
      have Z4 := Lib.hid (Nat.lt_of_lt_of_le Z3.out U3.out.size)
      have L4 := Lib.hid (fun g hg => Nat.lt_of_lt_of_le (L3.out g hg) U3.out.size)
      have q := cellOf X4.out ((N1.out 4 (by omega)).trans M4.out)
      go_wp2_with fail
      with_reducible refine (MC.out _ (Q4.out.kept (fun g hg => ((U3.out.block g (L3.out g (by simp [hg])) (D4.out g hg).2.2.1).trans ((U2.out.block g (L2.out g (by simp [hg])) (D4.out g hg).2.1).trans (U1.out.block g (L1.out g (by simp [hg])) (D4.out g hg).1)))))).mono ?_
      rintro e w5 ⟨rfl, R4, T4⟩
      have U4 := Lib.hid T4
      have S4 := Lib.hid R4
      clear T4 R4 q
      have X5 := Lib.hid ((U4.out.block b Z4.out (fun h => BJ.out (by simp [h]))).trans X4.out)
      have Z5 := Lib.hid (Nat.lt_of_lt_of_le Z4.out U4.out.size)
      have L5 := Lib.hid (fun g hg => Nat.lt_of_lt_of_le (L4.out g hg) U4.out.size)
      have q := cellOf X5.out ((N1.out 5 (by omega)).trans M5.out)
      go_wp2_with fail
      with_reducible refine (ML.out _ (Q5.out.kept (fun g hg => ((U4.out.block g (L4.out g (by simp [hg])) (D5.out g hg).2.2.2).trans ((U3.out.block g (L3.out g (by simp [hg])) (D5.out g hg).2.2.1).trans ((U2.out.block g (L2.out g (by simp [hg])) (D5.out g hg).2.1).trans (U1.out.block g (L1.out g (by simp [hg])) (D5.out g hg).1))))))).mono ?_
      rintro e w6 ⟨rfl, R5, T5⟩
      have U5 := Lib.hid T5
      have S5 := Lib.hid R5
      clear T5 R5 q
      have X6 := Lib.hid ((U5.out.block b Z5.out (fun h => BJ.out (by simp [h]))).trans X5.out)
      have DONE := Lib.hid (five_done NDJ.out LW.out U1.out U2.out U3.out U4.out U5.out S1.out S2.out S3.out S4.out S5.out)
      have OV := Lib.hid (by
        obtain ⟨r1, r2, r3, r4, r5, _⟩ := DONE.out
        have h := ownVec_mk (k := (K : Int)) (code := (K : Int) + 1 + 3 * (ni : Int) + (cP : Int) + (nn : Int) + (nc : Int) + (nl : Int)) (env := (K : Int) + 1 + 3 * (ni : Int) + (cP : Int) + (nn : Int) + (nc : Int) + (nl : Int) + 1) (ci := ci) (cp := cq) (cn := cn) (cc := cc) (cl := cl) (by rw [markI_len, markPs_len, EQ.out, markS_len, markS_len, markS_len]; exact CK.out) r1 r2 r3 r4 r5
        rw [markI_len, markPs_len, EQ.out, markS_len, markS_len, markS_len] at h
        exact h)
      have RN := Lib.hid (STEP.out w6 (.int .i64 (K : Int)) _ _ _ _ _ _ _ ⟨M1.out, M2.out, M3.out, M4.out, M5.out⟩ (by rw [EW.out]; exact DONE.out.2.2.2.2.2) OV.out)
      have TN := Lib.hid (((TW.out.trans (DONE.out.2.2.2.2.2.mono SUB.out)).set (i := j * 8 + 6) (List.mem_cons_self ..) (.int .i64 ((K : Int) + 1 + 3 * (ni : Int) + (cP : Int) + (nn : Int) + (nc : Int) + (nl : Int)))).set (i := j * 8 + 7) (List.mem_cons_self ..) (.int .i64 ((K : Int) + 1 + 3 * (ni : Int) + (cP : Int) + (nn : Int) + (nc : Int) + (nl : Int) + 1)))
      have g6 : w6.frozen? ⟨b, j * 8 + 6, none⟩ = false := freeOf X6.out
      have g7 : w6.frozen? ⟨b, j * 8 + 7, none⟩ = false := freeOf X6.out
      obtain ⟨v6, o6⟩ : ∃ v, w6.cell? ⟨b, j * 8 + 6, none⟩ = some v := ⟨_, cellOf X6.out (Array.getElem?_eq_getElem (by simp; omega))⟩
      obtain ⟨v7, o7⟩ : ∃ v, w6.cell? ⟨b, j * 8 + 7, none⟩ = some v := ⟨_, cellOf X6.out (Array.getElem?_eq_getElem (by simp; omega))⟩
      have bnd1 : (0 : Int) ≤ (K : Int) + 1 + 3 * (ni : Int) + (cP : Int) + (nn : Int) + (nc : Int) + (nl : Int) := by omega
      go_wp2
      go_roundw
      case rel => exact ⟨j + 1, by omega, by go_num, int_eqK (by have := CNT.out; have := EK.out; omega), RN.out, TN.out⟩
      case measure => simp [intOf]; omega
    · obtain rfl : j = np := by omega
      have R := Lib.hid hr
      have TT := Lib.hid ht
      clear hr ht
      go_wp2
      go_ret
      exact ⟨rfl, OWN.out _ R.out, TT.out⟩
theorem mpZero : MPOk 0 := by
  refine ⟨fun parts ap cp k Fp w h nd lt lp hsp h1 hk => ?_⟩
  rcases h with ⟨rfl, rfl⟩ | ⟨b, C0, Fs, rfl, hl, rfl, hb, hc, hp⟩
  · refine (mkNone ap cp k w).mono ?_
    rintro e w' ⟨rfl, rfl⟩
    exact ⟨by simp [cntP, sumN], .inl ⟨rfl, rfl⟩, Touch.refl _ _⟩
  · rcases Nat.eq_zero_or_pos parts.length with e | e
    · obtain rfl : parts = [] := List.length_eq_zero_iff.1 e
      refine (mkNone _ cp k w).mono ?_
      rintro e w' ⟨rfl, rfl⟩
      exact ⟨by simp [cntP, sumN], .inr ⟨b, C0, Fs, rfl, hl, rfl, hb, hc, fun i hi => absurd hi (Nat.not_lt_zero _)⟩, Touch.refl _ _⟩
    · obtain ⟨val, hv, _⟩ := hp 0 e
      exact hv.elim
theorem mpAll : ∀ d, MPOk d
  | 0 => mpZero
  | d + 1 => mpStep d (mpAll d)
theorem markVec (d : Nat) (v : Vec) (y : Value) (k : Nat) (F : List Nat) (w : World) (hv : OwnVec w d v y F) (nd : F.Nodup) (lt : ∀ b ∈ F, b < w.heap.size) (hsm : Small d v) (h1 : 1 ≤ k) (hk : k + cntM d v ≤ 8000000) :
    Calls Tryz.prog 9 #[y, .int .i64 k] w fun e w' => e = .returned (.int .i64 ((k + cntM d v : Nat) : Int)) ∧ OwnVec w' d (markV d k v) y F ∧ Touch F w w' := by
  cases d with
  | zero => exact hv.elim
  | succ d => exact markVec_of d (mpAll d) v y k F w hv nd lt hsm h1 hk
end Go.Proofs.YtikgcogiiohahaaGreatDoor

/- The laws' own marks in whole vectors: read again. -/
namespace Go.Proofs.YtikgcogiiohahaaGreatDoor
set_option maxRecDepth 100000
open Go.RowKit
set_option linter.unusedVariables false

/-- The contract of heldVectorS at depth d. -/
structure HPOk (d : Nat) : Prop where
  out : ∀ (parts : List Vec) (ap : Option Addr) (cp k lo hi : Nat) (w : World), VecsAt lo hi w d ap (markPs d k parts) → hi ≤ w.heap.size → parts.length ≤ 1048576 → (∀ i, i < parts.length → Small d (parts.getD i noV)) → 1 ≤ k → k + cntP d parts parts.length ≤ 8000000 →
    Calls Tryz.prog 34 #[.slice ap parts.length cp, .int .i64 k] w fun e w' => e = .returned (.int .i64 ((k : Int) + (cntP d parts parts.length : Int))) ∧ Below w.heap.size w w'
set_option maxHeartbeats 1000000 in
theorem hdNone (ap : Option Addr) (cp k : Nat) (w : World) :
    Calls Tryz.prog 34 #[.slice ap 0 cp, .int .i64 k] w fun e w' => e = .returned (.int .i64 k) ∧ w = w' := by
  go_enter Tryz.func34, Tryz.ntmps34
  go_wp2
  go_loopw [1, 5] (fun kv iv wr => kv = .int .i64 k ∧ iv = .int .i64 0 ∧ wr = w) (fun _ _ _ => 0)
  case atStart => exact ⟨rfl, rfl, rfl⟩
  case round =>
    obtain ⟨rfl, rfl, rfl⟩ := hrel
    go_wp2
    go_ret
    exact ⟨rfl, rfl⟩
theorem hpZero : HPOk 0 := by
  refine ⟨fun parts ap cp k lo hi w h hhi lp hsp h1 hk => ?_⟩
  rcases Nat.eq_zero_or_pos parts.length with e | e
  · obtain rfl : parts = [] := List.length_eq_zero_iff.1 e
    refine (hdNone ap cp k w).mono ?_
    rintro e w' ⟨rfl, rfl⟩
    exact ⟨by simp [cntP, sumN], Below.refl _ _⟩
  · obtain ⟨b, off, c0, c1, c2, c3, c4, c5, c6, c7, _, _, hv, _⟩ := h.at_ (k := 0) (by rw [markPs_len]; exact e)
    exact hv.elim
set_option maxHeartbeats 4000000 in
theorem heldVec_of (d : Nat) (HP : HPOk d) (v : Vec) (y : Value) (k lo hi : Nat) (w : World) (hv : VecAt lo hi w (d + 1) (markV (d + 1) k v) y) (hhi : hi ≤ w.heap.size) (hsm : Small (d + 1) v) (h1 : 1 ≤ k) (hk : k + cntM (d + 1) v ≤ 8000000) :
    Calls Tryz.prog 10 #[y, .int .i64 k] w fun e w' => e = .returned (.int .i64 ((k + cntM (d + 1) v : Nat) : Int)) ∧ Below w.heap.size w w' := by
  obtain ⟨kk, items, qs, names, cls, levels, code, env⟩ := v
  rw [markV_eq] at hv
  obtain ⟨d', ai, ci, aq, cq, an, cn, ac, cc, al, cl, ed, rfl, hI, hN, hC, hL, hP⟩ := vecAt_open hv
  obtain rfl : d = d' := by omega
  have hsq : ∀ i, i < qs.length → Small d (qs.getD i noV) := fun i hi => Small.part hsm hi
  obtain ⟨li, lq, ln, lc, ll, _⟩ := hsm
  rw [cntM_eq] at hk ⊢
  rw [markI_len, markPs_len, markS_len, markS_len, markS_len]
  have HIt := Lib.hid (fun (W : World) (hb : Below w.heap.size w W) => (show Calls Tryz.prog 33 #[.slice ai items.length ci, .int .i64 ((k : Int))] W (fun e w' => e = .returned (.int .i64 ((k : Int) + 3 * (items.length : Int))) ∧ Below W.heap.size W w') from by
    have h := heldIts items.length ai ci (k) lo hi W (hI.below hb hhi) (Nat.le_trans hhi hb.size) li (by omega) (by omega)
    have e : ((k : Nat) : Int) = (k : Int) := by omega
    rw [e] at h; exact h))
  have HPs := Lib.hid (fun (W : World) (hb : Below w.heap.size w W) => (show Calls Tryz.prog 34 #[.slice aq qs.length cq, .int .i64 ((k : Int) + 3 * (items.length : Int))] W (fun e w' => e = .returned (.int .i64 ((k : Int) + 3 * (items.length : Int) + (cntP d qs qs.length : Int))) ∧ Below W.heap.size W w') from by
    have h := HP.out qs aq cq (k + 3 * items.length) lo hi W (hP.below hb hhi) (Nat.le_trans hhi hb.size) lq hsq (by omega) (by omega)
    have e : ((k + 3 * items.length : Nat) : Int) = (k : Int) + 3 * (items.length : Int) := by omega
    rw [e] at h; exact h))
  have HTx : ∀ (n : Nat) (a : Option Addr) (c o : Nat) (x : Int), n ≤ 1048576 → 1 ≤ o → o + n ≤ 9000000 → (o : Int) = x → TextsAt lo hi w a (markS o n) → ∀ (W : World), Below w.heap.size w W →
      Calls Tryz.prog 35 #[.slice a n c, .int .i64 x] W fun e w' => e = .returned (.int .i64 (x + (n : Int))) ∧ Below W.heap.size W w' := by
    intro n a c o x g1 g2 g3 g4 g5 W hb
    subst g4
    exact heldTxs n a c o lo hi W (g5.below hb hhi) (Nat.le_trans hhi hb.size) g1 g2 g3
  have HN := Lib.hid (HTx names.length an cn (k + 3 * items.length + cntP d qs qs.length) ((k : Int) + 3 * (items.length : Int) + (cntP d qs qs.length : Int)) ln (by omega) (by omega) (by omega) hN)
  have HC := Lib.hid (HTx cls.length ac cc (k + 3 * items.length + cntP d qs qs.length + names.length) ((k : Int) + 3 * (items.length : Int) + (cntP d qs qs.length : Int) + (names.length : Int)) lc (by omega) (by omega) (by omega) hC)
  have HL := Lib.hid (HTx levels.length al cl (k + 3 * items.length + cntP d qs qs.length + names.length + cls.length) ((k : Int) + 3 * (items.length : Int) + (cntP d qs qs.length : Int) + (names.length : Int) + (cls.length : Int)) ll (by omega) (by omega) (by omega) hL)
  obtain ⟨ni, hni⟩ : ∃ x, items.length = x := ⟨_, rfl⟩
  obtain ⟨nq, hnq⟩ : ∃ x, qs.length = x := ⟨_, rfl⟩
  obtain ⟨nn, hnn⟩ : ∃ x, names.length = x := ⟨_, rfl⟩
  obtain ⟨nc, hnc⟩ : ∃ x, cls.length = x := ⟨_, rfl⟩
  obtain ⟨nl, hnl⟩ : ∃ x, levels.length = x := ⟨_, rfl⟩
  obtain ⟨cP, hcP⟩ : ∃ x, cntP d qs qs.length = x := ⟨_, rfl⟩
  rw [hcP] at HPs HN HC HL hk ⊢
  rw [hni] at HIt HPs HN HC HL hk ⊢
  rw [hnq] at HPs ⊢
  rw [hnn] at HN HC HL hk ⊢
  rw [hnc] at HC HL hk ⊢
  rw [hnl] at HL hk ⊢
  clear hv hI hN hC hL hP hsq HTx HP hni hnq hnn hnc hnl hcP li lq ln lc ll ed
  go_enter Tryz.func10, Tryz.ntmps10
  go_wp2_with fail
  have B0 := Lib.hid (below1 w (.cells #[.int .i64 kk, .slice ai ni ci, .slice aq nq cq, .slice an nn cn, .slice ac nc cc, .slice al nl cl, .int .i64 code, .int .i64 env] 31))
  have K0 := Lib.hid (blk_new w (.cells #[.int .i64 kk, .slice ai ni ci, .slice aq nq cq, .slice an nn cn, .slice ac nc cc, .slice al nl cl, .int .i64 code, .int .i64 env] 31) rfl)
  with_reducible refine (HIt.out _ B0.out).mono ?_
  rintro e w1 ⟨rfl, b⟩
  have B1 := Lib.hid (below_then B0.out b)
  have K1 := Lib.hid (blk_below b K0.out)
  clear b
  obtain ⟨k0, k1, k2, k3, k4, k5, k6, k7⟩ := vec8 K1.out
  go_wp2_with fail
  with_reducible refine (HPs.out _ B1.out).mono ?_
  rintro e w2 ⟨rfl, b⟩
  have B2 := Lib.hid (below_then B1.out b)
  have K2 := Lib.hid (blk_below b K1.out)
  clear b k0 k1 k2 k3 k4 k5 k6 k7
  obtain ⟨k0, k1, k2, k3, k4, k5, k6, k7⟩ := vec8 K2.out
  go_wp2_with fail
  with_reducible refine (HN.out _ B2.out).mono ?_
  rintro e w3 ⟨rfl, b⟩
  have B3 := Lib.hid (below_then B2.out b)
  have K3 := Lib.hid (blk_below b K2.out)
  clear b k0 k1 k2 k3 k4 k5 k6 k7
  obtain ⟨k0, k1, k2, k3, k4, k5, k6, k7⟩ := vec8 K3.out
  go_wp2_with fail
  with_reducible refine (HC.out _ B3.out).mono ?_
  rintro e w4 ⟨rfl, b⟩
  have B4 := Lib.hid (below_then B3.out b)
  have K4 := Lib.hid (blk_below b K3.out)
  clear b k0 k1 k2 k3 k4 k5 k6 k7
  obtain ⟨k0, k1, k2, k3, k4, k5, k6, k7⟩ := vec8 K4.out
  go_wp2_with fail
  with_reducible refine (HL.out _ B4.out).mono ?_
  rintro e w5 ⟨rfl, b⟩
  have B5 := Lib.hid (below_then B4.out b)
  have K5 := Lib.hid (blk_below b K4.out)
  clear b k0 k1 k2 k3 k4 k5 k6 k7
  have p0 : (0 : Int) ≤ (k : Int) + 3 * (ni : Int) := by omega
  go_wp2
  go_ret
  exact ⟨ret_i64S (by omega), B5.out⟩
set_option maxHeartbeats 8000000 in
theorem hpStep (d : Nat) (HP : HPOk d) : HPOk (d + 1) := by
  refine ⟨fun parts ap cp k lo hi w hs hhi lp hsp h1 hk => ?_⟩
  have A := Lib.hid (fun (j : Nat) (w1 : World) (hj : j < parts.length) (hb : Below w.heap.size w w1) => (by
    have h := (hs.below hb hhi).at_ (k := j) (by rw [markPs_len]; exact hj)
    rw [markPs_at hj] at h
    exact h : ∃ b off c0 c1 c2 c3 c4 c5 c6 c7, ap = some ⟨b, off, none⟩ ∧ b < hi ∧ VecAt lo hi w1 (d + 1) (markP (d + 1) k parts j) (.agg #[c0, c1, c2, c3, c4, c5, c6, c7]) ∧
      w1.cell? ⟨b, off + j * 8, none⟩ = some c0 ∧ w1.cell? ⟨b, off + j * 8 + 1, none⟩ = some c1 ∧ w1.cell? ⟨b, off + j * 8 + 2, none⟩ = some c2 ∧ w1.cell? ⟨b, off + j * 8 + 3, none⟩ = some c3 ∧ w1.cell? ⟨b, off + j * 8 + 4, none⟩ = some c4 ∧ w1.cell? ⟨b, off + j * 8 + 5, none⟩ = some c5 ∧ w1.cell? ⟨b, off + j * 8 + 6, none⟩ = some c6 ∧ w1.cell? ⟨b, off + j * 8 + 7, none⟩ = some c7))
  have HS := Lib.hid hsp
  have HK := Lib.hid (fun (j : Nat) (hj : j < parts.length) => (by have := cntP_at (d := d + 1) (parts := parts) hj; omega : k + cntP (d + 1) parts j + (cntM (d + 1) (parts.getD j noV) + 3) ≤ 8000000))
  clear hs hsp
  obtain ⟨np, hnp⟩ : ∃ x, parts.length = x := ⟨_, rfl⟩
  rw [hnp] at A HS HK lp hk ⊢
  clear hnp
  go_enter Tryz.func34, Tryz.ntmps34
  go_wp2
  go_loopw [1, 5] (fun kv iv wr => ∃ j : Nat, j ≤ np ∧ iv = .int .i64 j ∧ kv = .int .i64 ((k : Int) + (cntP (d + 1) parts j : Int)) ∧ Below w.heap.size w wr) (fun _ iv _ => np - (intOf iv).toNat)
  case atStart => exact ⟨0, Nat.zero_le _, rfl, int_eqK (by simp [cntP, sumN]), Below.refl _ _⟩
  case round =>
    obtain ⟨j, hj, rfl, rfl, hb⟩ := hrel
    by_cases hlt : j < np
    · have hKb := HK.out j hlt
      have hsm := HS.out j hlt
      obtain ⟨b, off, c0, c1, c2, c3, c4, c5, c6, c7, rfl, hbB, hv, m0, m1, m2, m3, m4, m5, m6, m7⟩ := A.out j wr hlt hb
      have CNT := Lib.hid (cntP_succ (d := d + 1) (parts := parts) (j := j))
      obtain ⟨V, hV⟩ : ∃ V, parts.getD j noV = V := ⟨_, rfl⟩
      have hP0 : markP (d + 1) k parts j = setP (k + cntP (d + 1) parts j) (cntM (d + 1) V) (markV (d + 1) (k + cntP (d + 1) parts j + 1) V) := by unfold markP; rw [hV]
      rw [hP0] at hv
      rw [hV] at hsm hKb CNT
      clear hP0 hV
      obtain ⟨kk, items, qs, names, cls, levels, code, env⟩ := V
      rw [markV_eq, setP_mk] at hv
      rw [cntM_eq] at hKb CNT hv
      obtain ⟨d', ai, ci, aq, cq, an, cn, ac, cc, al, cl, ed, heq, hI, hN, hC, hL, hP⟩ := vecAt_open hv
      obtain rfl : d = d' := by omega
      simp only [Value.agg.injEq, Array.mk.injEq, List.cons.injEq, and_true] at heq
      obtain ⟨rfl, rfl, rfl, rfl, rfl, rfl, rfl, rfl⟩ := heq
      rw [markI_len] at m1
      rw [markPs_len] at m2
      rw [markS_len] at m3 m4 m5
      have hsq : ∀ i, i < qs.length → Small d (qs.getD i noV) := fun i hi => Small.part hsm hi
      obtain ⟨li, lq, ln, lc, ll, _⟩ := hsm
      obtain ⟨K, hK⟩ : ∃ K, k + cntP (d + 1) parts j = K := ⟨_, rfl⟩
      have hKi : (k : Int) + (cntP (d + 1) parts j : Int) = (K : Int) := by omega
      rw [hKi]
      rw [hK] at hKb m0 m6 m7 hI hN hC hL hP
      have EK := Lib.hid hK
      clear hK hKi
      obtain ⟨w0, hw0⟩ : ∃ w0, w0 = w := ⟨_, rfl⟩
      have hh0 := hhi
      have hhr : hi ≤ wr.heap.size := Nat.le_trans hhi hb.size
      have BB := Lib.hid hb
      clear hb hw0
      have HIt := Lib.hid (fun (W : World) (hb : Below wr.heap.size wr W) => (show Calls Tryz.prog 33 #[.slice ai items.length ci, .int .i64 ((K : Int) + 1)] W (fun e w' => e = .returned (.int .i64 ((K : Int) + 1 + 3 * (items.length : Int))) ∧ Below W.heap.size W w') from by
        have h := heldIts items.length ai ci (K + 1) lo hi W (hI.below hb hhr) (Nat.le_trans hhr hb.size) li (by omega) (by omega)
        have e : ((K + 1 : Nat) : Int) = (K : Int) + 1 := by omega
        rw [e] at h; exact h))
      have HPs := Lib.hid (fun (W : World) (hb : Below wr.heap.size wr W) => (show Calls Tryz.prog 34 #[.slice aq qs.length cq, .int .i64 ((K : Int) + 1 + 3 * (items.length : Int))] W (fun e w' => e = .returned (.int .i64 ((K : Int) + 1 + 3 * (items.length : Int) + (cntP d qs qs.length : Int))) ∧ Below W.heap.size W w') from by
        have h := HP.out qs aq cq (K + 1 + 3 * items.length) lo hi W (hP.below hb hhr) (Nat.le_trans hhr hb.size) lq hsq (by omega) (by omega)
        have e : ((K + 1 + 3 * items.length : Nat) : Int) = (K : Int) + 1 + 3 * (items.length : Int) := by omega
        rw [e] at h; exact h))
      have HTx : ∀ (n : Nat) (a : Option Addr) (c o : Nat) (x : Int), n ≤ 1048576 → 1 ≤ o → o + n ≤ 9000000 → (o : Int) = x → TextsAt lo hi wr a (markS o n) → ∀ (W : World), Below wr.heap.size wr W →
          Calls Tryz.prog 35 #[.slice a n c, .int .i64 x] W fun e w' => e = .returned (.int .i64 (x + (n : Int))) ∧ Below W.heap.size W w' := by
        intro n a c o x g1 g2 g3 g4 g5 W hb
        subst g4
        exact heldTxs n a c o lo hi W (g5.below hb hhr) (Nat.le_trans hhr hb.size) g1 g2 g3
      have HN := Lib.hid (HTx names.length an cn (K + 1 + 3 * items.length + cntP d qs qs.length) ((K : Int) + 1 + 3 * (items.length : Int) + (cntP d qs qs.length : Int)) ln (by omega) (by omega) (by omega) hN)
      have HC := Lib.hid (HTx cls.length ac cc (K + 1 + 3 * items.length + cntP d qs qs.length + names.length) ((K : Int) + 1 + 3 * (items.length : Int) + (cntP d qs qs.length : Int) + (names.length : Int)) lc (by omega) (by omega) (by omega) hC)
      have HL := Lib.hid (HTx levels.length al cl (K + 1 + 3 * items.length + cntP d qs qs.length + names.length + cls.length) ((K : Int) + 1 + 3 * (items.length : Int) + (cntP d qs qs.length : Int) + (names.length : Int) + (cls.length : Int)) ll (by omega) (by omega) (by omega) hL)
      obtain ⟨ni, hni⟩ : ∃ x, items.length = x := ⟨_, rfl⟩
      obtain ⟨nq, hnq⟩ : ∃ x, qs.length = x := ⟨_, rfl⟩
      obtain ⟨nn, hnn⟩ : ∃ x, names.length = x := ⟨_, rfl⟩
      obtain ⟨nc, hnc⟩ : ∃ x, cls.length = x := ⟨_, rfl⟩
      obtain ⟨nl, hnl⟩ : ∃ x, levels.length = x := ⟨_, rfl⟩
      obtain ⟨cP, hcP⟩ : ∃ x, cntP d qs qs.length = x := ⟨_, rfl⟩
      rw [hcP] at HPs HN HC HL hKb CNT m6 m7
      rw [hni] at HIt HPs HN HC HL hKb CNT m1 m6 m7
      rw [hnq] at HPs m2
      rw [hnn] at HN HC HL hKb CNT m3 m6 m7
      rw [hnc] at HC HL hKb CNT m4 m6 m7
      rw [hnl] at HL hKb CNT m5 m6 m7
      have eC : ((K + 1 + (3 * ni + cP + nn + nc + nl) : Nat) : Int) = (K : Int) + 1 + 3 * (ni : Int) + (cP : Int) + (nn : Int) + (nc : Int) + (nl : Int) := by omega
      have eE : ((K + 2 + (3 * ni + cP + nn + nc + nl) : Nat) : Int) = (K : Int) + 1 + 3 * (ni : Int) + (cP : Int) + (nn : Int) + (nc : Int) + (nl : Int) + 1 := by omega
      rw [eC] at m6
      rw [eE] at m7
      clear hv hI hN hC hL hP hsq HTx hni hnq hnn hnc hnl hcP li lq ln lc ll ed eC eE hh0
      obtain ⟨x1, h1x⟩ : ∃ x : Int, (K : Int) + 1 + 3 * (ni : Int) = x := ⟨_, rfl⟩
      rw [h1x] at HIt HPs HN HC HL m6 m7
      obtain ⟨x2, h2x⟩ : ∃ x : Int, x1 + (cP : Int) = x := ⟨_, rfl⟩
      rw [h2x] at HPs HN HC HL m6 m7
      obtain ⟨x3, h3x⟩ : ∃ x : Int, x2 + (nn : Int) = x := ⟨_, rfl⟩
      rw [h3x] at HN HC HL m6 m7
      obtain ⟨x4, h4x⟩ : ∃ x : Int, x3 + (nc : Int) = x := ⟨_, rfl⟩
      rw [h4x] at HC HL m6 m7
      obtain ⟨x5, h5x⟩ : ∃ x : Int, x4 + (nl : Int) = x := ⟨_, rfl⟩
      rw [h5x] at HL m6 m7
      have g1 : 0 ≤ x1 := by omega
      have g2 : 0 ≤ x2 := by omega
      have g3 : 0 ≤ x3 := by omega
      have g4 : 0 ≤ x4 := by omega
      have g5 : 0 ≤ x5 := by omega
      have P1 := Lib.hid (show x5 + 2 ≤ 8000000 by omega)
      have EX := Lib.hid (show x5 = (K : Int) + 1 + 3 * (ni : Int) + (cP : Int) + (nn : Int) + (nc : Int) + (nl : Int) by omega)
      clear h1x h2x h3x h4x h5x
      have M := Lib.hid (fun (W : World) (h : Below wr.heap.size wr W) => (⟨bcl h m0, bcl h m1, bcl h m2, bcl h m3, bcl h m4, bcl h m5, bcl h m6, bcl h m7⟩ : W.cell? ⟨b, off + j * 8, none⟩ = some (.int .i64 (K : Int)) ∧ W.cell? ⟨b, off + j * 8 + 1, none⟩ = some (.slice ai ni ci) ∧ W.cell? ⟨b, off + j * 8 + 2, none⟩ = some (.slice aq nq cq) ∧ W.cell? ⟨b, off + j * 8 + 3, none⟩ = some (.slice an nn cn) ∧ W.cell? ⟨b, off + j * 8 + 4, none⟩ = some (.slice ac nc cc) ∧ W.cell? ⟨b, off + j * 8 + 5, none⟩ = some (.slice al nl cl) ∧ W.cell? ⟨b, off + j * 8 + 6, none⟩ = some (.int .i64 x5) ∧ W.cell? ⟨b, off + j * 8 + 7, none⟩ = some (.int .i64 (x5 + 1))))
      have hlt' : (j : Int) < (np : Int) := by omega
      have B0 := Lib.hid (Below.refl wr.heap.size wr)
      go_wp2_with fail
      with_reducible refine (HIt.out _ B0.out).mono ?_
      rintro e w1 ⟨rfl, b1⟩
      have B1 := Lib.hid (below_then B0.out b1)
      clear b1 m0 m1 m2 m3 m4 m5 m6 m7
      obtain ⟨m0, m1, m2, m3, m4, m5, m6, m7⟩ := M.out _ B1.out
      go_wp2_with fail
      with_reducible refine (HPs.out _ B1.out).mono ?_
      rintro e w2 ⟨rfl, b2⟩
      have B2 := Lib.hid (below_then B1.out b2)
      clear b2 m0 m1 m2 m3 m4 m5 m6 m7
      obtain ⟨m0, m1, m2, m3, m4, m5, m6, m7⟩ := M.out _ B2.out
      go_wp2_with fail
      with_reducible refine (HN.out _ B2.out).mono ?_
      rintro e w3 ⟨rfl, b3⟩
      have B3 := Lib.hid (below_then B2.out b3)
      clear b3 m0 m1 m2 m3 m4 m5 m6 m7
      obtain ⟨m0, m1, m2, m3, m4, m5, m6, m7⟩ := M.out _ B3.out
      go_wp2_with fail
      with_reducible refine (HC.out _ B3.out).mono ?_
      rintro e w4 ⟨rfl, b4⟩
      have B4 := Lib.hid (below_then B3.out b4)
      clear b4 m0 m1 m2 m3 m4 m5 m6 m7
      obtain ⟨m0, m1, m2, m3, m4, m5, m6, m7⟩ := M.out _ B4.out
      go_wp2_with fail
      with_reducible refine (HL.out _ B4.out).mono ?_
      rintro e w5 ⟨rfl, b5⟩
      have B5 := Lib.hid (below_then B4.out b5)
      clear b5 m0 m1 m2 m3 m4 m5 m6 m7
      obtain ⟨m0, m1, m2, m3, m4, m5, m6, m7⟩ := M.out _ B5.out
      have BN := Lib.hid (below_then BB.out B5.out)
      have p1 := P1.out
      go_wp2
      go_roundw
      case rel => exact ⟨j + 1, by omega, by go_num, int_eqK (by have := CNT.out; have := EK.out; have := EX.out; omega), BN.out⟩
      case measure => simp [intOf]; omega
    · obtain rfl : j = np := by omega
      have BB := Lib.hid hb
      clear hb
      go_wp2
      go_ret
      exact ⟨rfl, BB.out⟩
theorem hpAll : ∀ d, HPOk d
  | 0 => hpZero
  | d + 1 => hpStep d (hpAll d)
theorem heldVec (d : Nat) (v : Vec) (y : Value) (k lo hi : Nat) (w : World) (hv : VecAt lo hi w d (markV d k v) y) (hhi : hi ≤ w.heap.size) (hsm : Small d v) (h1 : 1 ≤ k) (hk : k + cntM d v ≤ 8000000) :
    Calls Tryz.prog 10 #[y, .int .i64 k] w fun e w' => e = .returned (.int .i64 ((k + cntM d v : Nat) : Int)) ∧ Below w.heap.size w w' := by
  cases d with
  | zero => exact hsm.elim
  | succ d => exact heldVec_of d (hpAll d) v y k lo hi w hv hhi hsm h1 hk
end Go.Proofs.YtikgcogiiohahaaGreatDoor

/- The laws' own comparison of two vectors: two copies of one vector are equal. -/
namespace Go.Proofs.YtikgcogiiohahaaGreatDoor
open Go.RowKit
set_option maxRecDepth 100000
set_option linter.unusedVariables false

structure EqOk (d : Nat) : Prop where
  out : ∀ (v : Vec) (x y : Value) (lo hi lo' hi' : Nat) (w : World), VecAt lo hi w d v x → hi ≤ w.heap.size → VecAt lo' hi' w d v y → hi' ≤ w.heap.size → Fits d v →
    Calls Tryz.prog 8 #[x, y] w fun e w' => e = .returned (.bool true) ∧ Below w.heap.size w w'

set_option maxHeartbeats 2000000 in
theorem eqParts (d : Nat) (IH : EqOk d) (parts : List Vec) (a a' : Option Addr) (cap cap' : Nat) (lo hi lo' hi' : Nat) (w : World) (hs : VecsAt lo hi w d a parts) (hhi : hi ≤ w.heap.size) (hs' : VecsAt lo' hi' w d a' parts) (hhi' : hi' ≤ w.heap.size) (hf : ∀ i, i < parts.length → Fits d (parts.getD i noV)) (hn : parts.length ≤ 9223372036854775807) :
    Calls Tryz.prog 28 #[.slice a parts.length cap, .slice a' parts.length cap'] w fun e w' => e = .returned (.bool true) ∧ Below w.heap.size w w' := by
  have A := Lib.hid (fun (k : Nat) (w1 : World) (hk : k < parts.length) (hb : Below w.heap.size w w1) => (hs.below hb hhi).at_ hk)
  have A' := Lib.hid (fun (k : Nat) (w1 : World) (hk : k < parts.length) (hb : Below w.heap.size w w1) => (hs'.below hb hhi').at_ hk)
  have C := Lib.hid (fun (k : Nat) (w1 : World) (x y : Value) (hk : k < parts.length) (hb : Below w.heap.size w w1) (hv : VecAt lo hi w1 d (parts.getD k noV) x) (hv' : VecAt lo' hi' w1 d (parts.getD k noV) y) => IH.out _ x y lo hi lo' hi' w1 hv (Nat.le_trans hhi hb.size) hv' (Nat.le_trans hhi' hb.size) (hf k hk))
  clear hs hs' hf IH
  obtain ⟨n, hn'⟩ : ∃ n, parts.length = n := ⟨_, rfl⟩
  rw [hn'] at hn A A' C ⊢
  clear hn'
  go_enter Tryz.func28, Tryz.ntmps28
  go_wp2
  go_loopw [5] (fun i wr => ∃ k : Nat, k ≤ n ∧ i = .int .i64 k ∧ Below w.heap.size w wr) (fun i _ => n - (intOf i).toNat)
  case atStart => exact ⟨0, Nat.zero_le _, rfl, Below.refl _ _⟩
  case round =>
    obtain ⟨k, hk, rfl, hb⟩ := hrel
    have BB := Lib.hid hb
    clear hb
    by_cases hlt : k < n
    · obtain ⟨b, off, u0, u1, u2, u3, u4, u5, u6, u7, rfl, hbB, hv, c0, c1, c2, c3, c4, c5, c6, c7⟩ := A.out _ _ hlt BB.out
      obtain ⟨b', off', x0, x1, x2, x3, x4, x5, x6, x7, rfl, hbB', hv', d0, d1, d2, d3, d4, d5, d6, d7⟩ := A'.out _ _ hlt BB.out
      have HV := Lib.hid hv
      have HV' := Lib.hid hv'
      clear hv hv'
      have hlt' : (k : Int) < (n : Int) := by omega
      have HQ := Lib.hid (fun (w' : World) (hb : Below wr.heap.size wr w') => (⟨hb, bcl hb c0, bcl hb c1, bcl hb c2, bcl hb c3, bcl hb c4, bcl hb c5, bcl hb c6, bcl hb c7, bcl hb d0, bcl hb d1, bcl hb d2, bcl hb d3, bcl hb d4, bcl hb d5, bcl hb d6, bcl hb d7⟩ : (Below wr.heap.size wr w' ∧ w'.cell? ⟨b, off + k * 8, none⟩ = some u0 ∧ w'.cell? ⟨b, off + k * 8 + 1, none⟩ = some u1 ∧ w'.cell? ⟨b, off + k * 8 + 2, none⟩ = some u2 ∧ w'.cell? ⟨b, off + k * 8 + 3, none⟩ = some u3 ∧ w'.cell? ⟨b, off + k * 8 + 4, none⟩ = some u4 ∧ w'.cell? ⟨b, off + k * 8 + 5, none⟩ = some u5 ∧ w'.cell? ⟨b, off + k * 8 + 6, none⟩ = some u6 ∧ w'.cell? ⟨b, off + k * 8 + 7, none⟩ = some u7 ∧ w'.cell? ⟨b', off' + k * 8, none⟩ = some x0 ∧ w'.cell? ⟨b', off' + k * 8 + 1, none⟩ = some x1 ∧ w'.cell? ⟨b', off' + k * 8 + 2, none⟩ = some x2 ∧ w'.cell? ⟨b', off' + k * 8 + 3, none⟩ = some x3 ∧ w'.cell? ⟨b', off' + k * 8 + 4, none⟩ = some x4 ∧ w'.cell? ⟨b', off' + k * 8 + 5, none⟩ = some x5 ∧ w'.cell? ⟨b', off' + k * 8 + 6, none⟩ = some x6 ∧ w'.cell? ⟨b', off' + k * 8 + 7, none⟩ = some x7)))
      have CS := Lib.hid (fun (w' : World) (hb : Below wr.heap.size wr w') => C.out k w' _ _ hlt (below_then BB.out hb) (HV.out.kept (Kept.of_below hb (Nat.le_trans hhi BB.out.size))) (HV'.out.kept (Kept.of_below hb (Nat.le_trans hhi' BB.out.size))))
      clear c0 c1 c2 c3 c4 c5 c6 c7 d0 d1 d2 d3 d4 d5 d6 d7
      go_wp2
      go_region_held3 (fun w' => Below wr.heap.size wr w' ∧ w'.cell? ⟨b, off + k * 8, none⟩ = some u0 ∧ w'.cell? ⟨b, off + k * 8 + 1, none⟩ = some u1 ∧ w'.cell? ⟨b, off + k * 8 + 2, none⟩ = some u2 ∧ w'.cell? ⟨b, off + k * 8 + 3, none⟩ = some u3 ∧ w'.cell? ⟨b, off + k * 8 + 4, none⟩ = some u4 ∧ w'.cell? ⟨b, off + k * 8 + 5, none⟩ = some u5 ∧ w'.cell? ⟨b, off + k * 8 + 6, none⟩ = some u6 ∧ w'.cell? ⟨b, off + k * 8 + 7, none⟩ = some u7 ∧ w'.cell? ⟨b', off' + k * 8, none⟩ = some x0 ∧ w'.cell? ⟨b', off' + k * 8 + 1, none⟩ = some x1 ∧ w'.cell? ⟨b', off' + k * 8 + 2, none⟩ = some x2 ∧ w'.cell? ⟨b', off' + k * 8 + 3, none⟩ = some x3 ∧ w'.cell? ⟨b', off' + k * 8 + 4, none⟩ = some x4 ∧ w'.cell? ⟨b', off' + k * 8 + 5, none⟩ = some x5 ∧ w'.cell? ⟨b', off' + k * 8 + 6, none⟩ = some x6 ∧ w'.cell? ⟨b', off' + k * 8 + 7, none⟩ = some x7) (first | exact HQ.out _ (below_drew' (Below.refl _ _)) | exact HQ.out _ (below_then (And.left (by assumption)) (by assumption))) (first | (go_at_call 8; refine (CS.out _ (And.left (by assumption))).mono ?_; rintro e w1 ⟨rfl, b1⟩))
      have B1 := Lib.hid (below_then BB.out (And.left ‹Below wr.heap.size wr _ ∧ _›))
      go_wp2
      go_roundw
      case rel => exact ⟨k + 1, by omega, by go_num, B1.out⟩
      case measure => simp [intOf]; omega
    · obtain rfl : k = n := by omega
      go_wp2
      go_ret
      exact ⟨rfl, BB.out⟩

set_option maxHeartbeats 4000000 in
theorem eqStep (d : Nat) (IH : EqOk d) : EqOk (d + 1) := by
  refine ⟨fun v x y lo hi lo' hi' w hv hhi hv' hhi' hf => ?_⟩
  obtain ⟨kk, items, parts, names, cls, levels, code, env⟩ := v
  obtain ⟨d', ai, ci, ap, cp, an, cn, ac, cc, al, cl, ed, rfl, hI, hN, hC, hL, hP⟩ := vecAt_open hv
  obtain rfl : d = d' := by omega
  obtain ⟨d', ai', ci', ap', cp', an', cn', ac', cc', al', cl', ed', rfl, hI', hN', hC', hL', hP'⟩ := vecAt_open hv'
  obtain rfl : d = d' := by omega
  have hfp := fun {i : Nat} (hi : i < parts.length) => hf.part hi
  obtain ⟨_, _, _, li, lp, ln, lc, ll, bi, bn, bc, bl, _⟩ := hf
  unfold maxLen at li lp ln lc ll bi bn bc bl
  have CI := Lib.hid (fun (w1 : World) (hb : Below w.heap.size w w1) => eqItems items ai ai' ci ci' lo hi lo' hi' w1 (hI.below hb hhi) (Nat.le_trans hhi hb.size) (hI'.below hb hhi') (Nat.le_trans hhi' hb.size) (by omega))
  have CP := Lib.hid (fun (w1 : World) (hb : Below w.heap.size w w1) => eqParts d IH parts ap ap' cp cp' lo hi lo' hi' w1 (hP.below hb hhi) (Nat.le_trans hhi hb.size) (hP'.below hb hhi') (Nat.le_trans hhi' hb.size) (fun i hi => hfp hi) (by omega))
  have TS : ∀ (l : List ByteArray) (a a' : Option Addr) (cap cap' : Nat), TextsAt lo hi w a l → TextsAt lo' hi' w a' l → l.length ≤ 2 ^ 63 - 1 → ∀ (w1 : World), Below w.heap.size w w1 →
      Calls Tryz.prog 29 #[.slice a l.length cap, .slice a' l.length cap'] w1 fun e w' => e = .returned (.bool true) ∧ Below w1.heap.size w1 w' := by
    intro l a a' cap cap' ht ht' hlen w1 hb
    refine (eqStrs a a' l.length cap cap' (txtS l) (txtS l) (max hi hi') w1 ((ht.below hb hhi).strs.mono (Nat.le_max_left _ _)) ((ht'.below hb hhi').strs.mono (Nat.le_max_right _ _)) (by omega) (fun _ _ => rfl)).mono ?_
    rintro e w' ⟨rfl, m, rfl⟩
    exact ⟨rfl, below_drewN' (Below.refl _ _) m⟩
  have CN := Lib.hid (TS names an an' cn cn' hN hN' ln)
  have CC := Lib.hid (TS cls ac ac' cc cc' hC hC' lc)
  have CL := Lib.hid (TS levels al al' cl cl' hL hL' ll)
  clear hv hv' hI hN hC hL hP hI' hN' hC' hL' hP' hfp TS ed ed' li lp ln lc ll bi bn bc bl IH
  go_enter Tryz.func8, Tryz.ntmps8
  go_wp2_with fail
  refine (CI.out _ (below2 w _ _)).mono ?_
  rintro e w1 ⟨rfl, b1⟩
  have B1 := Lib.hid (below_then (below2 w _ _) b1)
  have KA1 := Lib.hid (blk_below b1 (blk_old (blk_new w _ rfl)))
  have KB1 := Lib.hid (blk_below b1 (blk_new _ _ (show w.heap.size + 1 = _ by simp)))
  clear b1
  obtain ⟨k0, k1, k2, k3, k4, k5, k6, k7⟩ := vec8 KA1.out
  obtain ⟨l0, l1, l2, l3, l4, l5, l6, l7⟩ := vec8 KB1.out
  go_wp2_with fail
  refine (CP.out _ B1.out).mono ?_
  rintro e w2 ⟨rfl, b1⟩
  have B2 := Lib.hid (below_then B1.out b1)
  have KA2 := Lib.hid (blk_below b1 KA1.out)
  have KB2 := Lib.hid (blk_below b1 KB1.out)
  clear b1 k0 k1 k2 k3 k4 k5 k6 k7 l0 l1 l2 l3 l4 l5 l6 l7
  obtain ⟨k0, k1, k2, k3, k4, k5, k6, k7⟩ := vec8 KA2.out
  obtain ⟨l0, l1, l2, l3, l4, l5, l6, l7⟩ := vec8 KB2.out
  go_wp2_with fail
  refine (CN.out _ B2.out).mono ?_
  rintro e w3 ⟨rfl, b1⟩
  have B3 := Lib.hid (below_then B2.out b1)
  have KA3 := Lib.hid (blk_below b1 KA2.out)
  have KB3 := Lib.hid (blk_below b1 KB2.out)
  clear b1 k0 k1 k2 k3 k4 k5 k6 k7 l0 l1 l2 l3 l4 l5 l6 l7
  obtain ⟨k0, k1, k2, k3, k4, k5, k6, k7⟩ := vec8 KA3.out
  obtain ⟨l0, l1, l2, l3, l4, l5, l6, l7⟩ := vec8 KB3.out
  go_wp2_with fail
  refine (CC.out _ B3.out).mono ?_
  rintro e w4 ⟨rfl, b1⟩
  have B4 := Lib.hid (below_then B3.out b1)
  have KA4 := Lib.hid (blk_below b1 KA3.out)
  have KB4 := Lib.hid (blk_below b1 KB3.out)
  clear b1 k0 k1 k2 k3 k4 k5 k6 k7 l0 l1 l2 l3 l4 l5 l6 l7
  obtain ⟨k0, k1, k2, k3, k4, k5, k6, k7⟩ := vec8 KA4.out
  obtain ⟨l0, l1, l2, l3, l4, l5, l6, l7⟩ := vec8 KB4.out
  go_wp2_with fail
  refine (CL.out _ B4.out).mono ?_
  rintro e w5 ⟨rfl, b1⟩
  have B5 := Lib.hid (below_then B4.out b1)
  have KA5 := Lib.hid (blk_below b1 KA4.out)
  have KB5 := Lib.hid (blk_below b1 KB4.out)
  clear b1 k0 k1 k2 k3 k4 k5 k6 k7 l0 l1 l2 l3 l4 l5 l6 l7
  obtain ⟨k0, k1, k2, k3, k4, k5, k6, k7⟩ := vec8 KA5.out
  obtain ⟨l0, l1, l2, l3, l4, l5, l6, l7⟩ := vec8 KB5.out
  go_wp2
  go_ret
  exact ⟨rfl, B5.out⟩
theorem eqZero : EqOk 0 := ⟨fun _ _ _ _ _ _ _ _ h => h.elim⟩
theorem eqAll : ∀ d, EqOk d
  | 0 => eqZero
  | d + 1 => eqStep d (eqAll d)
end Go.Proofs.YtikgcogiiohahaaGreatDoor

/- Vectors of the laws' own type in a region that draws its order; a new block filled with a vector. -/
namespace Go.Proofs.YtikgcogiiohahaaGreatDoor
set_option maxRecDepth 100000
open Go.RowKit
set_option linter.unusedVariables false

theorem infoLVec : (Tryz.prog.info? 26).map (·.size) = some 8 := by kernel_rfl
theorem load_lvec {w' : World} {b : Nat} {c0 c1 c2 c3 c4 c5 c6 c7 : Value} {t : TypeId} (h : w'.heap[b]? = some (.cells #[c0, c1, c2, c3, c4, c5, c6, c7] t (0, 0))) :
    (Instr.loadAt 26 (.pointer (some ⟨b, 0, none⟩))).run Tryz.prog w' = .ok (.agg #[c0, c1, c2, c3, c4, c5, c6, c7]) w' :=
  run_loadVar_row w' b t 26 #[c0, c1, c2, c3, c4, c5, c6, c7] (0, 0) _ h Tryz.underlying26 rfl infoLVec
section
variable {ops : Array Oper} {Q : Exit → Act → World → Prop} {w0 : World} {L : List (Nat × TypeId × Array Value)}
variable {r : List (Nat × Bool)} {a : Act} {e : List (Nat × Value)} {w : World} {i d : Nat} {g : Option (Nat × Bool)} {v : Value}
theorem runC_lvec {x : Operand} {tt : TypeId} {b : Nat} {c0 c1 c2 c3 c4 c5 c6 c7 : Value} (ho : opAt ops i = some (some d, .load 26 x, g)) (hd : Nat.blt d a.tmps.size = true) (hw : wantE ops a e g = some true)
    (hx : lookO a e x = .pointer (some ⟨b, 0, none⟩)) (m : (b, tt, #[c0, c1, c2, c3, c4, c5, c6, c7]) ∈ L) (h : RunE Tryz.prog ops Q (fun w' => HeldC w0 w' L) r a ((d, .agg #[c0, c1, c2, c3, c4, c5, c6, c7]) :: e) w) : RunE Tryz.prog ops Q (fun w' => HeldC w0 w' L) ((i, true) :: r) a e w :=
  run_load ho hd hw hx (fun w' hS => load_lvec (heldC_at hS m)) h
end
end Go.Proofs.YtikgcogiiohahaaGreatDoor

/- Results that are vectors, in blocks of a range of their own; what a mark leaves alone. -/
namespace Go.Proofs.YtikgcogiiohahaaGreatDoor
open Go.RowKit
set_option maxRecDepth 100000
set_option linter.unusedVariables false

/-- The value is the vector V; each of its slices lies in a block of its own from lo to hi. -/
structure Own (d : Nat) (V : Vec) (y : Value) (lo hi : Nat) (w : World) : Prop where
  out : ∃ F, OwnVec w d V y F ∧ F.Nodup ∧ ∀ b ∈ F, lo ≤ b ∧ b < hi
/-- Nothing but blocks from lo to hi has changed. -/
structure Within (lo hi : Nat) (w w' : World) : Prop where
  os : w'.os = w.os
  tape : w'.tape = w.tape
  output : w'.output = w.output
  size : w.heap.size ≤ w'.heap.size
  block : ∀ b, b < w.heap.size → (b < lo ∨ hi ≤ b) → w'.heap[b]? = w.heap[b]?
theorem Touch.within {F : List Nat} {lo hi : Nat} {w w' : World} (h : Touch F w w') (hF : ∀ b ∈ F, lo ≤ b ∧ b < hi) : Within lo hi w w' :=
  ⟨h.os, h.tape, h.output, h.size, fun b hb hr => h.block b hb (fun hm => by have := hF b hm; omega)⟩
theorem Within.below {lo hi B : Nat} {w w' : World} (h : Within lo hi w w') (hB : B ≤ lo) (hw : B ≤ w.heap.size) : Below B w w' :=
  ⟨h.os, h.tape, h.output, h.size, fun b hb => h.block b (by omega) (.inl (by omega))⟩
theorem Within.blk {lo hi b : Nat} {w w' : World} {o : Obj} (h : Within lo hi w w') (hr : b < lo ∨ hi ≤ b) (hb : w.heap[b]? = some o) : w'.heap[b]? = some o :=
  (h.block b (Array.getElem?_eq_some_iff.1 hb).1 hr).trans hb
theorem Own.below {d : Nat} {V : Vec} {y : Value} {lo hi : Nat} {w w' : World} (h : Own d V y lo hi w) (hb : Below w.heap.size w w') (hh : hi ≤ w.heap.size) : Own d V y lo hi w' := by
  obtain ⟨F, h1, h2, h3⟩ := h.out
  exact ⟨F, h1.kept _ _ _ _ (fun b hm => hb.block b (by have := h3 b hm; omega)), h2, h3⟩
theorem Own.within {d : Nat} {V : Vec} {y : Value} {lo hi lo' hi' : Nat} {w w' : World} (h : Own d V y lo hi w) (k : Within lo' hi' w w') (hr : hi ≤ lo' ∨ hi' ≤ lo) (hh : hi ≤ w.heap.size) : Own d V y lo hi w' := by
  obtain ⟨F, h1, h2, h3⟩ := h.out
  exact ⟨F, h1.kept _ _ _ _ (fun b hm => k.block b (by have := h3 b hm; omega) (by have := h3 b hm; omega)), h2, h3⟩
theorem Own.vat {d : Nat} {V : Vec} {y : Value} {lo hi : Nat} {w : World} (h : Own d V y lo hi w) {H : Nat} (hh : hi ≤ H) : VecAt 0 H w d V y := by
  obtain ⟨F, h1, _, h3⟩ := h.out
  exact h1.vecAt _ _ _ _ (fun b hm => by have := h3 b hm; omega)
theorem Own.wide {d : Nat} {V : Vec} {y : Value} {lo hi lo' hi' : Nat} {w : World} (h : Own d V y lo hi w) (h0 : lo' ≤ lo) (h1 : hi ≤ hi') : Own d V y lo' hi' w := by
  obtain ⟨F, a, b, c⟩ := h.out
  exact ⟨F, a, b, fun g hg => by have := c g hg; omega⟩
theorem Own.agg {d : Nat} {V : Vec} {y : Value} {lo hi : Nat} {w : World} (h : Own d V y lo hi w) : ∃ (k : Int) (a1 : Option Addr) (n1 m1 : Nat) (a2 : Option Addr) (n2 m2 : Nat) (a3 : Option Addr) (n3 m3 : Nat) (a4 : Option Addr) (n4 m4 : Nat) (a5 : Option Addr) (n5 m5 : Nat) (code env : Int), y = .agg #[.int .i64 k, .slice a1 n1 m1, .slice a2 n2 m2, .slice a3 n3 m3, .slice a4 n4 m4, .slice a5 n5 m5, .int .i64 code, .int .i64 env] := by
  obtain ⟨F, h1, _⟩ := h.out
  exact h1.agg
/-- A function's answer: a vector in new blocks. -/
def ResV (d : Nat) (V : Vec) (w : World) (e : Ending) (w' : World) : Prop := ∃ y, e = .returned y ∧ Own d V y w.heap.size w'.heap.size w' ∧ Below w.heap.size w w'
/-- A function's answer: a vector in new blocks, and a text. -/
def ResVS (d : Nat) (V : Vec) (s : ByteArray) (w : World) (e : Ending) (w' : World) : Prop := ∃ y, e = .returned (.tuple #[y, .string s]) ∧ Own d V y w.heap.size w'.heap.size w' ∧ Below w.heap.size w w'
/-- The mark of a vector of one's own. -/
theorem markOwn (d : Nat) (V : Vec) (y : Value) (lo hi : Nat) (w : World) (h : Own d V y lo hi w) (hh : hi ≤ w.heap.size) (hs : Small d V) (hc : 1 + cntM d V ≤ 8000000) :
    Calls Tryz.prog 9 #[y, .int .i64 1] w fun e w' => e = .returned (.int .i64 ((1 + cntM d V : Nat) : Int)) ∧ Own d (markV d 1 V) y lo hi w' ∧ Within lo hi w w' := by
  obtain ⟨F, h1, h2, h3⟩ := h.out
  refine (markVec d V y 1 F w h1 h2 (fun b hb => by have := h3 b hb; omega) hs (Nat.le_refl _) hc).mono ?_
  rintro e w' ⟨rfl, ho, t⟩
  exact ⟨rfl, ⟨F, ho, h2, h3⟩, t.within h3⟩
theorem heldOwn (d : Nat) (V : Vec) (y : Value) (lo hi : Nat) (w : World) (h : Own d (markV d 1 V) y lo hi w) (hh : hi ≤ w.heap.size) (hs : Small d V) (hc : 1 + cntM d V ≤ 8000000) :
    Calls Tryz.prog 10 #[y, .int .i64 1] w fun e w' => e = .returned (.int .i64 ((1 + cntM d V : Nat) : Int)) ∧ Below w.heap.size w w' :=
  heldVec d V y 1 0 w.heap.size w (h.vat hh) (Nat.le_refl _) hs (Nat.le_refl _) hc
end Go.Proofs.YtikgcogiiohahaaGreatDoor

/- Slices of ints in memory, and the laws' own helpers on them. -/
namespace Go.Proofs.YtikgcogiiohahaaGreatDoor
set_option maxRecDepth 100000
open Go.RowKit

/-- The slice at a holds the n ints f 0, f 1, .., in a block below B. -/
def IntsAt (B : Nat) (w : World) (a : Option Addr) (n : Nat) (f : Nat → Int) : Prop := ∀ i, i < n → ∃ b off, a = some ⟨b, off, none⟩ ∧ b < B ∧ w.cell? ⟨b, off + i, none⟩ = some (.int .i64 (f i))
theorem IntsAt.below {B : Nat} {w w1 : World} {a : Option Addr} {n : Nat} {f : Nat → Int} (h : IntsAt B w a n f) (hb : Below B w w1) : IntsAt B w1 a n f := by
  intro i hi
  obtain ⟨b, off, e, hlt, hc⟩ := h i hi
  exact ⟨b, off, e, hlt, by rw [hb.cell hlt]; exact hc⟩
theorem IntsAt.mono {B B' : Nat} {w : World} {a : Option Addr} {n : Nat} {f : Nat → Int} (h : IntsAt B w a n f) (hB : B ≤ B') : IntsAt B' w a n f := by
  intro i hi
  obtain ⟨b, off, e, hlt, hc⟩ := h i hi
  exact ⟨b, off, e, by omega, hc⟩
/-- Block b holds the cells C. -/
def RowI (w : World) (b : Nat) (C : Array Value) : Prop := w.heap[b]? = some (.cells C 3 (0, 0))
theorem RowI.cell {w : World} {b i : Nat} {C : Array Value} {v : Value} (h : RowI w b C) (hv : C[i]? = some v) : w.cell? ⟨b, i, none⟩ = some v := by
  unfold RowI at h; unfold World.cell?; simp only [h]; exact hv
theorem RowI.free {w : World} {b i : Nat} {C : Array Value} (h : RowI w b C) : w.frozen? ⟨b, i, none⟩ = false := by
  unfold RowI at h; unfold World.frozen?; simp only [h]; simp
theorem RowI.set {w : World} {b i : Nat} {C : Array Value} (h : RowI w b C) (v : Value) : RowI (w.setCell ⟨b, i, none⟩ v) b (C.setIfInBounds i v) := Joins.block_setCell h v
theorem RowI.lt {w : World} {b : Nat} {C : Array Value} (h : RowI w b C) : b < w.heap.size := (Array.getElem?_eq_some_iff.1 h).1
/-- A row of n cells whose first k are the ints of f. -/
def FilledI (w : World) (b n k : Nat) (f : Nat → Int) : Prop := ∃ C, RowI w b C ∧ C.size = n ∧ ∀ i, i < k → C[i]? = some (.int .i64 (f i))
theorem FilledI.step {w : World} {b n k : Nat} {f : Nat → Int} (h : FilledI w b n k f) (hk : k < n) : FilledI (w.setCell ⟨b, k, none⟩ (.int .i64 (f k))) b n (k + 1) f := by
  obtain ⟨C, hC, hn, hf⟩ := h
  refine ⟨C.setIfInBounds k (.int .i64 (f k)), hC.set _, by simpa using hn, fun i hi => ?_⟩
  by_cases e : i = k
  · subst e; simp [hn, hk]
  · rw [Array.getElem?_setIfInBounds_ne (by omega)]; exact hf i (by omega)
theorem FilledI.ints {w : World} {b n : Nat} {f : Nat → Int} (h : FilledI w b n n f) : IntsAt w.heap.size w (some ⟨b, 0, none⟩) n f := by
  obtain ⟨C, hC, _, hf⟩ := h
  intro i hi
  exact ⟨b, 0, rfl, hC.lt, by rw [Nat.zero_add]; exact hC.cell (hf i hi)⟩
end Go.Proofs.YtikgcogiiohahaaGreatDoor

/- Slices of ints and of texts that a law makes of its arguments; the laws' own helpers on them, said by ranges of blocks. -/
namespace Go.Proofs.YtikgcogiiohahaaGreatDoor
open Go.RowKit
set_option maxRecDepth 100000
set_option linter.unusedVariables false

/-- The slice at a holds n ints f in a block of its own from lo to hi. -/
structure OwnI (a : Option Addr) (n : Nat) (f : Nat → Int) (lo hi : Nat) (w : World) : Prop where
  out : ∃ b C, a = some ⟨b, 0, none⟩ ∧ lo ≤ b ∧ b < hi ∧ w.heap[b]? = some (.cells C 3 (0, 0)) ∧ n ≤ C.size ∧ ∀ i, i < n → C[i]? = some (.int .i64 (f i))
theorem OwnI.below {a : Option Addr} {n : Nat} {f : Nat → Int} {lo hi : Nat} {w w' : World} (h : OwnI a n f lo hi w) (hb : Below w.heap.size w w') (hh : hi ≤ w.heap.size) : OwnI a n f lo hi w' := by
  obtain ⟨b, C, e, h0, h1, h2, r⟩ := h.out
  exact ⟨b, C, e, h0, h1, blk_below hb h2, r⟩
theorem OwnI.within {a : Option Addr} {n : Nat} {f : Nat → Int} {lo hi lo' hi' : Nat} {w w' : World} (h : OwnI a n f lo hi w) (k : Within lo' hi' w w') (hr : hi ≤ lo' ∨ hi' ≤ lo) (hh : hi ≤ w.heap.size) : OwnI a n f lo hi w' := by
  obtain ⟨b, C, e, h0, h1, h2, r⟩ := h.out
  exact ⟨b, C, e, h0, h1, k.blk (by omega) h2, r⟩
theorem OwnI.at_ {a : Option Addr} {n : Nat} {f : Nat → Int} {lo hi : Nat} {w : World} (h : OwnI a n f lo hi w) {H : Nat} (hh : hi ≤ H) : IntsAt H w a n f := by
  obtain ⟨b, C, e, h0, h1, h2, _, r⟩ := h.out
  intro i hi'
  exact ⟨b, 0, e, by omega, by rw [Nat.zero_add]; exact cellOf h2 (r i hi')⟩
/-- The slice at a holds the n texts f in a block of its own from lo to hi. -/
structure OwnS (a : Option Addr) (n : Nat) (f : Nat → ByteArray) (lo hi : Nat) (w : World) : Prop where
  out : ∃ b C, a = some ⟨b, 0, none⟩ ∧ lo ≤ b ∧ b < hi ∧ w.heap[b]? = some (.cells C 9 (0, 0)) ∧ n ≤ C.size ∧ ∀ i, i < n → C[i]? = some (.string (f i))
theorem OwnS.below {a : Option Addr} {n : Nat} {f : Nat → ByteArray} {lo hi : Nat} {w w' : World} (h : OwnS a n f lo hi w) (hb : Below w.heap.size w w') (hh : hi ≤ w.heap.size) : OwnS a n f lo hi w' := by
  obtain ⟨b, C, e, h0, h1, h2, r⟩ := h.out
  exact ⟨b, C, e, h0, h1, blk_below hb h2, r⟩
theorem OwnS.within {a : Option Addr} {n : Nat} {f : Nat → ByteArray} {lo hi lo' hi' : Nat} {w w' : World} (h : OwnS a n f lo hi w) (k : Within lo' hi' w w') (hr : hi ≤ lo' ∨ hi' ≤ lo) (hh : hi ≤ w.heap.size) : OwnS a n f lo hi w' := by
  obtain ⟨b, C, e, h0, h1, h2, r⟩ := h.out
  exact ⟨b, C, e, h0, h1, k.blk (by omega) h2, r⟩
theorem OwnS.at_ {a : Option Addr} {n : Nat} {f : Nat → ByteArray} {lo hi : Nat} {w : World} (h : OwnS a n f lo hi w) {H : Nat} (hh : hi ≤ H) : StrsAt H w a n f := by
  obtain ⟨b, C, e, h0, h1, h2, _, r⟩ := h.out
  intro i hi'
  exact ⟨b, 0, e, by omega, by rw [Nat.zero_add]; exact cellOf h2 (r i hi')⟩
end Go.Proofs.YtikgcogiiohahaaGreatDoor

/- Three-valued logic on ints: the program's and the reference's functions. -/
namespace Go.Proofs.YtikgcogiiohahaaGreatDoor
set_option maxRecDepth 100000
open Go.RowKit
set_option linter.unusedVariables false

/-- The three values: 0, 1 and missing. -/
def vL (x : Int) : Int := if x = 0 then 0 else if x = 1 then 1 else 2
def nL (x : Int) : Int := if x = 0 then 1 else if x = 1 then 0 else 2
def aL (x y : Int) : Int := if x = 0 ∨ y = 0 then 0 else if x = 1 ∧ y = 1 then 1 else 2
def oL (x y : Int) : Int := if x = 1 ∨ y = 1 then 1 else if x = 0 ∧ y = 0 then 0 else 2
def xL (x y : Int) : Int := if (x = 0 ∨ x = 1) ∧ (y = 0 ∨ y = 1) then (if x = y then 0 else 1) else 2
def L3 (x : Int) : Prop := x = 0 ∨ x = 1 ∨ x = 2
theorem L3.in {x : Int} (h : L3 x) : -9223372036854775808 ≤ x ∧ x ≤ 9223372036854775807 := by unfold L3 at h; omega
end Go.Proofs.YtikgcogiiohahaaGreatDoor
