/- The program's tests of a vector's fields, besides its parts. -/
import Derived.Test.YtikgcogiiohahaaGreatDoorRows
import Derived.Test.YtikgcogiiohahaaGreatDoorVecIt
import Derived.Test.YtikgcogiiohahaaGreatDoorVecStrI
import Derived.Test.YtikgcogiiohahaaGreatDoorNumMake
import Derived.Test.YtikgcogiiohahaaGreatDoorRegV
import Derived.WalkKit
import Derived.Lib.Hide
namespace Go.Proofs.YtikgcogiiohahaaGreatDoor
open Go.RowKit
set_option maxRecDepth 100000
set_option linter.unusedVariables false

theorem implLen (k : Int) (ai ap an ac al : Option Addr) (ni ci np cp nn cn nc cc nl cl : Nat) (code env : Int) (w : World) (h1 : ni ≤ 1048576) (h2 : np ≤ 1048576) :
    Calls Tryz.prog 68 #[.agg #[.int .i64 k, .slice ai ni ci, .slice ap np cp, .slice an nn cn, .slice ac nc cc, .slice al nl cl, .int .i64 code, .int .i64 env]] w fun e w' => e = .returned (.int .i64 (lenV k ni np)) ∧ Below w.heap.size w w' := by
  by_cases hk : k = 5
  · subst hk
    go_enter Tryz.func68, Tryz.ntmps68
    go_wp2
    go_ret
    exact ⟨ret_i64S (by rw [lenFun]; rfl), below1 _ _⟩
  · have X := Lib.hid (lenNot (ni := ni) (np := np) hk)
    go_enter Tryz.func68, Tryz.ntmps68
    go_wp2
    go_ret
    exact ⟨ret_i64S (by rw [X.out]; omega), below1 _ _⟩

def FunOk (code env : Int) : Prop := -999 ≤ code ∧ code ≤ 99999 ∧ 0 ≤ env ∧ env ≤ 99999
theorem implFunCode (k : Int) (ai ap an ac al : Option Addr) (ni ci np cp nn cn nc cc nl cl : Nat) (code env : Int) (w : World) :
    Calls Tryz.prog 81 #[.agg #[.int .i64 k, .slice ai ni ci, .slice ap np cp, .slice an nn cn, .slice ac nc cc, .slice al nl cl, .int .i64 code, .int .i64 env]] w fun e w' => e = .returned (.bool (bB (FunOk code env))) ∧ Below w.heap.size w w' := by
  by_cases h0 : code < -999
  · have X := Lib.hid (show ¬ FunOk code env by unfold FunOk; omega)
    go_enter Tryz.func81, Tryz.ntmps81
    go_wp2
    go_ret
    exact ⟨ret_bB (by rw [bB_no X.out] <;> (first | rfl | exact decide_eq_false (by omega) | (simp; done) | (simp; omega))), below1 _ _⟩
  · by_cases h1 : 99999 < code
    · have X := Lib.hid (show ¬ FunOk code env by unfold FunOk; omega)
      go_enter Tryz.func81, Tryz.ntmps81
      go_wp2
      go_ret
      exact ⟨ret_bB (by rw [bB_no X.out] <;> (first | rfl | exact decide_eq_false (by omega) | (simp; done) | (simp; omega))), below1 _ _⟩
    · by_cases h2 : env < 0
      · have X := Lib.hid (show ¬ FunOk code env by unfold FunOk; omega)
        go_enter Tryz.func81, Tryz.ntmps81
        go_wp2
        go_ret
        exact ⟨ret_bB (by rw [bB_no X.out] <;> (first | rfl | exact decide_eq_false (by omega) | (simp; done) | (simp; omega))), below1 _ _⟩
      · by_cases h3 : 99999 < env
        · have X := Lib.hid (show ¬ FunOk code env by unfold FunOk; omega)
          go_enter Tryz.func81, Tryz.ntmps81
          go_wp2
          go_ret
          exact ⟨ret_bB (by rw [bB_no X.out] <;> (first | rfl | exact decide_eq_false (by omega) | (simp; done) | (simp; omega))), below1 _ _⟩
        · have X := Lib.hid (show FunOk code env by unfold FunOk; omega)
          go_enter Tryz.func81, Tryz.ntmps81
          go_wp2
          go_ret
          exact ⟨ret_bB (by rw [bB_yes X.out] <;> (first | rfl | exact decide_eq_true (by omega) | (simp; done) | (simp; omega))), below1 _ _⟩

def FieldsOk (k : Int) (ni np nn nc nl : Nat) (code env : Int) : Prop :=
  (0 ≤ k ∧ k ≤ 5) ∧ (k ≠ 5 → code = 0 ∧ env = 0) ∧ (k ≠ 2 → nl = 0) ∧ (k ≠ 4 → np = 0) ∧ (k = 5 → ni = 0 ∧ nn = 0 ∧ -999 ≤ code ∧ code ≤ 99999 ∧ 0 ≤ env ∧ env ≤ 99999) ∧ (k = 0 → ni = 0 ∧ nc = 0) ∧ (k = 4 → ni = 0)

set_option maxHeartbeats 8000000 in
theorem implFields (k : Int) (ai ap an ac al : Option Addr) (ni ci np cp nn cn nc cc nl cl : Nat) (code env : Int) (w : World) :
    Calls Tryz.prog 76 #[.agg #[.int .i64 k, .slice ai ni ci, .slice ap np cp, .slice an nn cn, .slice ac nc cc, .slice al nl cl, .int .i64 code, .int .i64 env]] w fun e w' => e = .returned (.bool (bB (FieldsOk k ni np nn nc nl code env))) ∧ Below w.heap.size w w' := by
  by_cases z0 : code = 0
  · subst z0
    by_cases z1 : env = 0
    · subst z1
      by_cases k0 : k = 0
      · subst k0
        by_cases a0 : 0 < ni
        · have X := Lib.hid (show ¬ FieldsOk 0 ni np nn nc nl 0 0 by unfold FieldsOk; omega)
          go_enter Tryz.func76, Tryz.ntmps76
          go_wp2
          go_ret
          exact ⟨ret_bB (by rw [bB_no X.out] <;> (first | rfl | exact decide_eq_false (by omega) | (simp; done) | (simp; omega))), below1 _ _⟩
        · by_cases a1 : 0 < nc
          · have X := Lib.hid (show ¬ FieldsOk 0 ni np nn nc nl 0 0 by unfold FieldsOk; omega)
            go_enter Tryz.func76, Tryz.ntmps76
            go_wp2
            go_ret
            exact ⟨ret_bB (by rw [bB_no X.out] <;> (first | rfl | exact decide_eq_false (by omega) | (simp; done) | (simp; omega))), below1 _ _⟩
          · by_cases a2 : 0 < nl
            · have X := Lib.hid (show ¬ FieldsOk 0 ni np nn nc nl 0 0 by unfold FieldsOk; omega)
              go_enter Tryz.func76, Tryz.ntmps76
              go_wp2
              go_ret
              exact ⟨ret_bB (by rw [bB_no X.out] <;> (first | rfl | exact decide_eq_false (by omega) | (simp; done) | (simp; omega))), below1 _ _⟩
            · by_cases a3 : np = 0
              · subst a3
                have X := Lib.hid (show FieldsOk 0 ni 0 nn nc nl 0 0 by unfold FieldsOk; omega)
                go_enter Tryz.func76, Tryz.ntmps76
                go_wp2
                go_ret
                exact ⟨ret_bB (by rw [bB_yes X.out] <;> (first | rfl | exact decide_eq_true (by omega) | (simp; done) | (simp; omega))), below1 _ _⟩
              · have X := Lib.hid (show ¬ FieldsOk 0 ni np nn nc nl 0 0 by unfold FieldsOk; omega)
                go_enter Tryz.func76, Tryz.ntmps76
                go_wp2
                go_ret
                exact ⟨ret_bB (by rw [bB_no X.out] <;> (first | rfl | exact decide_eq_false (by omega) | (simp; done) | (simp; omega))), below1 _ _⟩
      · by_cases k1 : k = 1
        · subst k1
          by_cases a2 : 0 < nl
          · have X := Lib.hid (show ¬ FieldsOk 1 ni np nn nc nl 0 0 by unfold FieldsOk; omega)
            go_enter Tryz.func76, Tryz.ntmps76
            go_wp2
            go_ret
            exact ⟨ret_bB (by rw [bB_no X.out] <;> (first | rfl | exact decide_eq_false (by omega) | (simp; done) | (simp; omega))), below1 _ _⟩
          · by_cases a3 : np = 0
            · subst a3
              have X := Lib.hid (show FieldsOk 1 ni 0 nn nc nl 0 0 by unfold FieldsOk; omega)
              go_enter Tryz.func76, Tryz.ntmps76
              go_wp2
              go_ret
              exact ⟨ret_bB (by rw [bB_yes X.out] <;> (first | rfl | exact decide_eq_true (by omega) | (simp; done) | (simp; omega))), below1 _ _⟩
            · have X := Lib.hid (show ¬ FieldsOk 1 ni np nn nc nl 0 0 by unfold FieldsOk; omega)
              go_enter Tryz.func76, Tryz.ntmps76
              go_wp2
              go_ret
              exact ⟨ret_bB (by rw [bB_no X.out] <;> (first | rfl | exact decide_eq_false (by omega) | (simp; done) | (simp; omega))), below1 _ _⟩
        · by_cases k2 : k = 2
          · subst k2
            by_cases a3 : np = 0
            · subst a3
              have X := Lib.hid (show FieldsOk 2 ni 0 nn nc nl 0 0 by unfold FieldsOk; omega)
              go_enter Tryz.func76, Tryz.ntmps76
              go_wp2
              go_ret
              exact ⟨ret_bB (by rw [bB_yes X.out] <;> (first | rfl | exact decide_eq_true (by omega) | (simp; done) | (simp; omega))), below1 _ _⟩
            · have X := Lib.hid (show ¬ FieldsOk 2 ni np nn nc nl 0 0 by unfold FieldsOk; omega)
              go_enter Tryz.func76, Tryz.ntmps76
              go_wp2
              go_ret
              exact ⟨ret_bB (by rw [bB_no X.out] <;> (first | rfl | exact decide_eq_false (by omega) | (simp; done) | (simp; omega))), below1 _ _⟩
          · by_cases k3 : k = 3
            · subst k3
              by_cases a2 : 0 < nl
              · have X := Lib.hid (show ¬ FieldsOk 3 ni np nn nc nl 0 0 by unfold FieldsOk; omega)
                go_enter Tryz.func76, Tryz.ntmps76
                go_wp2
                go_ret
                exact ⟨ret_bB (by rw [bB_no X.out] <;> (first | rfl | exact decide_eq_false (by omega) | (simp; done) | (simp; omega))), below1 _ _⟩
              · by_cases a3 : np = 0
                · subst a3
                  have X := Lib.hid (show FieldsOk 3 ni 0 nn nc nl 0 0 by unfold FieldsOk; omega)
                  go_enter Tryz.func76, Tryz.ntmps76
                  go_wp2
                  go_ret
                  exact ⟨ret_bB (by rw [bB_yes X.out] <;> (first | rfl | exact decide_eq_true (by omega) | (simp; done) | (simp; omega))), below1 _ _⟩
                · have X := Lib.hid (show ¬ FieldsOk 3 ni np nn nc nl 0 0 by unfold FieldsOk; omega)
                  go_enter Tryz.func76, Tryz.ntmps76
                  go_wp2
                  go_ret
                  exact ⟨ret_bB (by rw [bB_no X.out] <;> (first | rfl | exact decide_eq_false (by omega) | (simp; done) | (simp; omega))), below1 _ _⟩
            · by_cases k4 : k = 4
              · subst k4
                by_cases a0 : ni = 0
                · subst a0
                  by_cases a2 : nl = 0
                  · subst a2
                    have X := Lib.hid (show FieldsOk 4 0 np nn nc 0 0 0 by unfold FieldsOk; omega)
                    go_enter Tryz.func76, Tryz.ntmps76
                    go_wp2
                    go_ret
                    exact ⟨ret_bB (by rw [bB_yes X.out] <;> (first | rfl | exact decide_eq_true (by omega) | (simp; done) | (simp; omega))), below1 _ _⟩
                  · have X := Lib.hid (show ¬ FieldsOk 4 0 np nn nc nl 0 0 by unfold FieldsOk; omega)
                    go_enter Tryz.func76, Tryz.ntmps76
                    go_wp2
                    go_ret
                    exact ⟨ret_bB (by rw [bB_no X.out] <;> (first | rfl | exact decide_eq_false (by omega) | (simp; done) | (simp; omega))), below1 _ _⟩
                · have X := Lib.hid (show ¬ FieldsOk 4 ni np nn nc nl 0 0 by unfold FieldsOk; omega)
                  go_enter Tryz.func76, Tryz.ntmps76
                  go_wp2
                  go_ret
                  exact ⟨ret_bB (by rw [bB_no X.out] <;> (first | rfl | exact decide_eq_false (by omega) | (simp; done) | (simp; omega))), below1 _ _⟩
              · by_cases k5 : k = 5
                · subst k5
                  by_cases a0 : ni = 0
                  · subst a0
                    by_cases a1 : np = 0
                    · subst a1
                      by_cases a2 : nn = 0
                      · subst a2
                        by_cases a3 : nl = 0
                        · subst a3
                          have C := Lib.hid (fun w => implFunCode 5 ai ap an ac al 0 ci 0 cp 0 cn nc cc 0 cl 0 0 w)
                          go_enter Tryz.func76, Tryz.ntmps76
                          go_wp2_with fail
                          refine (C.out _).mono ?_
                          rintro e w2 ⟨rfl, b⟩
                          have B := Lib.hid (below_then (below1 w _) b)
                          clear b
                          by_cases hf : FunOk 0 0
                          · have X := Lib.hid (show FieldsOk 5 0 0 0 nc 0 0 0 by unfold FunOk at hf; unfold FieldsOk; omega)
                            rw [bB_yes hf]
                            go_wp2
                            go_ret
                            exact ⟨ret_yes X.out, B.out⟩
                          · have X := Lib.hid (show ¬ FieldsOk 5 0 0 0 nc 0 0 0 by unfold FunOk at hf; unfold FieldsOk; omega)
                            rw [bB_no hf]
                            go_wp2
                            go_ret
                            exact ⟨ret_no X.out, B.out⟩
                        · have X := Lib.hid (show ¬ FieldsOk 5 0 0 0 nc nl 0 0 by unfold FieldsOk; omega)
                          go_enter Tryz.func76, Tryz.ntmps76
                          go_wp2
                          go_ret
                          exact ⟨ret_bB (by rw [bB_no X.out] <;> (first | rfl | exact decide_eq_false (by omega) | (simp; done) | (simp; omega))), below1 _ _⟩
                      · have X := Lib.hid (show ¬ FieldsOk 5 0 0 nn nc nl 0 0 by unfold FieldsOk; omega)
                        go_enter Tryz.func76, Tryz.ntmps76
                        go_wp2
                        go_ret
                        exact ⟨ret_bB (by rw [bB_no X.out] <;> (first | rfl | exact decide_eq_false (by omega) | (simp; done) | (simp; omega))), below1 _ _⟩
                    · have X := Lib.hid (show ¬ FieldsOk 5 0 np nn nc nl 0 0 by unfold FieldsOk; omega)
                      go_enter Tryz.func76, Tryz.ntmps76
                      go_wp2
                      go_ret
                      exact ⟨ret_bB (by rw [bB_no X.out] <;> (first | rfl | exact decide_eq_false (by omega) | (simp; done) | (simp; omega))), below1 _ _⟩
                  · have X := Lib.hid (show ¬ FieldsOk 5 ni np nn nc nl 0 0 by unfold FieldsOk; omega)
                    go_enter Tryz.func76, Tryz.ntmps76
                    go_wp2
                    go_ret
                    exact ⟨ret_bB (by rw [bB_no X.out] <;> (first | rfl | exact decide_eq_false (by omega) | (simp; done) | (simp; omega))), below1 _ _⟩
                · have X := Lib.hid (show ¬ FieldsOk k ni np nn nc nl 0 0 by unfold FieldsOk; omega)
                  go_enter Tryz.func76, Tryz.ntmps76
                  go_wp2
                  go_ret
                  exact ⟨ret_bB (by rw [bB_no X.out] <;> (first | rfl | exact decide_eq_false (by omega) | (simp; done) | (simp; omega))), below1 _ _⟩
    · by_cases k0 : k = 0
      · subst k0
        by_cases a0 : 0 < ni
        · have X := Lib.hid (show ¬ FieldsOk 0 ni np nn nc nl 0 env by unfold FieldsOk; omega)
          go_enter Tryz.func76, Tryz.ntmps76
          go_wp2
          go_ret
          exact ⟨ret_bB (by rw [bB_no X.out] <;> (first | rfl | exact decide_eq_false (by omega) | (simp; done) | (simp; omega))), below1 _ _⟩
        · by_cases a1 : 0 < nc
          · have X := Lib.hid (show ¬ FieldsOk 0 ni np nn nc nl 0 env by unfold FieldsOk; omega)
            go_enter Tryz.func76, Tryz.ntmps76
            go_wp2
            go_ret
            exact ⟨ret_bB (by rw [bB_no X.out] <;> (first | rfl | exact decide_eq_false (by omega) | (simp; done) | (simp; omega))), below1 _ _⟩
          · by_cases a2 : 0 < nl
            · have X := Lib.hid (show ¬ FieldsOk 0 ni np nn nc nl 0 env by unfold FieldsOk; omega)
              go_enter Tryz.func76, Tryz.ntmps76
              go_wp2
              go_ret
              exact ⟨ret_bB (by rw [bB_no X.out] <;> (first | rfl | exact decide_eq_false (by omega) | (simp; done) | (simp; omega))), below1 _ _⟩
            · by_cases a3 : np = 0
              · subst a3
                have X := Lib.hid (show ¬ FieldsOk 0 ni 0 nn nc nl 0 env by unfold FieldsOk; omega)
                go_enter Tryz.func76, Tryz.ntmps76
                go_wp2
                go_ret
                exact ⟨ret_bB (by rw [bB_no X.out] <;> (first | rfl | exact decide_eq_false (by omega) | (simp; done) | (simp; omega))), below1 _ _⟩
              · have X := Lib.hid (show ¬ FieldsOk 0 ni np nn nc nl 0 env by unfold FieldsOk; omega)
                go_enter Tryz.func76, Tryz.ntmps76
                go_wp2
                go_ret
                exact ⟨ret_bB (by rw [bB_no X.out] <;> (first | rfl | exact decide_eq_false (by omega) | (simp; done) | (simp; omega))), below1 _ _⟩
      · by_cases k1 : k = 1
        · subst k1
          by_cases a2 : 0 < nl
          · have X := Lib.hid (show ¬ FieldsOk 1 ni np nn nc nl 0 env by unfold FieldsOk; omega)
            go_enter Tryz.func76, Tryz.ntmps76
            go_wp2
            go_ret
            exact ⟨ret_bB (by rw [bB_no X.out] <;> (first | rfl | exact decide_eq_false (by omega) | (simp; done) | (simp; omega))), below1 _ _⟩
          · by_cases a3 : np = 0
            · subst a3
              have X := Lib.hid (show ¬ FieldsOk 1 ni 0 nn nc nl 0 env by unfold FieldsOk; omega)
              go_enter Tryz.func76, Tryz.ntmps76
              go_wp2
              go_ret
              exact ⟨ret_bB (by rw [bB_no X.out] <;> (first | rfl | exact decide_eq_false (by omega) | (simp; done) | (simp; omega))), below1 _ _⟩
            · have X := Lib.hid (show ¬ FieldsOk 1 ni np nn nc nl 0 env by unfold FieldsOk; omega)
              go_enter Tryz.func76, Tryz.ntmps76
              go_wp2
              go_ret
              exact ⟨ret_bB (by rw [bB_no X.out] <;> (first | rfl | exact decide_eq_false (by omega) | (simp; done) | (simp; omega))), below1 _ _⟩
        · by_cases k2 : k = 2
          · subst k2
            by_cases a3 : np = 0
            · subst a3
              have X := Lib.hid (show ¬ FieldsOk 2 ni 0 nn nc nl 0 env by unfold FieldsOk; omega)
              go_enter Tryz.func76, Tryz.ntmps76
              go_wp2
              go_ret
              exact ⟨ret_bB (by rw [bB_no X.out] <;> (first | rfl | exact decide_eq_false (by omega) | (simp; done) | (simp; omega))), below1 _ _⟩
            · have X := Lib.hid (show ¬ FieldsOk 2 ni np nn nc nl 0 env by unfold FieldsOk; omega)
              go_enter Tryz.func76, Tryz.ntmps76
              go_wp2
              go_ret
              exact ⟨ret_bB (by rw [bB_no X.out] <;> (first | rfl | exact decide_eq_false (by omega) | (simp; done) | (simp; omega))), below1 _ _⟩
          · by_cases k3 : k = 3
            · subst k3
              by_cases a2 : 0 < nl
              · have X := Lib.hid (show ¬ FieldsOk 3 ni np nn nc nl 0 env by unfold FieldsOk; omega)
                go_enter Tryz.func76, Tryz.ntmps76
                go_wp2
                go_ret
                exact ⟨ret_bB (by rw [bB_no X.out] <;> (first | rfl | exact decide_eq_false (by omega) | (simp; done) | (simp; omega))), below1 _ _⟩
              · by_cases a3 : np = 0
                · subst a3
                  have X := Lib.hid (show ¬ FieldsOk 3 ni 0 nn nc nl 0 env by unfold FieldsOk; omega)
                  go_enter Tryz.func76, Tryz.ntmps76
                  go_wp2
                  go_ret
                  exact ⟨ret_bB (by rw [bB_no X.out] <;> (first | rfl | exact decide_eq_false (by omega) | (simp; done) | (simp; omega))), below1 _ _⟩
                · have X := Lib.hid (show ¬ FieldsOk 3 ni np nn nc nl 0 env by unfold FieldsOk; omega)
                  go_enter Tryz.func76, Tryz.ntmps76
                  go_wp2
                  go_ret
                  exact ⟨ret_bB (by rw [bB_no X.out] <;> (first | rfl | exact decide_eq_false (by omega) | (simp; done) | (simp; omega))), below1 _ _⟩
            · by_cases k4 : k = 4
              · subst k4
                by_cases a0 : ni = 0
                · subst a0
                  by_cases a2 : nl = 0
                  · subst a2
                    have X := Lib.hid (show ¬ FieldsOk 4 0 np nn nc 0 0 env by unfold FieldsOk; omega)
                    go_enter Tryz.func76, Tryz.ntmps76
                    go_wp2
                    go_ret
                    exact ⟨ret_bB (by rw [bB_no X.out] <;> (first | rfl | exact decide_eq_false (by omega) | (simp; done) | (simp; omega))), below1 _ _⟩
                  · have X := Lib.hid (show ¬ FieldsOk 4 0 np nn nc nl 0 env by unfold FieldsOk; omega)
                    go_enter Tryz.func76, Tryz.ntmps76
                    go_wp2
                    go_ret
                    exact ⟨ret_bB (by rw [bB_no X.out] <;> (first | rfl | exact decide_eq_false (by omega) | (simp; done) | (simp; omega))), below1 _ _⟩
                · have X := Lib.hid (show ¬ FieldsOk 4 ni np nn nc nl 0 env by unfold FieldsOk; omega)
                  go_enter Tryz.func76, Tryz.ntmps76
                  go_wp2
                  go_ret
                  exact ⟨ret_bB (by rw [bB_no X.out] <;> (first | rfl | exact decide_eq_false (by omega) | (simp; done) | (simp; omega))), below1 _ _⟩
              · by_cases k5 : k = 5
                · subst k5
                  by_cases a0 : ni = 0
                  · subst a0
                    by_cases a1 : np = 0
                    · subst a1
                      by_cases a2 : nn = 0
                      · subst a2
                        by_cases a3 : nl = 0
                        · subst a3
                          have C := Lib.hid (fun w => implFunCode 5 ai ap an ac al 0 ci 0 cp 0 cn nc cc 0 cl 0 env w)
                          go_enter Tryz.func76, Tryz.ntmps76
                          go_wp2_with fail
                          refine (C.out _).mono ?_
                          rintro e w2 ⟨rfl, b⟩
                          have B := Lib.hid (below_then (below1 w _) b)
                          clear b
                          by_cases hf : FunOk 0 env
                          · have X := Lib.hid (show FieldsOk 5 0 0 0 nc 0 0 env by unfold FunOk at hf; unfold FieldsOk; omega)
                            rw [bB_yes hf]
                            go_wp2
                            go_ret
                            exact ⟨ret_yes X.out, B.out⟩
                          · have X := Lib.hid (show ¬ FieldsOk 5 0 0 0 nc 0 0 env by unfold FunOk at hf; unfold FieldsOk; omega)
                            rw [bB_no hf]
                            go_wp2
                            go_ret
                            exact ⟨ret_no X.out, B.out⟩
                        · have X := Lib.hid (show ¬ FieldsOk 5 0 0 0 nc nl 0 env by unfold FieldsOk; omega)
                          go_enter Tryz.func76, Tryz.ntmps76
                          go_wp2
                          go_ret
                          exact ⟨ret_bB (by rw [bB_no X.out] <;> (first | rfl | exact decide_eq_false (by omega) | (simp; done) | (simp; omega))), below1 _ _⟩
                      · have X := Lib.hid (show ¬ FieldsOk 5 0 0 nn nc nl 0 env by unfold FieldsOk; omega)
                        go_enter Tryz.func76, Tryz.ntmps76
                        go_wp2
                        go_ret
                        exact ⟨ret_bB (by rw [bB_no X.out] <;> (first | rfl | exact decide_eq_false (by omega) | (simp; done) | (simp; omega))), below1 _ _⟩
                    · have X := Lib.hid (show ¬ FieldsOk 5 0 np nn nc nl 0 env by unfold FieldsOk; omega)
                      go_enter Tryz.func76, Tryz.ntmps76
                      go_wp2
                      go_ret
                      exact ⟨ret_bB (by rw [bB_no X.out] <;> (first | rfl | exact decide_eq_false (by omega) | (simp; done) | (simp; omega))), below1 _ _⟩
                  · have X := Lib.hid (show ¬ FieldsOk 5 ni np nn nc nl 0 env by unfold FieldsOk; omega)
                    go_enter Tryz.func76, Tryz.ntmps76
                    go_wp2
                    go_ret
                    exact ⟨ret_bB (by rw [bB_no X.out] <;> (first | rfl | exact decide_eq_false (by omega) | (simp; done) | (simp; omega))), below1 _ _⟩
                · have X := Lib.hid (show ¬ FieldsOk k ni np nn nc nl 0 env by unfold FieldsOk; omega)
                  go_enter Tryz.func76, Tryz.ntmps76
                  go_wp2
                  go_ret
                  exact ⟨ret_bB (by rw [bB_no X.out] <;> (first | rfl | exact decide_eq_false (by omega) | (simp; done) | (simp; omega))), below1 _ _⟩
  · by_cases k0 : k = 0
    · subst k0
      by_cases a0 : 0 < ni
      · have X := Lib.hid (show ¬ FieldsOk 0 ni np nn nc nl code env by unfold FieldsOk; omega)
        go_enter Tryz.func76, Tryz.ntmps76
        go_wp2
        go_ret
        exact ⟨ret_bB (by rw [bB_no X.out] <;> (first | rfl | exact decide_eq_false (by omega) | (simp; done) | (simp; omega))), below1 _ _⟩
      · by_cases a1 : 0 < nc
        · have X := Lib.hid (show ¬ FieldsOk 0 ni np nn nc nl code env by unfold FieldsOk; omega)
          go_enter Tryz.func76, Tryz.ntmps76
          go_wp2
          go_ret
          exact ⟨ret_bB (by rw [bB_no X.out] <;> (first | rfl | exact decide_eq_false (by omega) | (simp; done) | (simp; omega))), below1 _ _⟩
        · by_cases a2 : 0 < nl
          · have X := Lib.hid (show ¬ FieldsOk 0 ni np nn nc nl code env by unfold FieldsOk; omega)
            go_enter Tryz.func76, Tryz.ntmps76
            go_wp2
            go_ret
            exact ⟨ret_bB (by rw [bB_no X.out] <;> (first | rfl | exact decide_eq_false (by omega) | (simp; done) | (simp; omega))), below1 _ _⟩
          · by_cases a3 : np = 0
            · subst a3
              have X := Lib.hid (show ¬ FieldsOk 0 ni 0 nn nc nl code env by unfold FieldsOk; omega)
              go_enter Tryz.func76, Tryz.ntmps76
              go_wp2
              go_ret
              exact ⟨ret_bB (by rw [bB_no X.out] <;> (first | rfl | exact decide_eq_false (by omega) | (simp; done) | (simp; omega))), below1 _ _⟩
            · have X := Lib.hid (show ¬ FieldsOk 0 ni np nn nc nl code env by unfold FieldsOk; omega)
              go_enter Tryz.func76, Tryz.ntmps76
              go_wp2
              go_ret
              exact ⟨ret_bB (by rw [bB_no X.out] <;> (first | rfl | exact decide_eq_false (by omega) | (simp; done) | (simp; omega))), below1 _ _⟩
    · by_cases k1 : k = 1
      · subst k1
        by_cases a2 : 0 < nl
        · have X := Lib.hid (show ¬ FieldsOk 1 ni np nn nc nl code env by unfold FieldsOk; omega)
          go_enter Tryz.func76, Tryz.ntmps76
          go_wp2
          go_ret
          exact ⟨ret_bB (by rw [bB_no X.out] <;> (first | rfl | exact decide_eq_false (by omega) | (simp; done) | (simp; omega))), below1 _ _⟩
        · by_cases a3 : np = 0
          · subst a3
            have X := Lib.hid (show ¬ FieldsOk 1 ni 0 nn nc nl code env by unfold FieldsOk; omega)
            go_enter Tryz.func76, Tryz.ntmps76
            go_wp2
            go_ret
            exact ⟨ret_bB (by rw [bB_no X.out] <;> (first | rfl | exact decide_eq_false (by omega) | (simp; done) | (simp; omega))), below1 _ _⟩
          · have X := Lib.hid (show ¬ FieldsOk 1 ni np nn nc nl code env by unfold FieldsOk; omega)
            go_enter Tryz.func76, Tryz.ntmps76
            go_wp2
            go_ret
            exact ⟨ret_bB (by rw [bB_no X.out] <;> (first | rfl | exact decide_eq_false (by omega) | (simp; done) | (simp; omega))), below1 _ _⟩
      · by_cases k2 : k = 2
        · subst k2
          by_cases a3 : np = 0
          · subst a3
            have X := Lib.hid (show ¬ FieldsOk 2 ni 0 nn nc nl code env by unfold FieldsOk; omega)
            go_enter Tryz.func76, Tryz.ntmps76
            go_wp2
            go_ret
            exact ⟨ret_bB (by rw [bB_no X.out] <;> (first | rfl | exact decide_eq_false (by omega) | (simp; done) | (simp; omega))), below1 _ _⟩
          · have X := Lib.hid (show ¬ FieldsOk 2 ni np nn nc nl code env by unfold FieldsOk; omega)
            go_enter Tryz.func76, Tryz.ntmps76
            go_wp2
            go_ret
            exact ⟨ret_bB (by rw [bB_no X.out] <;> (first | rfl | exact decide_eq_false (by omega) | (simp; done) | (simp; omega))), below1 _ _⟩
        · by_cases k3 : k = 3
          · subst k3
            by_cases a2 : 0 < nl
            · have X := Lib.hid (show ¬ FieldsOk 3 ni np nn nc nl code env by unfold FieldsOk; omega)
              go_enter Tryz.func76, Tryz.ntmps76
              go_wp2
              go_ret
              exact ⟨ret_bB (by rw [bB_no X.out] <;> (first | rfl | exact decide_eq_false (by omega) | (simp; done) | (simp; omega))), below1 _ _⟩
            · by_cases a3 : np = 0
              · subst a3
                have X := Lib.hid (show ¬ FieldsOk 3 ni 0 nn nc nl code env by unfold FieldsOk; omega)
                go_enter Tryz.func76, Tryz.ntmps76
                go_wp2
                go_ret
                exact ⟨ret_bB (by rw [bB_no X.out] <;> (first | rfl | exact decide_eq_false (by omega) | (simp; done) | (simp; omega))), below1 _ _⟩
              · have X := Lib.hid (show ¬ FieldsOk 3 ni np nn nc nl code env by unfold FieldsOk; omega)
                go_enter Tryz.func76, Tryz.ntmps76
                go_wp2
                go_ret
                exact ⟨ret_bB (by rw [bB_no X.out] <;> (first | rfl | exact decide_eq_false (by omega) | (simp; done) | (simp; omega))), below1 _ _⟩
          · by_cases k4 : k = 4
            · subst k4
              by_cases a0 : ni = 0
              · subst a0
                by_cases a2 : nl = 0
                · subst a2
                  have X := Lib.hid (show ¬ FieldsOk 4 0 np nn nc 0 code env by unfold FieldsOk; omega)
                  go_enter Tryz.func76, Tryz.ntmps76
                  go_wp2
                  go_ret
                  exact ⟨ret_bB (by rw [bB_no X.out] <;> (first | rfl | exact decide_eq_false (by omega) | (simp; done) | (simp; omega))), below1 _ _⟩
                · have X := Lib.hid (show ¬ FieldsOk 4 0 np nn nc nl code env by unfold FieldsOk; omega)
                  go_enter Tryz.func76, Tryz.ntmps76
                  go_wp2
                  go_ret
                  exact ⟨ret_bB (by rw [bB_no X.out] <;> (first | rfl | exact decide_eq_false (by omega) | (simp; done) | (simp; omega))), below1 _ _⟩
              · have X := Lib.hid (show ¬ FieldsOk 4 ni np nn nc nl code env by unfold FieldsOk; omega)
                go_enter Tryz.func76, Tryz.ntmps76
                go_wp2
                go_ret
                exact ⟨ret_bB (by rw [bB_no X.out] <;> (first | rfl | exact decide_eq_false (by omega) | (simp; done) | (simp; omega))), below1 _ _⟩
            · by_cases k5 : k = 5
              · subst k5
                by_cases a0 : ni = 0
                · subst a0
                  by_cases a1 : np = 0
                  · subst a1
                    by_cases a2 : nn = 0
                    · subst a2
                      by_cases a3 : nl = 0
                      · subst a3
                        have C := Lib.hid (fun w => implFunCode 5 ai ap an ac al 0 ci 0 cp 0 cn nc cc 0 cl code env w)
                        go_enter Tryz.func76, Tryz.ntmps76
                        go_wp2_with fail
                        refine (C.out _).mono ?_
                        rintro e w2 ⟨rfl, b⟩
                        have B := Lib.hid (below_then (below1 w _) b)
                        clear b
                        by_cases hf : FunOk code env
                        · have X := Lib.hid (show FieldsOk 5 0 0 0 nc 0 code env by unfold FunOk at hf; unfold FieldsOk; omega)
                          rw [bB_yes hf]
                          go_wp2
                          go_ret
                          exact ⟨ret_yes X.out, B.out⟩
                        · have X := Lib.hid (show ¬ FieldsOk 5 0 0 0 nc 0 code env by unfold FunOk at hf; unfold FieldsOk; omega)
                          rw [bB_no hf]
                          go_wp2
                          go_ret
                          exact ⟨ret_no X.out, B.out⟩
                      · have X := Lib.hid (show ¬ FieldsOk 5 0 0 0 nc nl code env by unfold FieldsOk; omega)
                        go_enter Tryz.func76, Tryz.ntmps76
                        go_wp2
                        go_ret
                        exact ⟨ret_bB (by rw [bB_no X.out] <;> (first | rfl | exact decide_eq_false (by omega) | (simp; done) | (simp; omega))), below1 _ _⟩
                    · have X := Lib.hid (show ¬ FieldsOk 5 0 0 nn nc nl code env by unfold FieldsOk; omega)
                      go_enter Tryz.func76, Tryz.ntmps76
                      go_wp2
                      go_ret
                      exact ⟨ret_bB (by rw [bB_no X.out] <;> (first | rfl | exact decide_eq_false (by omega) | (simp; done) | (simp; omega))), below1 _ _⟩
                  · have X := Lib.hid (show ¬ FieldsOk 5 0 np nn nc nl code env by unfold FieldsOk; omega)
                    go_enter Tryz.func76, Tryz.ntmps76
                    go_wp2
                    go_ret
                    exact ⟨ret_bB (by rw [bB_no X.out] <;> (first | rfl | exact decide_eq_false (by omega) | (simp; done) | (simp; omega))), below1 _ _⟩
                · have X := Lib.hid (show ¬ FieldsOk 5 ni np nn nc nl code env by unfold FieldsOk; omega)
                  go_enter Tryz.func76, Tryz.ntmps76
                  go_wp2
                  go_ret
                  exact ⟨ret_bB (by rw [bB_no X.out] <;> (first | rfl | exact decide_eq_false (by omega) | (simp; done) | (simp; omega))), below1 _ _⟩
              · have X := Lib.hid (show ¬ FieldsOk k ni np nn nc nl code env by unfold FieldsOk; omega)
                go_enter Tryz.func76, Tryz.ntmps76
                go_wp2
                go_ret
                exact ⟨ret_bB (by rw [bB_no X.out] <;> (first | rfl | exact decide_eq_false (by omega) | (simp; done) | (simp; omega))), below1 _ _⟩
end Go.Proofs.YtikgcogiiohahaaGreatDoor
