/- Which vectors the reference calls valid. -/
import Derived.Test.YtikgcogiiohahaaGreatDoorRows
import Derived.Test.YtikgcogiiohahaaGreatDoorVecMath
import Derived.Test.YtikgcogiiohahaaGreatDoorVecStr
import Derived.Test.YtikgcogiiohahaaGreatDoorNumMake
import Derived.WalkKit
import Derived.Lib.Hide
namespace Go.Proofs.YtikgcogiiohahaaGreatDoor
open Go.RowKit
set_option maxRecDepth 100000
set_option linter.unusedVariables false

theorem lenFun (ni np : Nat) : lenV 5 ni np = 1 := by unfold lenV; rw [if_pos rfl]
theorem lenNot {k : Int} {ni np : Nat} (h : k ≠ 5) : lenV k ni np = ni + np := by unfold lenV; rw [if_neg h]
theorem specLen (k : Int) (ai ap an ac al : Option Addr) (ni ci np cp nn cn nc cc nl cl : Nat) (code env : Int) (w : World) (h1 : ni ≤ 1048576) (h2 : np ≤ 1048576) :
    Calls Tryz.prog 61 #[.agg #[.int .i64 k, .slice ai ni ci, .slice ap np cp, .slice an nn cn, .slice ac nc cc, .slice al nl cl, .int .i64 code, .int .i64 env]] w fun e w' => e = .returned (.int .i64 (lenV k ni np)) ∧ Below w.heap.size w w' := by
  by_cases hk : k = 5
  · subst hk
    go_enter Tryz.func61, Tryz.ntmps61
    go_wp2
    go_ret
    exact ⟨ret_i64S (by rw [lenFun]; rfl), below1 _ _⟩
  · have X := Lib.hid (lenNot (ni := ni) (np := np) hk)
    go_enter Tryz.func61, Tryz.ntmps61
    go_wp2
    go_ret
    exact ⟨ret_i64S (by rw [X.out]; omega), below1 _ _⟩

theorem itNo_of {k : Int} {x : It} (h0 : x ≠ noI) (h1 : k = 1 → ¬ (x.d = 1 ∧ 0 ≤ x.n ∧ x.n ≤ 1 ∧ x.t.size = 0)) (h2 : k = 2 → isN x = false) (h3 : k = 3 → ¬ (x.n = 0 ∧ x.d = 1 ∧ x.t.size ≤ 60)) : ¬ ItOk k x := by
  rintro (h | ⟨e, h⟩ | ⟨e, h⟩ | ⟨e, h⟩)
  · exact h0 h
  · exact h1 e h
  · rw [h2 e] at h; cases h
  · exact h3 e h
theorem ne_noI_d {n d : Int} {t : ByteArray} (h : ¬ d = 0) : (⟨n, d, t⟩ : It) ≠ noI := fun e => h (congrArg It.d e)
theorem ne_noI_n {n d : Int} {t : ByteArray} (h : ¬ n = 0) : (⟨n, d, t⟩ : It) ≠ noI := fun e => h (congrArg It.n e)
theorem ne_noI_t {n d : Int} {t : ByteArray} (h : ¬ t.size = 0) : (⟨n, d, t⟩ : It) ≠ noI := fun e => h (congrArg (fun x => x.t.size) e)

set_option maxHeartbeats 2000000 in
theorem specItem (k : Int) (x : It) (w : World) (ht : x.t.size ≤ 1048576) :
    Calls Tryz.prog 65 #[.int .i64 k, .agg #[.int .i64 x.n, .int .i64 x.d, .string x.t]] w fun e w' => e = .returned (.bool (bB (ItOk k x))) ∧ Below w.heap.size w w' := by
  obtain ⟨n, d, t⟩ := x
  simp only at ht ⊢
  by_cases hn : (⟨n, d, t⟩ : It) = noI
  · have X := Lib.hid (show ItOk k ⟨n, d, t⟩ from .inl hn)
    obtain ⟨rfl, rfl, rfl⟩ : n = 0 ∧ d = 0 ∧ t = ⟨#[]⟩ := ⟨congrArg It.n hn, congrArg It.d hn, congrArg It.t hn⟩
    clear hn
    go_enter Tryz.func65, Tryz.ntmps65
    go_wp2
    go_ret
    exact ⟨ret_yes X.out, below1 _ _⟩
  have HN := Lib.hid hn
  by_cases k2 : k = 2
  · subst k2
    have X := Lib.hid (show bB (ItOk 2 ⟨n, d, t⟩) = isN ⟨n, d, t⟩ by
      cases h : isN ⟨n, d, t⟩
      · exact bB_no (itNo_of hn (by omega) (fun _ => h) (by omega))
      · exact bB_yes (.inr (.inr (.inl ⟨rfl, h⟩))))
    have C := Lib.hid (fun w => specIsNum n d t w (by omega))
    by_cases hd : d = 0
    · subst hd
      by_cases h0 : n = 0
      · subst h0
        have he : ¬ t.size = 0 := fun h => HN.out (by rw [empty_of_size h]; rfl)
        have e1 := notEmptyB he
        clear hn he
        go_enter Tryz.func65, Tryz.ntmps65
        go_wp2_with fail
        refine (C.out _).mono ?_
        rintro e w1 ⟨rfl, b⟩
        have B := Lib.hid (below_then (below1 w _) b)
        clear b
        go_wp2
        go_ret
        exact ⟨ret_bB X.out.symm, B.out⟩
      · clear hn
        go_enter Tryz.func65, Tryz.ntmps65
        go_wp2_with fail
        refine (C.out _).mono ?_
        rintro e w1 ⟨rfl, b⟩
        have B := Lib.hid (below_then (below1 w _) b)
        clear b
        go_wp2
        go_ret
        exact ⟨ret_bB X.out.symm, B.out⟩
    · clear hn
      go_enter Tryz.func65, Tryz.ntmps65
      go_wp2_with fail
      refine (C.out _).mono ?_
      rintro e w1 ⟨rfl, b⟩
      have B := Lib.hid (below_then (below1 w _) b)
      clear b
      go_wp2
      go_ret
      exact ⟨ret_bB X.out.symm, B.out⟩
  by_cases hd : d = 0
  · subst hd
    have X := Lib.hid (show ¬ ItOk k ⟨n, 0, t⟩ from itNo_of hn (fun _ h => by have := h.1; simp at this) (fun h => absurd h k2) (fun _ h => by have := h.2.1; simp at this))
    by_cases h0 : n = 0
    · subst h0
      have he : ¬ t.size = 0 := fun h => HN.out (by rw [empty_of_size h]; rfl)
      have e1 := notEmptyB he
      clear hn he
      by_cases k1 : k = 1
      · subst k1
        go_enter Tryz.func65, Tryz.ntmps65
        go_wp2
        go_ret
        exact ⟨ret_no X.out, below1 _ _⟩
      · by_cases k3 : k = 3
        · subst k3
          go_enter Tryz.func65, Tryz.ntmps65
          go_wp2
          go_ret
          exact ⟨ret_no X.out, below1 _ _⟩
        · go_enter Tryz.func65, Tryz.ntmps65
          go_wp2
          go_ret
          exact ⟨ret_no X.out, below1 _ _⟩
    · clear hn
      by_cases k1 : k = 1
      · subst k1
        go_enter Tryz.func65, Tryz.ntmps65
        go_wp2
        go_ret
        exact ⟨ret_no X.out, below1 _ _⟩
      · by_cases k3 : k = 3
        · subst k3
          go_enter Tryz.func65, Tryz.ntmps65
          go_wp2
          go_ret
          exact ⟨ret_no X.out, below1 _ _⟩
        · go_enter Tryz.func65, Tryz.ntmps65
          go_wp2
          go_ret
          exact ⟨ret_no X.out, below1 _ _⟩
  by_cases k1 : k = 1
  · subst k1
    by_cases d1 : d = 1
    · subst d1
      by_cases hi : n < 0 ∨ 1 < n
      · have X := Lib.hid (show ¬ ItOk 1 ⟨n, 1, t⟩ from itNo_of hn (fun _ h => by have h1 := h.2.1; have h2 := h.2.2.1; simp only at h1 h2; omega) (by omega) (by omega))
        have C := Lib.hid (fun w => inNo n 0 1 w hi)
        clear hn hi k2
        go_enter Tryz.func65, Tryz.ntmps65
        go_wp2_with fail
        refine (C.out _).mono ?_
        rintro e w1 ⟨rfl, rfl⟩
        go_wp2
        go_ret
        exact ⟨ret_no X.out, below1 _ _⟩
      · have C := Lib.hid (fun w => inYes n 0 1 w (by omega) (by omega))
        by_cases he : t.size = 0
        · have X := Lib.hid (show ItOk 1 ⟨n, 1, t⟩ from .inr (.inl ⟨rfl, rfl, by simp only; omega, by simp only; omega, he⟩))
          have e1 := empty_of_size he
          subst e1
          clear hn he hi k2 ht
          go_enter Tryz.func65, Tryz.ntmps65
          go_wp2_with fail
          refine (C.out _).mono ?_
          rintro e w1 ⟨rfl, rfl⟩
          go_wp2
          go_ret
          exact ⟨ret_yes X.out, below1 _ _⟩
        · have X := Lib.hid (show ¬ ItOk 1 ⟨n, 1, t⟩ from itNo_of hn (fun _ h => he h.2.2.2) (by omega) (by omega))
          have e1 := notEmptyB he
          clear hn he hi k2
          go_enter Tryz.func65, Tryz.ntmps65
          go_wp2_with fail
          refine (C.out _).mono ?_
          rintro e w1 ⟨rfl, rfl⟩
          go_wp2
          go_ret
          exact ⟨ret_no X.out, below1 _ _⟩
    · have X := Lib.hid (show ¬ ItOk 1 ⟨n, d, t⟩ from itNo_of hn (fun _ h => d1 h.1) (by omega) (by omega))
      clear hn k2
      go_enter Tryz.func65, Tryz.ntmps65
      go_wp2
      go_ret
      exact ⟨ret_no X.out, below1 _ _⟩
  by_cases k3 : k = 3
  · subst k3
    by_cases h0 : n = 0
    · subst h0
      by_cases d1 : d = 1
      · subst d1
        by_cases h60 : t.size ≤ 60
        · have X := Lib.hid (show ItOk 3 ⟨0, 1, t⟩ from .inr (.inr (.inr ⟨rfl, rfl, rfl, h60⟩)))
          clear hn k2 k1
          go_enter Tryz.func65, Tryz.ntmps65
          go_wp2
          go_ret
          exact ⟨ret_bB (by rw [bB_yes X.out]; exact decide_eq_true (by omega)), below1 _ _⟩
        · have X := Lib.hid (show ¬ ItOk 3 ⟨0, 1, t⟩ from itNo_of hn (by omega) (by omega) (fun _ h => h60 h.2.2))
          clear hn k2 k1
          go_enter Tryz.func65, Tryz.ntmps65
          go_wp2
          go_ret
          exact ⟨ret_bB (by rw [bB_no X.out]; exact decide_eq_false (by omega)), below1 _ _⟩
      · have X := Lib.hid (show ¬ ItOk 3 ⟨0, d, t⟩ from itNo_of hn (by omega) (by omega) (fun _ h => d1 h.2.1))
        clear hn k2 k1
        go_enter Tryz.func65, Tryz.ntmps65
        go_wp2
        go_ret
        exact ⟨ret_no X.out, below1 _ _⟩
    · have X := Lib.hid (show ¬ ItOk 3 ⟨n, d, t⟩ from itNo_of hn (by omega) (by omega) (fun _ h => h0 h.1))
      clear hn k2 k1
      go_enter Tryz.func65, Tryz.ntmps65
      go_wp2
      go_ret
      exact ⟨ret_no X.out, below1 _ _⟩
  · have X := Lib.hid (show ¬ ItOk k ⟨n, d, t⟩ from itNo_of hn (fun h => absurd h k1) (fun h => absurd h k2) (fun h => absurd h k3))
    clear hn
    go_enter Tryz.func65, Tryz.ntmps65
    go_wp2
    go_ret
    exact ⟨ret_no X.out, below1 _ _⟩

end Go.Proofs.YtikgcogiiohahaaGreatDoor
