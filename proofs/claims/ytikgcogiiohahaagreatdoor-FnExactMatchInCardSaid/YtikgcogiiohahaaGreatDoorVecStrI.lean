/- Lists of names and labels: the program's side. -/
import Derived.Test.YtikgcogiiohahaaGreatDoorRows
import Derived.Test.YtikgcogiiohahaaGreatDoorVecStr
namespace Go.Proofs.YtikgcogiiohahaaGreatDoor
open Go.RowKit
set_option maxRecDepth 100000
set_option linter.unusedVariables false

theorem implTooLong (s : ByteArray) (w : World) (hs : s.size ≤ 9223372036854775807) :
    Calls Tryz.prog 84 #[.string s] w fun e w' => e = .returned (.bool (decide (60 < s.size))) ∧ w = w' := by
  by_cases h : 60 < s.size
  all_goals
    go_enter Tryz.func84, Tryz.ntmps84
    go_wp2
    go_ret
    exact ⟨ret_bB (by simp only [h, decide_true, decide_false, decide_eq_true_eq, decide_eq_false_iff_not] <;> omega), rfl⟩
/-- Does one of the first n strings have more than 60 bytes? -/
def LongIn (f : Nat → ByteArray) (n : Nat) : Prop := ∃ i, i < n ∧ 60 < (f i).size

set_option maxHeartbeats 1000000 in
theorem implIndexFunc (a : Option Addr) (n cap : Nat) (f : Nat → ByteArray) (B : Nat) (w : World) (hs : StrsAt B w a n f) (hn : n ≤ 9223372036854775807) (hz : ∀ i, i < n → (f i).size ≤ 9223372036854775807) :
    Calls Tryz.prog 89 #[.slice a n cap, .func (.func 84) #[] #[]] w fun e w' => (∃ r : Int, e = .returned (.int .i64 r) ∧ (0 ≤ r ↔ LongIn f n) ∧ -1 ≤ r) ∧ w = w' := by
  have S := Lib.hid hs
  have Z := Lib.hid hz
  clear hs hz
  go_enter Tryz.func89, Tryz.ntmps89
  go_wp2
  go_loop [8] (fun i => ∃ k : Nat, k ≤ n ∧ i = .int .i64 k ∧ ∀ i, i < k → (f i).size ≤ 60) (fun i => n - (intOf i).toNat)
  case atStart => exact ⟨0, Nat.zero_le _, rfl, fun _ h => absurd h (Nat.not_lt_zero _)⟩
  case round =>
    obtain ⟨k, hk, rfl, hl⟩ := hrel
    have HL := Lib.hid hl
    clear hl
    by_cases hlt : k < n
    · obtain ⟨b, off, rfl, hb, hc⟩ := S.out k hlt
      have T := Lib.hid (fun w => implTooLong (f k) w (Z.out k hlt))
      have hlt' : (k : Int) < (n : Int) := by omega
      by_cases h60 : 60 < (f k).size
      · have X := Lib.hid (show LongIn f n from ⟨k, hlt, h60⟩)
        rw [decide_eq_true h60] at T
        go_wp2_with fail
        refine (T.out _).mono ?_
        rintro e w' ⟨rfl, rfl⟩
        go_wp2
        go_ret
        exact ⟨⟨_, rfl, ⟨fun _ => X.out, fun _ => by omega⟩, by omega⟩, rfl⟩
      · rw [decide_eq_false h60] at T
        go_wp2_with fail
        refine (T.out _).mono ?_
        rintro e w' ⟨rfl, rfl⟩
        go_wp2
        go_round
        case rel => exact ⟨k + 1, by omega, by go_num, fun i hi => by
          by_cases e : i = k
          · subst e; omega
          · exact HL.out i (by omega)⟩
        case measure => simp [intOf]; omega
    · obtain rfl : k = n := by omega
      have X := Lib.hid (show ¬ LongIn f k from fun ⟨i, hi, h⟩ => by have := HL.out i hi; omega)
      go_wp2
      go_ret
      exact ⟨⟨-1, rfl, ⟨fun h => by omega, fun h => absurd h X.out⟩, by omega⟩, rfl⟩

set_option maxHeartbeats 1000000 in
theorem implContainsFunc (a : Option Addr) (n cap : Nat) (f : Nat → ByteArray) (B : Nat) (w : World) (hs : StrsAt B w a n f) (hn : n ≤ 9223372036854775807) (hz : ∀ i, i < n → (f i).size ≤ 9223372036854775807) :
    Calls Tryz.prog 83 #[.slice a n cap, .func (.func 84) #[] #[]] w fun e w' => e = .returned (.bool (bB (LongIn f n))) ∧ w = w' := by
  have C := Lib.hid (implIndexFunc a n cap f B w hs hn hz)
  clear hs hz
  go_enter Tryz.func83, Tryz.ntmps83
  go_wp2_with fail
  refine C.out.mono ?_
  rintro e w' ⟨⟨r, rfl, hr, h1⟩, rfl⟩
  have R := Lib.hid hr
  clear hr
  go_wp2
  go_ret
  refine ⟨ret_bB ?_, rfl⟩
  by_cases h0 : 0 ≤ r
  · rw [bB_yes (R.out.1 h0)]; exact decide_eq_true h0
  · rw [bB_no (fun h => h0 (R.out.2 h))]; exact decide_eq_false h0

def SomeIn (f : Nat → ByteArray) (n : Nat) : Prop := ∃ i, i < n ∧ (f i).size ≠ 0
set_option maxHeartbeats 1000000 in
theorem implAreEmpty (a : Option Addr) (n cap : Nat) (f : Nat → ByteArray) (B : Nat) (w : World) (hs : StrsAt B w a n f) (hn : n ≤ 9223372036854775807) :
    Calls Tryz.prog 82 #[.slice a n cap] w fun e w' => e = .returned (.bool (bB (¬ SomeIn f n))) ∧ w = w' := by
  have S := Lib.hid hs
  clear hs
  go_enter Tryz.func82, Tryz.ntmps82
  go_wp2
  go_loop [7] (fun i => ∃ k : Nat, k ≤ n ∧ i = .int .i64 k ∧ ∀ i, i < k → (f i).size = 0) (fun i => n - (intOf i).toNat)
  case atStart => exact ⟨0, Nat.zero_le _, rfl, fun _ h => absurd h (Nat.not_lt_zero _)⟩
  case round =>
    obtain ⟨k, hk, rfl, hl⟩ := hrel
    have HL := Lib.hid hl
    clear hl
    by_cases hlt : k < n
    · obtain ⟨b, off, rfl, hb, hc⟩ := S.out k hlt
      have hlt' : (k : Int) < (n : Int) := by omega
      by_cases he : (f k).size = 0
      · have HN := Lib.hid (show ∀ i, i < k + 1 → (f i).size = 0 from fun i hi => by
          by_cases e : i = k
          · subst e; exact he
          · exact HL.out i (by omega))
        have e1 := empty_of_size he
        rw [e1] at hc
        clear e1 he
        go_wp2
        go_round
        case rel => exact ⟨k + 1, by omega, by go_num, HN.out⟩
        case measure => simp [intOf]; omega
      · have X := Lib.hid (show ¬ ¬ SomeIn f n from fun h => h ⟨k, hlt, he⟩)
        have e1 := notEmptyB he
        clear he
        go_wp2
        go_ret
        exact ⟨ret_no X.out, rfl⟩
    · obtain rfl : k = n := by omega
      have X := Lib.hid (show ¬ SomeIn f k from fun ⟨i, hi, h⟩ => h (HL.out i hi))
      go_wp2
      go_ret
      exact ⟨ret_yes X.out, rfl⟩

def IsIn (s : ByteArray) (f : Nat → ByteArray) (n : Nat) : Prop := ∃ i, i < n ∧ f i = s
set_option maxHeartbeats 1000000 in
theorem implIndex (s : ByteArray) (a : Option Addr) (n cap : Nat) (f : Nat → ByteArray) (B : Nat) (w : World) (hs : StrsAt B w a n f) (hn : n ≤ 9223372036854775807) :
    Calls Tryz.prog 90 #[.slice a n cap, .string s] w fun e w' => (∃ r : Int, e = .returned (.int .i64 r) ∧ (0 ≤ r ↔ IsIn s f n) ∧ -1 ≤ r) ∧ w = w' := by
  have S := Lib.hid hs
  clear hs
  go_enter Tryz.func90, Tryz.ntmps90
  go_wp2
  go_loop [8] (fun i => ∃ k : Nat, k ≤ n ∧ i = .int .i64 k ∧ ∀ i, i < k → f i ≠ s) (fun i => n - (intOf i).toNat)
  case atStart => exact ⟨0, Nat.zero_le _, rfl, fun _ h => absurd h (Nat.not_lt_zero _)⟩
  case round =>
    obtain ⟨k, hk, rfl, hl⟩ := hrel
    have HL := Lib.hid hl
    clear hl
    by_cases hlt : k < n
    · obtain ⟨b, off, rfl, hb, hc⟩ := S.out k hlt
      have hlt' : (k : Int) < (n : Int) := by omega
      by_cases hp : f k = s
      · have X := Lib.hid (show IsIn s f n from ⟨k, hlt, hp⟩)
        rw [hp] at hc
        clear hp
        go_wp2
        go_ret
        exact ⟨⟨_, rfl, ⟨fun _ => X.out, fun _ => by omega⟩, by omega⟩, rfl⟩
      · have hp' : (s.toList == (f k).toList) = false := by
          rw [beq_eq_false_iff_ne]; exact fun e => hp (toList_inj e.symm)
        have HN := Lib.hid (show ∀ i, i < k + 1 → f i ≠ s from fun i hi => by
          by_cases e : i = k
          · subst e; exact hp
          · exact HL.out i (by omega))
        clear hp
        go_wp2
        go_round
        case rel => exact ⟨k + 1, by omega, by go_num, HN.out⟩
        case measure => simp [intOf]; omega
    · obtain rfl : k = n := by omega
      have X := Lib.hid (show ¬ IsIn s f k from fun ⟨i, hi, h⟩ => HL.out i hi h)
      go_wp2
      go_ret
      exact ⟨⟨-1, rfl, ⟨fun h => by omega, fun h => absurd h X.out⟩, by omega⟩, rfl⟩
set_option maxHeartbeats 1000000 in
theorem implContains (s : ByteArray) (a : Option Addr) (n cap : Nat) (f : Nat → ByteArray) (B : Nat) (w : World) (hs : StrsAt B w a n f) (hn : n ≤ 9223372036854775807) :
    Calls Tryz.prog 85 #[.slice a n cap, .string s] w fun e w' => e = .returned (.bool (bB (IsIn s f n))) ∧ w = w' := by
  have C := Lib.hid (implIndex s a n cap f B w hs hn)
  clear hs
  go_enter Tryz.func85, Tryz.ntmps85
  go_wp2_with fail
  refine C.out.mono ?_
  rintro e w' ⟨⟨r, rfl, hr, h1⟩, rfl⟩
  have R := Lib.hid hr
  clear hr
  go_wp2
  go_ret
  refine ⟨ret_bB ?_, rfl⟩
  by_cases h0 : 0 ≤ r
  · rw [bB_yes (R.out.1 h0)]; exact decide_eq_true h0
  · rw [bB_no (fun h => h0 (R.out.2 h))]; exact decide_eq_false h0

set_option maxHeartbeats 1000000 in
theorem implLabels (a : Option Addr) (n cap most : Nat) (f : Nat → ByteArray) (B : Nat) (w : World) (hs : StrsAt B w a n f) (hcap : n ≤ cap) (hn : n ≤ 9223372036854775807) (hm : most ≤ 20) (hz : ∀ i, i < n → (f i).size ≤ 9223372036854775807) :
    Calls Tryz.prog 78 #[.slice a n cap, .int .i64 most] w fun e w' => e = .returned (.bool (bB (LabelsOk f n most))) ∧ w = w' := by
  by_cases hle : n ≤ most
  · have S := Lib.hid hs
    have Z := Lib.hid hz
    have CT := Lib.hid (fun s k c (hk : k ≤ n) => implContains s a k c f B w (fun i hi => hs i (by omega)) (by omega))
    have TL := Lib.hid (fun k (hk : k < n) => implTooLong (f k) w (hz k hk))
    clear hs hz
    have hle' : ¬ most < n := by omega
    go_enter Tryz.func78, Tryz.ntmps78
    go_wp2
    go_loop [13] (fun i => ∃ k : Nat, k ≤ n ∧ i = .int .i64 k ∧ ∀ i, i < k → LabelOk f i) (fun i => n - (intOf i).toNat)
    case atStart => exact ⟨0, Nat.zero_le _, rfl, fun _ h => absurd h (Nat.not_lt_zero _)⟩
    case round =>
      obtain ⟨k, hk, rfl, hl⟩ := hrel
      have HK := Lib.hid hl
      clear hl
      by_cases hlt : k < n
      · obtain ⟨bb, off, rfl, hbB, hc⟩ := S.out k hlt
        have hlt' : (k : Int) < (n : Int) := by omega
        by_cases he : (f k).size = 0
        · have X := Lib.hid (show ¬ LabelsOk f n most from fun h => (h.2 k hlt).1 he)
          have e1 := empty_of_size he
          rw [e1] at hc
          clear e1 he
          go_wp2
          go_ret
          exact ⟨ret_no X.out, rfl⟩
        · have E := Lib.hid he
          have e1 := notEmptyB he
          clear he
          have T := Lib.hid (TL.out k hlt)
          by_cases h60 : 60 < (f k).size
          · have X := Lib.hid (show ¬ LabelsOk f n most from fun h => by have := (h.2 k hlt).2.1; omega)
            rw [decide_eq_true h60] at T
            go_wp2_with fail
            refine T.out.mono ?_
            rintro e w' ⟨rfl, rfl⟩
            go_wp2
            go_ret
            exact ⟨ret_no X.out, rfl⟩
          · rw [decide_eq_false h60] at T
            go_wp2_with fail
            refine T.out.mono ?_
            rintro e w' ⟨rfl, rfl⟩
            go_wp2_with fail
            refine (CT.out (f k) k _ (by omega)).mono ?_
            rintro e w' ⟨rfl, rfl⟩
            by_cases hf : IsIn (f k) f k
            · have X := Lib.hid (show ¬ LabelsOk f n most from fun h => by
                obtain ⟨j, hj, e⟩ := hf
                exact (h.2 k hlt).2.2 j hj e)
              rw [bB_yes hf]
              clear hf
              go_wp2
              go_ret
              exact ⟨ret_no X.out, rfl⟩
            · have X := Lib.hid (show ∀ i, i < k + 1 → LabelOk f i from fun i hi => by
                by_cases e : i = k
                · subst e; exact ⟨E.out, by omega, fun j hj e => hf ⟨j, hj, e⟩⟩
                · exact HK.out i (by omega))
              rw [bB_no hf]
              clear hf
              go_wp2
              go_round
              case rel => exact ⟨k + 1, by omega, by go_num, X.out⟩
              case measure => simp [intOf]; omega
      · obtain rfl : k = n := by omega
        have X := Lib.hid (show LabelsOk f k most from ⟨hle, HK.out⟩)
        go_wp2
        go_ret
        exact ⟨ret_yes X.out, rfl⟩
  · have X := Lib.hid (show ¬ LabelsOk f n most from fun h => hle h.1)
    clear hs hz
    go_enter Tryz.func78, Tryz.ntmps78
    go_wp2
    go_ret
    exact ⟨ret_no X.out, rfl⟩
end Go.Proofs.YtikgcogiiohahaaGreatDoor
