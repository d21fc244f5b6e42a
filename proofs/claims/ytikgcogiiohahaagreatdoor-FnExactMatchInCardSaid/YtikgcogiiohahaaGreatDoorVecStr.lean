/- Lists of names and labels: what both sides ask of them. -/
import Derived.Test.YtikgcogiiohahaaGreatDoorRows
import Derived.Test.YtikgcogiiohahaaGreatDoorVecMath
import Derived.Test.YtikgcogiiohahaaGreatDoorStrs
import Derived.Test.YtikgcogiiohahaaGreatDoorReserved
import Derived.Test.YtikgcogiiohahaaGreatDoorNumKit
import Derived.WalkKit
import Derived.Lib.Hide
namespace Go.Proofs.YtikgcogiiohahaaGreatDoor
open Go.RowKit
set_option maxRecDepth 100000
set_option linter.unusedVariables false

theorem toList_inj {a b : ByteArray} (h : a.toList = b.toList) : a = b := by
  rw [ByteArray.toList_eq, ByteArray.toList_eq] at h
  cases a; cases b
  congr
  exact Array.toList_inj.1 h
theorem notEmptyB {t : ByteArray} (h : t.size ≠ 0) : t.toList.isEmpty = false := by
  cases h' : t.toList with
  | nil => rw [ByteArray.toList_eq] at h'; exact absurd (show t.data.toList.length = 0 by rw [h']; rfl) h
  | cons _ _ => rfl

set_option maxHeartbeats 1000000 in
theorem specNamed (a : Option Addr) (n cap : Nat) (f : Nat → ByteArray) (B : Nat) (w : World) (hs : StrsAt B w a n f) (hn : n ≤ 9223372036854775807) (hz : ∀ i, i < n → (f i).size ≤ 9223372036854775807) :
    Calls Tryz.prog 63 #[.slice a n cap] w fun e w' => e = .returned (.bool (bB (NamedOk f n))) ∧ w = w' := by
  have S := Lib.hid hs
  have Z := Lib.hid hz
  clear hs hz
  obtain ⟨b0, hb0⟩ : ∃ b : Bool, ((n : Int) == 0) = b := ⟨_, rfl⟩
  have H0 : b0 = true ↔ n = 0 := by rw [← hb0]; simp
  go_enter Tryz.func63, Tryz.ntmps63
  go_wp2
  have G0 := Lib.hid H0
  clear H0 hb0
  go_loop [3, 4] (fun v i => ∃ (k : Nat) (b : Bool), k ≤ n ∧ i = .int .i64 k ∧ v = .bool b ∧ (b = true ↔ (n = 0 ∨ ∃ i, i < k ∧ (f i).size ≠ 0)) ∧ ∀ i, i < k → (f i).size ≤ 60) (fun _ i => n - (intOf i).toNat)
  case atStart => exact ⟨0, b0, Nat.zero_le _, rfl, rfl, by rw [G0.out]; simp, fun _ h => absurd h (Nat.not_lt_zero _)⟩
  case round =>
    obtain ⟨k, b, hk, rfl, rfl, hb, hl⟩ := hrel
    have HB := Lib.hid hb
    have HL := Lib.hid hl
    clear hb hl
    by_cases hlt : k < n
    · obtain ⟨bb, off, rfl, hbB, hc⟩ := S.out k hlt
      have hz := Z.out k hlt
      by_cases h60 : 60 < (f k).size
      · have X := Lib.hid (show ¬ NamedOk f n from fun h => by have := h.1 k hlt; omega)
        go_wp2
        go_ret
        exact ⟨ret_no X.out, rfl⟩
      · have HL1 := Lib.hid (show ∀ i, i < k + 1 → (f i).size ≤ 60 from fun i hi => by
          by_cases e : i = k
          · subst e; omega
          · exact HL.out i (by omega))
        cases b with
        | true =>
          have HN := Lib.hid (show (true = true ↔ (n = 0 ∨ ∃ i, i < k + 1 ∧ (f i).size ≠ 0)) from ⟨fun _ => (HB.out.1 rfl).imp id (fun ⟨i, h1, h2⟩ => ⟨i, by omega, h2⟩), fun _ => rfl⟩)
          go_wp2
          go_round
          case rel => exact ⟨k + 1, true, by omega, by go_num, rfl, HN.out, HL1.out⟩
          case measure => simp [intOf]; omega
        | false =>
          have N0 : ¬ (n = 0 ∨ ∃ i, i < k ∧ (f i).size ≠ 0) := fun h => by have := HB.out.2 h; cases this
          have M0 := Lib.hid N0
          clear N0
          by_cases he : (f k).size = 0
          · have HN := Lib.hid (show (false = true ↔ (n = 0 ∨ ∃ i, i < k + 1 ∧ (f i).size ≠ 0)) from ⟨(fun h => by cases h), fun h => absurd (h.imp id (fun ⟨i, h1, h2⟩ => ⟨i, by
              by_cases e : i = k
              · subst e; exact absurd he h2
              · omega, h2⟩)) M0.out⟩)
            have e1 := empty_of_size he
            rw [e1] at hc hz
            clear e1 he
            go_wp2
            go_round
            case rel => exact ⟨k + 1, false, by omega, by go_num, rfl, HN.out, HL1.out⟩
            case measure => simp [intOf]; omega
          · have HN := Lib.hid (show (true = true ↔ (n = 0 ∨ ∃ i, i < k + 1 ∧ (f i).size ≠ 0)) from ⟨fun _ => .inr ⟨k, by omega, he⟩, fun _ => rfl⟩)
            have e1 := notEmptyB he
            clear he
            go_wp2
            go_round
            case rel => exact ⟨k + 1, true, by omega, by go_num, rfl, HN.out, HL1.out⟩
            case measure => simp [intOf]; omega
    · obtain rfl : k = n := by omega
      have X := Lib.hid (show b = bB (NamedOk f k) by
        by_cases h : (k = 0 ∨ ∃ i, i < k ∧ (f i).size ≠ 0)
        · rw [HB.out.2 h, bB_yes ⟨HL.out, h⟩]
        · rw [bB_no (fun h' => h h'.2)]
          cases b
          · rfl
          · exact absurd (HB.out.1 rfl) h)
      go_wp2
      go_ret
      exact ⟨ret_bB X.out, rfl⟩

theorem findF_first (s : ByteArray) (f : Nat → ByteArray) : ∀ c i, (findF s f c i = -1 ∧ ∀ j, i ≤ j → j < i + c → (f j).toList ≠ s.toList) ∨ ∃ j : Nat, findF s f c i = j ∧ i ≤ j ∧ j < i + c ∧ (f j).toList = s.toList ∧ ∀ j', i ≤ j' → j' < j → (f j').toList ≠ s.toList := by
  intro c
  induction c with
  | zero => intro i; exact .inl ⟨rfl, fun j h1 h2 => by omega⟩
  | succ c ih =>
    intro i
    simp only [findF]
    split
    · rename_i h
      exact .inr ⟨i, rfl, Nat.le_refl _, by omega, by simpa using h, fun j' h1 h2 => by omega⟩
    · rename_i h
      rcases ih (i + 1) with ⟨e, hn⟩ | ⟨j, e, h1, h2, h3, h4⟩
      · refine .inl ⟨e, fun j h1 h2 => ?_⟩
        by_cases e' : j = i
        · subst e'; simpa using h
        · exact hn j (by omega) (by omega)
      · refine .inr ⟨j, e, by omega, by omega, h3, fun j' g1 g2 => ?_⟩
        by_cases e' : j' = i
        · subst e'; simpa using h
        · exact h4 j' (by omega) g2
/-- The first of the labels that is label k lies before k only if k is not the first of its kind. -/
theorem find_before (f : Nat → ByteArray) {n k : Nat} (hk : k < n) : (findF (f k) f n 0 < (k : Int)) ↔ ∃ j, j < k ∧ f j = f k := by
  rcases findF_first (f k) f n 0 with ⟨e, hn⟩ | ⟨j, e, _, h2, h3, h4⟩
  · exact absurd rfl (hn k (Nat.zero_le _) (by omega))
  · rw [e]
    constructor
    · intro h; exact ⟨j, by omega, toList_inj h3⟩
    · rintro ⟨i, hi, e'⟩
      by_cases hij : i < j
      · exact absurd (by rw [e']) (h4 i (Nat.zero_le _) hij)
      · omega

set_option maxHeartbeats 400000 in
theorem specFindAt (s : ByteArray) (a : Option Addr) (n cap : Nat) (f : Nat → ByteArray) (B : Nat) (w : World) (hs : StrsAt B w a n f) (hn : n ≤ 9223372036854775807) :
    Calls Tryz.prog 74 #[.slice a n cap, .string s] w fun e w' => e = .returned (.int .i64 (findF s f n 0)) ∧ w = w' := by
  have S := Lib.hid hs
  clear hs
  go_enter Tryz.func74, Tryz.ntmps74
  go_wp2
  go_loop [5] (fun i => ∃ k : Nat, k ≤ n ∧ i = .int .i64 k ∧ FindAt s f n k) (fun i => n - (intOf i).toNat)
  case atStart => exact ⟨0, Nat.zero_le _, rfl, rfl⟩
  case round =>
    obtain ⟨k, hk, rfl, hf⟩ := hrel
    by_cases hlt : k < n
    · obtain ⟨b, off, rfl, hb, hck⟩ := S.out k hlt
      by_cases hp : ((f k).toList == s.toList) = true
      · go_wp2
        go_ret
        exact ⟨ret_i64 (hf.yes hlt hp).symm, rfl⟩
      · have hp' : ((f k).toList == s.toList) = false := by simpa using hp
        clear hp
        go_wp2
        go_round
        case rel => exact ⟨k + 1, by omega, by go_num, hf.no hlt hp'⟩
        case measure => simp [intOf]; omega
    · go_wp2
      go_ret
      exact ⟨ret_i64 (hf.last hlt).symm, rfl⟩

set_option maxHeartbeats 1000000 in
theorem specLabels (a : Option Addr) (n cap most : Nat) (f : Nat → ByteArray) (B : Nat) (w : World) (hs : StrsAt B w a n f) (hn : n ≤ 9223372036854775807) (hm : most ≤ 20) (hz : ∀ i, i < n → (f i).size ≤ 9223372036854775807) :
    Calls Tryz.prog 64 #[.slice a n cap, .int .i64 most] w fun e w' => e = .returned (.bool (bB (LabelsOk f n most))) ∧ w = w' := by
  have S := Lib.hid hs
  have Z := Lib.hid hz
  have SF := Lib.hid (fun s => specFindAt s a n cap f B w hs hn)
  have HL := Lib.hid (fun s => findF_le s f n 0)
  clear hs hz
  go_enter Tryz.func64, Tryz.ntmps64
  go_wp2
  go_loop [5] (fun i => ∃ k : Nat, k ≤ n ∧ k ≤ most + 1 ∧ i = .int .i64 k ∧ ∀ i, i < k → LabelOk f i) (fun i => n - (intOf i).toNat)
  case atStart => exact ⟨0, Nat.zero_le _, Nat.zero_le _, rfl, fun _ h => absurd h (Nat.not_lt_zero _)⟩
  case round =>
    obtain ⟨k, hk, hkm, rfl, hl⟩ := hrel
    have HK := Lib.hid hl
    clear hl
    by_cases hlt : k < n
    · by_cases hle : k ≤ most
      · obtain ⟨bb, off, rfl, hbB, hc⟩ := S.out k hlt
        have hz := Z.out k hlt
        by_cases he : (f k).size = 0
        · have X := Lib.hid (show ¬ LabelsOk f n most from fun h => (h.2 k hlt).1 he)
          have e1 := empty_of_size he
          rw [e1] at hc hz
          clear e1 he
          go_wp2
          go_ret
          exact ⟨ret_no X.out, rfl⟩
        · have E := Lib.hid he
          have e1 := notEmptyB he
          clear he
          by_cases h60 : 60 < (f k).size
          · have X := Lib.hid (show ¬ LabelsOk f n most from fun h => by have := (h.2 k hlt).2.1; omega)
            go_wp2
            go_ret
            exact ⟨ret_no X.out, rfl⟩
          · have FB := Lib.hid (find_before f hlt)
            have hfl := HL.out (f k)
            go_wp2_with fail
            refine (SF.out (f k)).mono ?_
            rintro e w' ⟨rfl, rfl⟩
            by_cases hf : findF (f k) f n 0 < (k : Int)
            · have X := Lib.hid (show ¬ LabelsOk f n most from fun h => by
                obtain ⟨j, hj, e⟩ := FB.out.1 hf
                exact (h.2 k hlt).2.2 j hj e)
              go_wp2
              go_ret
              exact ⟨ret_no X.out, rfl⟩
            · have X := Lib.hid (show ∀ i, i < k + 1 → LabelOk f i from fun i hi => by
                by_cases e : i = k
                · subst e; exact ⟨E.out, by omega, fun j hj e => hf (FB.out.2 ⟨j, hj, e⟩)⟩
                · exact HK.out i (by omega))
              go_wp2
              go_round
              case rel => exact ⟨k + 1, by omega, by omega, by go_num, X.out⟩
              case measure => simp [intOf]; omega
      · have X := Lib.hid (show ¬ LabelsOk f n most from fun h => by have := h.1; omega)
        have hnm : ¬ n ≤ most := by omega
        go_wp2
        go_ret
        exact ⟨ret_no X.out, rfl⟩
    · obtain rfl : k = n := by omega
      by_cases hle : k ≤ most
      · have X := Lib.hid (show LabelsOk f k most from ⟨hle, HK.out⟩)
        go_wp2
        go_ret
        exact ⟨ret_yes X.out, rfl⟩
      · have X := Lib.hid (show ¬ LabelsOk f k most from fun h => by have := h.1; omega)
        go_wp2
        go_ret
        exact ⟨ret_no X.out, rfl⟩
end Go.Proofs.YtikgcogiiohahaaGreatDoor
