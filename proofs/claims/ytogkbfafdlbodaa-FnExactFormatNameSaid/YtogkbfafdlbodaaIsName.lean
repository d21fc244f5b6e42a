/- Both functions IsName, against one plain function. -/
import Derived.Test.YtogkbfafdlbodaaRows
import Derived.Test.YtogkbfafdlbodaaTextMath
import Derived.WalkKit
import Derived.Lib.OthersKept
namespace Go.Proofs.Ytogkbfafdlbodaa
open Go.RowKit Go.Lib

theorem l1In_any (x a b : Int) (w : World) : Calls Try.prog 24 #[.int .i64 x, .int .i64 a, .int .i64 b] w fun e w' => e = .returned (.bool (decide (a ≤ x ∧ x ≤ b))) ∧ w = w' := by
  by_cases h1 : a ≤ x
  all_goals
    by_cases h2 : x ≤ b
    all_goals
      go_enter Try.func24, Try.ntmps24
      go_wp2
      go_ret
      exact ⟨by simp [h1, h2], rfl⟩

theorem ret_bool {a b : Bool} (h : a = b) : Ending.returned (.bool a) = .returned (.bool b) := by rw [h]
theorem bad_name {s : ByteArray} {k : Nat} (hk : k < s.size) (h : (s[k].toNat : Int) < 33 ∨ 126 < (s[k].toNat : Int) ∨ ((s[k].toNat : Int) == 96) = true) : Ending.returned (.bool false) = Ending.returned (.bool (nameL s.data.toList)) := by
  rw [nameL_bad hk (okB_no (by simpa using h))]
theorem good_byte {c : UInt8} (h1 : 33 ≤ (c.toNat : Int)) (h2 : (c.toNat : Int) ≤ 126) (h3 : ((c.toNat : Int) == 96) = false) : okB c = true := okB_yes h1 h2 (by simpa using h3)

set_option maxHeartbeats 400000 in
theorem specIsName (s : ByteArray) (w : World) (hs : s.size ≤ maxLen) :
    Calls Try.prog 12 #[.string s] w fun e w' => e = .returned (.bool (nameL s.data.toList)) ∧ w = w' := by
  unfold maxLen at hs
  go_enter Try.func12, Try.ntmps12
  go_wp2
  go_loop [3] (fun i => ∃ k : Nat, k ≤ s.size ∧ i = .int .i64 k ∧ Front okB s k) (fun i => s.size - (intOf i).toNat)
  case atStart => exact ⟨0, Nat.zero_le _, rfl, Front.zero _ _⟩
  case round =>
    obtain ⟨k, hk, rfl, hf⟩ := hrel
    by_cases hlt : k < s.size
    · go_wp2
      · go_ret
        have hx : ((s[k].toNat : Int) < 33 ∨ 126 < (s[k].toNat : Int)) ∨ ((s[k].toNat : Int) == 96) = true := by assumption
        exact ⟨bad_name hlt (by rcases hx with (h | h) | h; exact .inl h; exact .inr (.inl h); exact .inr (.inr h)), rfl⟩
      · go_round
        case rel => exact ⟨k + 1, by omega, by go_num, hf.succ hlt (good_byte (by omega) (by omega) (And.right ‹_›))⟩
        case measure => simp [intOf]; omega
      · go_ret
        exact ⟨bad_name hlt (by omega), rfl⟩
      · go_ret
        exact ⟨bad_name hlt (by omega), rfl⟩
    · go_wp2_with (go_at_call 24; refine (l1In_any _ _ _ _).mono ?_; rintro e w' ⟨rfl, rfl⟩)
      go_ret
      exact ⟨by rw [nameL_all (hf.all (by omega))]; exact ret_bool (by rw [← Bool.decide_and]; congr 1; apply propext; omega), rfl⟩

set_option maxHeartbeats 400000 in
/-- The range over the runes sees the same bytes: a byte of 128 or more comes as a rune of 128 or more. -/
theorem implIsName (s : ByteArray) (w : World) (hs : s.size ≤ maxLen) :
    Calls Try.prog 13 #[.string s] w fun e w' => e = .returned (.bool (nameL s.data.toList)) ∧ Below w.heap.size w w' := by
  unfold maxLen at hs
  by_cases h1 : s.size < 1
  · go_enter Try.func13, Try.ntmps13
    go_wp2
    go_ret
    exact ⟨by rw [nameL_len (.inl h1)]; rfl, Below.refl _ _⟩
  by_cases h2 : 20 < s.size
  · go_enter Try.func13, Try.ntmps13
    go_wp2
    go_ret
    exact ⟨by rw [nameL_len (.inr h2)]; rfl, Below.refl _ _⟩
  · go_enter Try.func13, Try.ntmps13
    go_wp2
    go_loopw [4] (fun _ wr => ∃ k : Nat, wr.heap[w.heap.size]? = some (.stringIter s k) ∧ Below w.heap.size w wr ∧ k ≤ s.size ∧ Front okB s k) (fun _ wr => s.size - wr.iterPos w.heap.size)
    case atStart => exact ⟨0, World.iter_heap w s 0, (Below.refl _ w).alloc (Nat.le_refl _) _, Nat.zero_le _, Front.zero _ _⟩
    case round =>
      obtain ⟨k, hit, hbw, hk, hf⟩ := hrel
      by_cases hp : k < s.size
      · have hnx : ∀ ty, (Instr.next (.pointer (some ⟨w.heap.size, 0, none⟩)) true ty).run Try.prog wr = _ := fun ty => Lib.run_next_any_at wr w.heap.size s k ty hit hp
        have hb2 := Lib.below_iterAt hbw (k := w.heap.size) (Nat.le_refl _) s (k + (Utf8.decode s k).2)
        have hit2 := Lib.iterAt_heap wr w.heap.size s k (k + (Utf8.decode s k).2) hit
        go_wp2
        · go_ret
          have hx : (((Utf8.decode s k).1 : Int) < 33 ∨ 126 < ((Utf8.decode s k).1 : Int)) ∨ (((Utf8.decode s k).1 : Int) == 96) = true := by assumption
          exact ⟨by rw [nameL_bad hp (bad_rune hp (by rcases hx with (h | h) | h; exact .inl h; exact .inr (.inl h); exact .inr (.inr h)))]; rfl, hb2⟩
        · have hg := good_rune hp (by omega) (by omega) (And.right ‹_ ∧ (((Utf8.decode s k).1 : Int) == 96) = false›)
          go_roundw
          case rel => exact ⟨k + (Utf8.decode s k).2, hit2, hb2, by omega, by rw [hg.2]; exact hf.succ hp hg.1⟩
          case measure => simp only [World.iterPos, hit2, hit]; omega
        · go_ret
          exact ⟨by rw [nameL_bad hp (bad_rune hp (by omega))]; rfl, hb2⟩
        · go_ret
          exact ⟨by rw [nameL_bad hp (bad_rune hp (by omega))]; rfl, hb2⟩
      · have hnx : ∀ ty, (Instr.next (.pointer (some ⟨w.heap.size, 0, none⟩)) true ty).run Try.prog wr = _ := fun ty => Lib.run_next_end_at wr w.heap.size s k ty hit hp
        go_wp2
        go_ret
        exact ⟨by rw [nameL_all (hf.all (by omega))]; exact ret_bool (decide_eq_true (by omega)).symm, hbw⟩
end Go.Proofs.Ytogkbfafdlbodaa
