/- Syntactic names: both functions, against one plain function. -/
import Derived.Test.YtogkbfafdlbodaaRows
import Derived.Test.YtogkbfafdlbodaaReserved
import Derived.Test.YtogkbfafdlbodaaSynMath
import Derived.WalkKit
import Derived.WalkSpells
import Derived.WalkLawsBesides
import Derived.Lib.Hide
namespace Go.Proofs.Ytogkbfafdlbodaa
open Go.RowKit Go.Lib

theorem l1Letter_any (x : Int) (w : World) (h0 : 0 ≤ x) (h1 : x ≤ 255) : Calls Try.prog 25 #[.int .u8 x] w fun e w' => e = .returned (.bool (letterI x)) ∧ w = w' := by
  by_cases a1 : 97 ≤ x <;> by_cases a2 : x ≤ 122 <;> by_cases a3 : 65 ≤ x <;> by_cases a4 : x ≤ 90
  all_goals first
    | (exfalso; omega)
    | (go_enter Try.func25, Try.ntmps25
       go_wp2
       go_ret
       exact ⟨ret_bool (by simp [letterI, *]), rfl⟩)
theorem l1Digit_any (x : Int) (w : World) (h0 : 0 ≤ x) (h1 : x ≤ 255) : Calls Try.prog 26 #[.int .u8 x] w fun e w' => e = .returned (.bool (digitI x)) ∧ w = w' := by
  by_cases a1 : 48 ≤ x <;> by_cases a2 : x ≤ 57
  all_goals first
    | (exfalso; omega)
    | (go_enter Try.func26, Try.ntmps26
       go_wp2
       go_ret
       exact ⟨ret_bool (by simp [digitI, *]), rfl⟩)
theorem isLetter_any (x : Int) (w : World) : Calls Try.prog 29 #[.int .i32 x] w fun e w' => e = .returned (.bool (letterI x)) ∧ w = w' := by
  by_cases a1 : 97 ≤ x <;> by_cases a2 : x ≤ 122 <;> by_cases a3 : 65 ≤ x <;> by_cases a4 : x ≤ 90
  all_goals first
    | (exfalso; omega)
    | (go_enter Try.func29, Try.ntmps29
       go_wp2
       go_ret
       exact ⟨ret_bool (by simp [letterI, *]), rfl⟩)
theorem isDigit_any (x : Int) (w : World) : Calls Try.prog 30 #[.int .i32 x] w fun e w' => e = .returned (.bool (digitI x)) ∧ w = w' := by
  by_cases a1 : 48 ≤ x <;> by_cases a2 : x ≤ 57
  all_goals first
    | (exfalso; omega)
    | (go_enter Try.func30, Try.ntmps30
       go_wp2
       go_ret
       exact ⟨ret_bool (by simp [digitI, *]), rfl⟩)

set_option maxHeartbeats 1000000 in
theorem specSyn (s : ByteArray) (w : World) (hs : s.size ≤ maxLen) :
    Calls Try.prog 14 #[.string s] w fun e w' => e = .returned (.bool (synL s.data.toList)) ∧ Below w.heap.size w w' := by
  have hs0 := hs
  unfold maxLen at hs
  go_enter Try.func14, Try.ntmps14
  go_wp2
  go_loop [3] (fun i => ∃ k : Nat, k ≤ s.size ∧ i = .int .i64 k ∧ Front synC s k ∧ HeadAt s k) (fun i => s.size - (intOf i).toNat)
  case atStart => exact ⟨0, Nat.zero_le _, rfl, Front.zero _ _, HeadAt.zero _⟩
  case round =>
    obtain ⟨k, hk, rfl, hf, hh⟩ := hrel
    by_cases hlt : k < s.size
    · have hb := s[k].toNat_lt
      have fin : synC s[k] = true → (k = 0 → headC s[k] = true) → (∃ k_1 : Nat, k_1 ≤ s.size ∧ Value.int IntKind.i64 ((k : Int) + 1) = Value.int IntKind.i64 k_1 ∧ Front synC s k_1 ∧ HeadAt s k_1) := fun h1 h2 =>
        ⟨k + 1, by omega, by go_num, hf.succ hlt h1, by
          by_cases h0 : k = 0
          · subst h0; exact HeadAt.first hlt (h2 rfl)
          · exact hh.later (by omega)⟩
      have FIN := Lib.hid fin
      clear fin
      cases hL : letterI s[k].toNat
      · by_cases e46 : (s[k].toNat : Int) = 46
        · have h46 : ((s[k].toNat : Int) != 46) = false := by simp [e46]
          have S := Lib.hid (show synC s[k] = true by simp [synC, e46])
          have T := Lib.hid (show headC s[k] = true by simp [headC, e46])
          clear e46
          go_wp2_with (first | (go_at_call 25; refine (l1Letter_any _ _ (by omega) (by omega)).mono ?_; rintro e w' ⟨rfl, rfl⟩) | (go_at_call 26; refine (l1Digit_any _ _ (by omega) (by omega)).mono ?_; rintro e w' ⟨rfl, rfl⟩))
          go_round
          case rel => exact FIN.out S.out (fun _ => T.out)
          case measure => simp [intOf]; omega
        · have h46 : ((s[k].toNat : Int) != 46) = true := by simpa using e46
          by_cases e0 : k = 0
          · have h0 : ((k : Int) == 0) = true := by simp [e0]
            have X := Lib.hid (show synL s.data.toList = false by subst e0; exact synL_head hlt (by simp only [headC, hL, Bool.false_or]; simpa using e46))
            clear e46 e0
            go_wp2_with (first | (go_at_call 25; refine (l1Letter_any _ _ (by omega) (by omega)).mono ?_; rintro e w' ⟨rfl, rfl⟩) | (go_at_call 26; refine (l1Digit_any _ _ (by omega) (by omega)).mono ?_; rintro e w' ⟨rfl, rfl⟩))
            go_ret
            exact ⟨ret_bool X.out.symm, Below.refl _ _⟩
          · have h0 : ((k : Int) == 0) = false := by simp; omega
            cases hD : digitI s[k].toNat
            · by_cases e95 : (s[k].toNat : Int) = 95
              · have h95 : ((s[k].toNat : Int) != 95) = false := by simp [e95]
                have S := Lib.hid (show synC s[k] = true by simp [synC, e95])
                have T := Lib.hid e0
                clear e46 e0 e95
                go_wp2_with (first | (go_at_call 25; refine (l1Letter_any _ _ (by omega) (by omega)).mono ?_; rintro e w' ⟨rfl, rfl⟩) | (go_at_call 26; refine (l1Digit_any _ _ (by omega) (by omega)).mono ?_; rintro e w' ⟨rfl, rfl⟩))
                go_round
                case rel => exact FIN.out S.out (fun h => absurd h T.out)
                case measure => simp [intOf]; omega
              · have h95 : ((s[k].toNat : Int) != 95) = true := by simpa using e95
                have X := Lib.hid (show synL s.data.toList = false from synL_byte hlt (by simp only [synC, hL, hD, Bool.false_or, Bool.or_eq_false_iff, beq_eq_false_iff_ne]; exact ⟨e46, e95⟩))
                clear e46 e0 e95
                go_wp2_with (first | (go_at_call 25; refine (l1Letter_any _ _ (by omega) (by omega)).mono ?_; rintro e w' ⟨rfl, rfl⟩) | (go_at_call 26; refine (l1Digit_any _ _ (by omega) (by omega)).mono ?_; rintro e w' ⟨rfl, rfl⟩))
                go_ret
                exact ⟨ret_bool X.out.symm, Below.refl _ _⟩
            · have S := Lib.hid (show synC s[k] = true by simp [synC, hD])
              have T := Lib.hid e0
              clear e46 e0
              go_wp2_with (first | (go_at_call 25; refine (l1Letter_any _ _ (by omega) (by omega)).mono ?_; rintro e w' ⟨rfl, rfl⟩) | (go_at_call 26; refine (l1Digit_any _ _ (by omega) (by omega)).mono ?_; rintro e w' ⟨rfl, rfl⟩))
              go_round
              case rel => exact FIN.out S.out (fun h => absurd h T.out)
              case measure => simp [intOf]; omega
      · have S := Lib.hid (show synC s[k] = true by simp [synC, hL])
        have T := Lib.hid (show headC s[k] = true by simp [headC, hL])
        go_wp2_with (first | (go_at_call 25; refine (l1Letter_any _ _ (by omega) (by omega)).mono ?_; rintro e w' ⟨rfl, rfl⟩) | (go_at_call 26; refine (l1Digit_any _ _ (by omega) (by omega)).mono ?_; rintro e w' ⟨rfl, rfl⟩))
        go_round
        case rel => exact FIN.out S.out (fun _ => T.out)
        case measure => simp [intOf]; omega
    · have ALL := Lib.hid (hf.all (by omega))
      have HH := Lib.hid hh
      clear hf hh
      cases hN : nameL s.data.toList
      · go_wp2_with (first | (go_at_call 12; refine (specIsName _ _ hs0).mono ?_; rintro e w' ⟨rfl, rfl⟩) | (go_at_call 27; refine (specReserved _ _).mono ?_; rintro e w1 ⟨rfl, hb1⟩) | (go_at_call 26; refine (l1Digit_any _ _ (by omega) (by omega)).mono ?_; rintro e w' ⟨rfl, rfl⟩))
        go_ret
        exact ⟨ret_bool (synL_name hN).symm, Below.refl _ _⟩
      · have hpos := nameL_pos hN
        have hb0 := s[0].toNat_lt
        cases hR : reservedB s.toList
        · have REST := Lib.hid (synL_rest hN (by rw [← ByteArray.toList_eq]; exact hR) ALL.out (HH.out (by omega)))
          by_cases e46 : (s[0].toNat : Int) = 46
          · have h46 : ((s[0].toNat : Int) != 46) = false := by simp [e46]
            have E46 := Lib.hid (show ((s[0].toNat : Int) == 46) = true by simp [e46])
            clear e46
            by_cases e1 : s.size = 1
            · have h1 : ((s.size : Int) == 1) = true := by simp [e1]
              have E1 := Lib.hid e1
              clear e1
              go_wp2_with (first | (go_at_call 12; refine (specIsName _ _ hs0).mono ?_; rintro e w' ⟨rfl, rfl⟩) | (go_at_call 27; refine (specReserved _ _).mono ?_; rintro e w1 ⟨rfl, hb1⟩) | (go_at_call 26; refine (l1Digit_any _ _ (by omega) (by omega)).mono ?_; rintro e w' ⟨rfl, rfl⟩))
              go_ret
              exact ⟨by rw [REST.out, dot_one E1.out]; rfl, hb1⟩
            · have h1 : ((s.size : Int) == 1) = false := by simp; omega
              have h2 : 1 < s.size := by omega
              have hbb := s[1].toNat_lt
              go_wp2_with (first | (go_at_call 12; refine (specIsName _ _ hs0).mono ?_; rintro e w' ⟨rfl, rfl⟩) | (go_at_call 27; refine (specReserved _ _).mono ?_; rintro e w1 ⟨rfl, hb1⟩) | (go_at_call 26; refine (l1Digit_any _ _ (by omega) (by omega)).mono ?_; rintro e w' ⟨rfl, rfl⟩))
              go_ret
              exact ⟨by rw [REST.out, dot_two h2 E46.out]; rfl, hb1⟩
          · have h46 : ((s[0].toNat : Int) != 46) = true := by simpa using e46
            have E46 := Lib.hid (show ((s[0].toNat : Int) == 46) = false by simpa using e46)
            clear e46
            go_wp2_with (first | (go_at_call 12; refine (specIsName _ _ hs0).mono ?_; rintro e w' ⟨rfl, rfl⟩) | (go_at_call 27; refine (specReserved _ _).mono ?_; rintro e w1 ⟨rfl, hb1⟩) | (go_at_call 26; refine (l1Digit_any _ _ (by omega) (by omega)).mono ?_; rintro e w' ⟨rfl, rfl⟩))
            go_ret
            exact ⟨by rw [REST.out, dot_not46 hpos E46.out]; rfl, hb1⟩
        · have X := Lib.hid (show synL s.data.toList = false from synL_word (by rw [← ByteArray.toList_eq]; exact hR))
          go_wp2_with (first | (go_at_call 12; refine (specIsName _ _ hs0).mono ?_; rintro e w' ⟨rfl, rfl⟩) | (go_at_call 27; refine (specReserved _ _).mono ?_; rintro e w1 ⟨rfl, hb1⟩) | (go_at_call 26; refine (l1Digit_any _ _ (by omega) (by omega)).mono ?_; rintro e w' ⟨rfl, rfl⟩))
          go_ret
          exact ⟨ret_bool X.out.symm, hb1⟩

theorem wrap32_byte (c : UInt8) : wrap32 (c.toNat : Int) = c.toNat := by
  have := c.toNat_lt
  exact IntWalk.wrap32_in _ (by omega)

set_option maxHeartbeats 1000000 in
theorem implSyn (s : ByteArray) (w : World) (hs : s.size ≤ maxLen) :
    Calls Try.prog 15 #[.string s] w fun e w' => e = .returned (.bool (synL s.data.toList)) ∧ Below w.heap.size w w' := by
  have hs0 := hs
  unfold maxLen at hs
  cases hN : nameL s.data.toList
  · have X := Lib.hid (synL_name hN)
    go_enter Try.func15, Try.ntmps15
    go_wp2_with (first | (go_at_call 13; refine (implIsName _ _ hs0).mono ?_; rintro e w1 ⟨rfl, hb1⟩) | (go_at_call 28; refine (implReserved _ _).mono ?_; rintro e w' ⟨rfl, rfl⟩))
    go_ret
    exact ⟨ret_bool X.out.symm, hb1⟩
  · cases hR : reservedB s.toList
    · have hpos := nameL_pos hN
      have LOW := Lib.hid (nameL_low hN)
      have REST := Lib.hid (fun ha => synL_rest2 hN (by rw [← ByteArray.toList_eq]; exact hR) ha)
      go_enter Try.func15, Try.ntmps15
      go_wp2_with (first | (go_at_call 13; refine (implIsName _ _ hs0).mono ?_; rintro e w1 ⟨rfl, hb1⟩) | (go_at_call 28; refine (implReserved _ _).mono ?_; rintro e w' ⟨rfl, rfl⟩))
      go_loopw [4] (fun _ wr => ∃ k : Nat, wr.heap[w1.heap.size]? = some (.stringIter s k) ∧ Below w.heap.size w wr ∧ k ≤ s.size ∧ Front synC s k) (fun _ wr => s.size - wr.iterPos w1.heap.size)
      case atStart => exact ⟨0, World.iter_heap w1 s 0, hb1.alloc hb1.size _, Nat.zero_le _, Front.zero _ _⟩
      case round =>
        obtain ⟨k, hit, hbw, hk, hf⟩ := hrel
        by_cases hp : k < s.size
        · have hnx : ∀ ty, (Instr.next (.pointer (some ⟨w1.heap.size, 0, none⟩)) true ty).run Try.prog wr = _ := fun ty => Lib.run_next_ascii_at wr w1.heap.size s k ty hit hp (LOW.out k hp)
          have hb2 := Lib.below_iterAt hbw (k := w1.heap.size) hb1.size s (k + 1)
          have hit2 := Lib.iterAt_heap wr w1.heap.size s k (k + 1) hit
          have FIN0 := Lib.hid (show synC s[k] = true → (∃ k_1 : Nat, (wr.iterAt w1.heap.size s (k + 1)).heap[w1.heap.size]? = some (.stringIter s k_1) ∧ Below w.heap.size w (wr.iterAt w1.heap.size s (k + 1)) ∧ k_1 ≤ s.size ∧ Front synC s k_1) from fun h => ⟨k + 1, hit2, hb2, by omega, hf.succ hp h⟩)
          go_wp2_with (first | (go_at_call 29; refine (isLetter_any _ _).mono ?_; rintro e w' ⟨rfl, rfl⟩) | (go_at_call 30; refine (isDigit_any _ _).mono ?_; rintro e w' ⟨rfl, rfl⟩))
          · go_roundw
            case rel => exact FIN0.out (by simp [synC, *])
            case measure => simp only [World.iterPos, hit2, hit]; omega
          · go_roundw
            case rel => exact FIN0.out (by simp [synC, *])
            case measure => simp only [World.iterPos, hit2, hit]; omega
          · go_roundw
            case rel => exact FIN0.out (by simp [synC, *])
            case measure => simp only [World.iterPos, hit2, hit]; omega
          · go_ret
            have hx : ((s[k].toNat : Int) != 46) = true ∧ ((s[k].toNat : Int) != 95) = true := by assumption
            have hl : letterI s[k].toNat = false := by simpa using (by assumption : ¬ letterI s[k].toNat = true)
            have hd : digitI s[k].toNat = false := by simpa using (by assumption : ¬ digitI s[k].toNat = true)
            exact ⟨ret_bool (synL_byte hp (by simp only [synC, hl, hd, Bool.false_or, Bool.or_eq_false_iff, beq_eq_false_iff_ne]; exact ⟨by simpa using hx.1, by simpa using hx.2⟩)).symm, hb2⟩
          · have hx : ((s[k].toNat : Int) != 46) = false ∨ ((s[k].toNat : Int) != 95) = false := by assumption
            go_roundw
            case rel => exact FIN0.out (by rcases hx with h | h <;> simp at h <;> simp [synC, h])
            case measure => simp only [World.iterPos, hit2, hit]; omega
        · have ALL := Lib.hid (hf.all (by omega))
          clear hf
          have hnx : ∀ ty, (Instr.next (.pointer (some ⟨w1.heap.size, 0, none⟩)) true ty).run Try.prog wr = _ := fun ty => Lib.run_next_end_at wr w1.heap.size s k ty hit hp
          go_wp2_with (first | (go_at_call 29; refine (isLetter_any _ _).mono ?_; rintro e w' ⟨rfl, rfl⟩) | (go_at_call 30; refine (isDigit_any _ _).mono ?_; rintro e w' ⟨rfl, rfl⟩))
          · go_ret
            exact ⟨by rw [REST.out ALL.out, head46 hpos ‹_›, dot_one (by omega)]; rfl, hbw⟩
          · go_ret
            have e1 : ((s.size : Int) == 1) = false := by simp; omega
            exact ⟨by rw [REST.out ALL.out, head46 hpos ‹_›, dot_two (by omega) ‹_›]; exact ret_bool (by rw [e1, wrap32_byte]; simp), hbw⟩
          · go_ret
            exact ⟨by rw [REST.out ALL.out, head_not46 hpos ‹_›, dot_not46 hpos ‹_›]; exact ret_bool (by rw [wrap32_byte]; simp), hbw⟩
    · have X := Lib.hid (show synL s.data.toList = false from synL_word (by rw [← ByteArray.toList_eq]; exact hR))
      go_enter Try.func15, Try.ntmps15
      go_wp2_with (first | (go_at_call 13; refine (implIsName _ _ hs0).mono ?_; rintro e w1 ⟨rfl, hb1⟩) | (go_at_call 28; refine (implReserved _ _).mono ?_; rintro e w' ⟨rfl, rfl⟩))
      go_ret
      exact ⟨ret_bool X.out.symm, hb1⟩
end Go.Proofs.Ytogkbfafdlbodaa
