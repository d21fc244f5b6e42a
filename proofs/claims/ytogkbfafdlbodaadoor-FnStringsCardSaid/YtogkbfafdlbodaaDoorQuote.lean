/- Quoted strings: the specification's function, against one plain function. -/
import Derived.Test.YtogkbfafdlbodaaDoorRows
import Derived.Test.YtogkbfafdlbodaaDoorQuoteMath
import Derived.WalkKit
import Derived.WalkSpells
import Derived.WalkLawsBesides
import Derived.Lib.Hide
namespace Go.Proofs.YtogkbfafdlbodaaDoor
open Go.RowKit Go.Lib

set_option maxRecDepth 10000 in
theorem l1Hex_any (n : Nat) (w : World) (h : n < 16) :
    Calls Tryd.prog 41 #[.int .i64 n] w fun e w' => e = .returned (.string ⟨[hexC n].toArray⟩) ∧ w = w' := by
  have hc : n = 0 ∨ n = 1 ∨ n = 2 ∨ n = 3 ∨ n = 4 ∨ n = 5 ∨ n = 6 ∨ n = 7 ∨ n = 8 ∨ n = 9 ∨ n = 10 ∨ n = 11 ∨ n = 12 ∨ n = 13 ∨ n = 14 ∨ n = 15 := by omega
  rcases hc with rfl | rfl | rfl | rfl | rfl | rfl | rfl | rfl | rfl | rfl | rfl | rfl | rfl | rfl | rfl | rfl
  all_goals
    go_enter Tryd.func41, Tryd.ntmps41
    go_wp2
    go_ret
    exact ⟨rfl, rfl⟩

theorem l1Hex_int (x : Int) (w : World) (h0 : 0 ≤ x) (h1 : x < 16) :
    Calls Tryd.prog 41 #[.int .i64 x] w fun e w' => e = .returned (.string ⟨[hexC x.toNat].toArray⟩) ∧ w = w' := by
  have e : x = ((x.toNat : Nat) : Int) := by omega
  rw [e]
  exact l1Hex_any x.toNat w (by omega)

set_option maxHeartbeats 1000000 in
theorem specQuote (s : ByteArray) (w : World) (hs : s.size ≤ 1048576) :
    Calls Tryd.prog 18 #[.string s] w fun e w' => e = .returned (.string ⟨(quoteL s.data.toList).toArray⟩) ∧ w = w' := by
  go_enter Tryd.func18, Tryd.ntmps18
  go_wp2
  go_loop [3, 4] (fun v i => ∃ k : Nat, k ≤ s.size ∧ i = .int .i64 k ∧ v = .string ⟨(qtext s k).toArray⟩) (fun _ i => s.size - (intOf i).toNat)
  case atStart => exact ⟨0, Nat.zero_le _, rfl, by rw [qtext_zero]⟩
  case round =>
    obtain ⟨k, hk, rfl, rfl⟩ := hrel
    have hq := qtext_len s k
    by_cases hlt : k < s.size
    · have hw := wrap64_byte s[k]
      have hb := s[k].toNat_lt
      by_cases e34 : (s[k].toNat : Int) = 34
      · have h34 : ((s[k].toNat : Int) == 34) = true := by simp [e34]
        have X := Lib.hid (qstep_esc hlt (by omega))
        clear e34
        go_wp2
        go_round
        case rel => exact ⟨k + 1, by omega, by go_num, by rw [← X.out]⟩
        case measure => simp [intOf]; omega
      · have h34 : ((s[k].toNat : Int) == 34) = false := by simpa using e34
        by_cases e92 : (s[k].toNat : Int) = 92
        · have h92 : ((s[k].toNat : Int) == 92) = true := by simp [e92]
          have X := Lib.hid (qstep_esc hlt (by omega))
          clear e34 e92
          go_wp2
          go_round
          case rel => exact ⟨k + 1, by omega, by go_num, by rw [← X.out]⟩
          case measure => simp [intOf]; omega
        · have h92 : ((s[k].toNat : Int) == 92) = false := by simpa using e92
          by_cases e10 : (s[k].toNat : Int) = 10
          · have h10 : ((s[k].toNat : Int) == 10) = true := by simp [e10]
            have X := Lib.hid (qstep_nl hlt (by omega))
            clear e34 e92 e10
            go_wp2
            go_round
            case rel => exact ⟨k + 1, by omega, by go_num, by rw [← X.out]⟩
            case measure => simp [intOf]; omega
          · have h10 : ((s[k].toNat : Int) == 10) = false := by simpa using e10
            by_cases hx : s[k].toNat < 32 ∨ 126 < s[k].toNat
            · have X := Lib.hid (qstep_hex hlt (by omega) (by omega) hx)
              have ha := and15_i64 s[k]
              have hdd : (((s[k].toNat : Int) < 32 ∨ 126 < (s[k].toNat : Int))) := by omega
              clear e34 e92 e10 hx
              go_wp2_with (go_at_call 41; refine (l1Hex_int _ _ (by omega) (by omega)).mono ?_; rintro e w' ⟨rfl, rfl⟩)
              all_goals
                go_round
                case rel => exact ⟨k + 1, by omega, by go_num, by rw [← X.out]⟩
                case measure => simp [intOf]; omega
            · have X := Lib.hid (qstep_plain hlt (by omega) (by omega) hx)
              have hd1 : 32 ≤ (s[k].toNat : Int) := by omega
              have hd2 : (s[k].toNat : Int) ≤ 126 := by omega
              clear e34 e92 e10 hx
              go_wp2
              go_round
              case rel => exact ⟨k + 1, by omega, by go_num, by rw [← X.out]⟩
              case measure => simp [intOf]; omega
    · have X := Lib.hid (qstep_end (s := s) (k := k) (by omega))
      go_wp2
      go_ret
      exact ⟨by rw [← X.out]; rfl, rfl⟩
theorem specQuoteB (s : ByteArray) (w : World) (hs : s.size ≤ 1048576) :
    Calls Tryd.prog 18 #[.string s] w fun e w' => e = .returned (.string ⟨(quoteL s.data.toList).toArray⟩) ∧ Below w.heap.size w w' :=
  (specQuote s w hs).mono fun _ _ ⟨he, hw⟩ => ⟨he, by subst hw; exact Below.refl _ _⟩
end Go.Proofs.YtogkbfafdlbodaaDoor
