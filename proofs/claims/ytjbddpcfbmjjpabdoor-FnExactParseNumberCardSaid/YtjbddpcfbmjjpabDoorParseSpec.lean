/- Reading integers: the specification's function, against one plain function. -/
import Derived.Test.YtjbddpcfbmjjpabDoorRows
import Derived.Test.YtjbddpcfbmjjpabDoorParseMath
import Derived.Test.YtjbddpcfbmjjpabDoorFmtSpec
import Derived.WalkKit
import Derived.WalkSpells
import Derived.WalkLawsBesides
import Derived.Lib.Hide
namespace Go.Proofs.YtjbddpcfbmjjpabDoor
open Go.RowKit

/-- What the loop knows at its head: k bytes read, d digits among them, n their value. -/
def ParseAt (s : ByteArray) (k d n : Nat) : Prop := k ≤ s.size ∧ d = (ds s k).length ∧ n = valL (ds s k) ∧ (ds s k).all digB = true ∧ (k = 0 ∨ sgn s.data.toList ≤ k) ∧ d ≤ 10
theorem ParseAt.start (s : ByteArray) : ParseAt s 0 0 0 := ⟨Nat.zero_le _, by rw [ds_zero]; rfl, by rw [ds_zero]; rfl, by rw [ds_zero]; rfl, .inl rfl, by omega⟩
theorem ParseAt.sign {s : ByteArray} {k d n : Nat} (h : ParseAt s k d n) (hk : k = 0) (hs : 0 < s.size) (hn : negB s.data.toList = true) : ParseAt s (k + 1) d n := by
  subst hk
  obtain ⟨_, h1, h2, _, _, h5⟩ := h
  rw [ds_zero] at h1 h2
  have e := ds_one hn
  exact ⟨by omega, by rw [e]; exact h1, by rw [e]; exact h2, by rw [e]; rfl, .inr (sgn_le _), h5⟩
theorem ParseAt.digit {s : ByteArray} {k d n : Nat} (h : ParseAt s k d n) (i0 : k < s.size) (hd : d < 10) (hs : sgn s.data.toList ≤ k) (hc : digB (s[k]'i0) = true) : ParseAt s (k + 1) (d + 1) (n * 10 + ((s[k]'i0).toNat - 48)) := by
  obtain ⟨_, h1, h2, h3, _, _⟩ := h
  have e := ds_succ i0 hs
  exact ⟨by omega, by rw [e, h1]; simp, by rw [e, h2, valL_snoc], by rw [e, List.all_append, h3]; simp [hc], .inr (by omega), by omega⟩
theorem ParseAt.num {s : ByteArray} {k d n : Nat} (h : ParseAt s k d n) : n < 10000000000 ∧ (d ≤ 9 → n ≤ 999999999) := by
  obtain ⟨_, h1, h2, h3, _, h5⟩ := h
  have a := val_bound h3 (k := 10) (by omega)
  refine ⟨by omega, fun h9 => ?_⟩
  have b := val_bound h3 (k := 9) (by omega)
  omega
theorem ParseAt.size {s : ByteArray} {k d n : Nat} (h : ParseAt s k d n) : d ≤ k ∧ (d = 10 → 10 ≤ (bodyL s.data.toList).length) := by
  obtain ⟨h0, h1, _, _, _, _⟩ := h
  rw [ds_len h0] at h1
  rw [body_len]
  omega
theorem ParseAt.last {s : ByteArray} {k d n : Nat} (h : ParseAt s k d n) (hk : s.size ≤ k) : (bodyL s.data.toList).all digB = true ∧ (bodyL s.data.toList).length = d ∧ valL (bodyL s.data.toList) = n := by
  obtain ⟨_, h1, h2, h3, _, _⟩ := h
  rw [ds_all hk] at h1 h2 h3
  exact ⟨h3, h1.symm, h2.symm⟩
theorem sgn_no {l : List UInt8} (h : negB l = false) : sgn l = 0 := by unfold sgn; rw [h]; rfl
theorem ret_ib {a : Int} {b : Bool} {p : Int × Bool} (h : p = (a, b)) : Ending.returned (.tuple #[.int .i64 a, .bool b]) = .returned (.tuple #[.int .i64 p.1, .bool p.2]) := by rw [h]

theorem int_eq {a b : Int} (h : a = b) : Value.int .i64 a = Value.int .i64 b := by rw [h]
theorem wrap64_byteP (c : UInt8) (h : 48 ≤ c.toNat) : wrap64 ((c.toNat : Int) - 48) = (c.toNat : Int) - 48 := by
  have := c.toNat_lt
  exact IntWalk.wrap64_in _ (by omega)
set_option maxHeartbeats 2000000 in
theorem specParse (s : ByteArray) (w : World) (hs : s.size ≤ maxLen) :
    Calls Tryd.prog 16 #[.string s] w fun e w' => e = .returned (.tuple #[.int .i64 (pVal s.data.toList).1, .bool (pVal s.data.toList).2]) ∧ w = w' := by
  unfold maxLen at hs
  go_enter Tryd.func16, Tryd.ntmps16
  go_wp2
  go_loop [4, 5, 6] (fun nv dv iv => ∃ k d n : Nat, iv = .int .i64 k ∧ dv = .int .i64 d ∧ nv = .int .i64 n ∧ ParseAt s k d n) (fun _ _ iv => s.size - (intOf iv).toNat)
  case atStart => exact ⟨0, 0, 0, rfl, rfl, rfl, ParseAt.start s⟩
  case round =>
    obtain ⟨k, d, n, rfl, rfl, rfl, hp⟩ := hrel
    have hk := hp.1
    have hd10 := hp.2.2.2.2.2
    have hnum := hp.num.1
    have hdk := hp.size.1
    by_cases hgo : k < s.size ∧ d < 10
    · have i0 : k < s.size := hgo.1
      have hd : d < 10 := hgo.2
      have hn9 := hp.num.2 (by omega)
      have hc255 := (s[k]'i0).toNat_lt
      clear hgo
      by_cases hsign : k = 0 ∧ negB s.data.toList = true
      · have R := Lib.hid (hp.sign hsign.1 (by omega) hsign.2)
        have h0 : ((k : Int) == 0) = true := by simp [hsign.1]
        have h45 : (((s[k]'i0).toNat : Int) == 45) = true := by
          obtain ⟨rfl, h2⟩ := hsign
          rw [negB_at i0] at h2
          simpa using h2
        have P := Lib.hid hp
        clear hsign hp
        go_wp2
        go_round
        case rel => exact ⟨k + 1, d, n, by go_num, rfl, rfl, R.out⟩
        case measure => simp [intOf]; omega
      · have hsg : sgn s.data.toList ≤ k := by
          by_cases hk0 : k = 0
          · have : negB s.data.toList = false := by
              cases h : negB s.data.toList
              · rfl
              · exact absurd ⟨hk0, h⟩ hsign
            rw [sgn_no this]; omega
          · have := sgn_le s.data.toList; omega
        have hfirst : (((k : Int) == 0) = true ∧ (((s[k]'i0).toNat : Int) == 45) = false) ∨ ((k : Int) == 0) = false := by
          by_cases hk0 : k = 0
          · left
            refine ⟨by simp [hk0], ?_⟩
            subst hk0
            cases h : negB s.data.toList
            · rw [negB_at i0] at h; simpa using h
            · exact absurd ⟨rfl, h⟩ hsign
          · right; simp; omega
        have SG := Lib.hid hsg
        clear hsign hsg
        cases hdig : digB (s[k]'i0)
        · have X := Lib.hid (pNo_byte (body_byte i0 SG.out hdig))
          have hbad : ((s[k]'i0).toNat : Int) < 48 ∨ 57 < ((s[k]'i0).toNat : Int) := by
            have := digB_iff (c := s[k]'i0)
            rw [hdig] at this
            have h2 : ¬ (48 ≤ (s[k]'i0).toNat ∧ (s[k]'i0).toNat ≤ 57) := fun h => by simpa using this.2 h
            omega
          have HD := Lib.hid hdig
          have P := Lib.hid hp
          clear hdig hp
          rcases hbad with hbad | hbad
          all_goals
            rcases hfirst with ⟨f1, f2⟩ | f1
            all_goals
              go_wp2
              go_ret2
              exact ⟨ret_ib X.out, rfl⟩
        · have hlo := (digB_iff.1 hdig).1
          have hhi := (digB_iff.1 hdig).2
          have R := Lib.hid (hp.digit i0 hd SG.out hdig)
          have HD := Lib.hid hdig
          have P := Lib.hid hp
          clear hdig hp
          have hw := wrap64_byteP (s[k]'i0) hlo
          rcases hfirst with ⟨f1, f2⟩ | f1
          all_goals
            go_wp2
            go_round
            case rel => exact ⟨k + 1, d + 1, n * 10 + ((s[k]'i0).toNat - 48), by go_num, by go_num, int_eq (by omega), R.out⟩
            case measure => simp [intOf]; omega
    · by_cases h10 : d = 10
      · have X := Lib.hid (pNo_long (hp.size.2 h10))
        have d1 : (10 : Int) ≤ (d : Int) := by omega
        have P := Lib.hid hp
        clear hp hgo h10
        go_wp2
        all_goals
          go_ret2
          exact ⟨ret_ib X.out, rfl⟩
      · have hend : s.size ≤ k := by omega
        obtain ⟨l1, l2, l3⟩ := hp.last hend
        have P := Lib.hid hp
        have L1 := Lib.hid l1
        have L2 := Lib.hid l2
        have L3 := Lib.hid l3
        have hn9 := P.out.num.2 (by omega)
        clear hp hgo l1 l2 l3
        by_cases hz : d < 1
        · have X := Lib.hid (pNo_short (l := s.data.toList) (by have := L2.out; omega))
          go_wp2
          all_goals
            go_ret2
            exact ⟨ret_ib X.out, rfl⟩
        · have i0 : 0 < s.size := by omega
          have hneg := negB_at i0
          have HN := Lib.hid hneg
          clear hneg
          have hd9 : d ≤ 9 := by omega
          cases hn : negB s.data.toList
          · have h45 : (((s[0]'i0).toNat : Int) == 45) = false := by
              have h2 := HN.out
              rw [hn] at h2
              simpa using h2.symm
            have hv : numL s.data.toList = n := by unfold numL; rw [hn, L3.out]; rfl
            have V := Lib.hid hv
            have N := Lib.hid hn
            clear hv hn
            cases he : (Lib.itoa (n : Int) == s.toList)
            · have X := Lib.hid (pNo_text (l := s.data.toList) (by rw [V.out]; intro h; rw [ByteArray.toList_eq, h] at he; simp at he))
              go_wp2_with (go_at_call 13; refine (specFmt _ _ (by omega) (by omega)).mono ?_; rintro e w' ⟨rfl, rfl⟩)
              go_ret2
              exact ⟨ret_ib X.out, rfl⟩
            · have X := Lib.hid (pYes L1.out (by have := L2.out; omega) (by rw [V.out]; rw [ByteArray.toList_eq] at he; simpa using he))
              go_wp2_with (go_at_call 13; refine (specFmt _ _ (by omega) (by omega)).mono ?_; rintro e w' ⟨rfl, rfl⟩)
              go_ret2
              exact ⟨ret_ib (by rw [X.out, V.out]), rfl⟩
          · have h45 : (((s[0]'i0).toNat : Int) == 45) = true := by
              have h2 := HN.out
              rw [hn] at h2
              simpa using h2.symm
            have hv : numL s.data.toList = -(n : Int) := by unfold numL; rw [hn, L3.out]; rfl
            have V := Lib.hid hv
            have N := Lib.hid hn
            clear hv hn
            cases he : (Lib.itoa (-(n : Int)) == s.toList)
            · have X := Lib.hid (pNo_text (l := s.data.toList) (by rw [V.out]; intro h; rw [ByteArray.toList_eq, h] at he; simp at he))
              go_wp2_with (go_at_call 13; refine (specFmt _ _ (by omega) (by omega)).mono ?_; rintro e w' ⟨rfl, rfl⟩)
              go_ret2
              exact ⟨ret_ib X.out, rfl⟩
            · have X := Lib.hid (pYes L1.out (by have := L2.out; omega) (by rw [V.out]; rw [ByteArray.toList_eq] at he; simpa using he))
              go_wp2_with (go_at_call 13; refine (specFmt _ _ (by omega) (by omega)).mono ?_; rintro e w' ⟨rfl, rfl⟩)
              go_ret2
              exact ⟨ret_ib (by rw [X.out, V.out]), rfl⟩
end Go.Proofs.YtjbddpcfbmjjpabDoor
