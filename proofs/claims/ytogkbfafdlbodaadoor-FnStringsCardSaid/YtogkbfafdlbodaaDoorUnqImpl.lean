/- Reading quoted strings: the program's function, against one plain function. -/
import Derived.Test.YtogkbfafdlbodaaDoorRows
import Derived.Test.YtogkbfafdlbodaaDoorUnqMath
import Derived.Test.YtogkbfafdlbodaaDoorQuoteImpl
import Derived.Test.YtogkbfafdlbodaaDoorBuilder
import Derived.WalkKit
import Derived.WalkSpells
import Derived.WalkLawsBesides
import Derived.Lib.Hide
import Derived.Lib.IndexBytes
import Derived.Deep.QuietTactic
import Derived.BigQuiet
namespace Go.Proofs.YtogkbfafdlbodaaDoor
open Go.RowKit Go.Lib

theorem hexAnd_all : ∀ n : Fin 256, bits BinOp.and IntKind.i64 (Lib.indexByte [48, 49, 50, 51, 52, 53, 54, 55, 56, 57, 97, 98, 99, 100, 101, 102] n.val.toUInt8) 15 = ((nibF 15 n.val.toUInt8 : Nat) : Int) := by decide +kernel
theorem hexAnd (c : UInt8) : bits BinOp.and IntKind.i64 (Lib.indexByte [48, 49, 50, 51, 52, 53, 54, 55, 56, 57, 97, 98, 99, 100, 101, 102] c) 15 = ((nibF 15 c : Nat) : Int) := by
  have h := hexAnd_all ⟨c.toNat, c.toNat_lt⟩
  have e : c.toNat.toUInt8 = c := by simp
  rw [show ((⟨c.toNat, c.toNat_lt⟩ : Fin 256).val) = c.toNat from rfl, e] at h
  exact h

theorem hexValue_any (c : UInt8) (w : World) : Calls Tryd.prog 52 #[.int .u8 c.toNat] w fun e w' => e = .returned (.int .u8 (nibF 15 c)) ∧ w' = w := by
  have hn := nibF_lt 15 (by omega) c
  have hx := hexAnd c
  go_enter Tryd.func52, Tryd.ntmps52
  go_wp2_with (go_at_call 61; refine (Tryd.strings_IndexByte _ _ _).mono ?_; rintro e w' ⟨rfl, rfl⟩)
  go_ret
  exact ⟨rfl, rfl⟩

theorem getS (s : ByteArray) (j : Nat) (h : j < s.size) : s.data.toList.getD j 0 = s[j] := by
  have h' : j < s.data.toList.length := h
  rw [List.getD_eq_getElem?_getD, List.getElem?_eq_getElem h']; rfl
theorem first_other {s : ByteArray} (i0 : 0 < s.size) (h : (s[0]'i0).toNat ≠ 92 ∨ s.size ≤ 1) : stepW s.data.toList = 1 ∧ stepB (nibF 15) s.data.toList = s[0]'i0 := by
  have hc : ((s.data.toList.getD 0 0).toNat ≠ 92 ∨ s.data.toList.length ≤ 1) := by rw [getS s 0 i0, size_list]; exact h
  exact ⟨by rw [stepW, if_pos hc], by rw [stepB, if_pos hc, getS s 0 i0]⟩
theorem first_nl {s : ByteArray} (i0 : 0 < s.size) (i1 : 1 < s.size) (h : (s[0]'i0).toNat = 92) (h1 : (s[1]'i1).toNat = 110) : stepW s.data.toList = 2 ∧ stepB (nibF 15) s.data.toList = 10 := by
  have hc : ¬ ((s.data.toList.getD 0 0).toNat ≠ 92 ∨ s.data.toList.length ≤ 1) := by rw [getS s 0 i0, size_list]; omega
  have hd : (s.data.toList.getD 1 0).toNat = 110 := by rw [getS s 1 i1]; exact h1
  exact ⟨by rw [stepW, if_neg hc, if_pos hd], by rw [stepB, if_neg hc, if_pos hd]⟩
theorem first_hex {s : ByteArray} (i0 : 0 < s.size) (i1 : 1 < s.size) (i2 : 2 < s.size) (i3 : 3 < s.size) (h : (s[0]'i0).toNat = 92) (h1 : (s[1]'i1).toNat = 120) : stepW s.data.toList = 4 ∧ stepB (nibF 15) s.data.toList = (nibF 15 (s[2]'i2) * 16 + nibF 15 (s[3]'i3)).toUInt8 := by
  have hc : ¬ ((s.data.toList.getD 0 0).toNat ≠ 92 ∨ s.data.toList.length ≤ 1) := by rw [getS s 0 i0, size_list]; omega
  have hd : ¬ (s.data.toList.getD 1 0).toNat = 110 := by rw [getS s 1 i1]; omega
  have he : (s.data.toList.getD 1 0).toNat = 120 ∧ 4 ≤ s.data.toList.length := by rw [getS s 1 i1, size_list]; omega
  exact ⟨by rw [stepW, if_neg hc, if_neg hd, if_pos he], by rw [stepB, if_neg hc, if_neg hd, if_pos he, getS s 2 i2, getS s 3 i3]⟩
theorem first_esc {s : ByteArray} (i0 : 0 < s.size) (i1 : 1 < s.size) (h : (s[0]'i0).toNat = 92) (h1 : (s[1]'i1).toNat ≠ 110) (h2 : (s[1]'i1).toNat ≠ 120 ∨ s.size < 4) : stepW s.data.toList = 2 ∧ stepB (nibF 15) s.data.toList = s[1]'i1 := by
  have hc : ¬ ((s.data.toList.getD 0 0).toNat ≠ 92 ∨ s.data.toList.length ≤ 1) := by rw [getS s 0 i0, size_list]; omega
  have hd : ¬ (s.data.toList.getD 1 0).toNat = 110 := by rw [getS s 1 i1]; exact h1
  have he : ¬ ((s.data.toList.getD 1 0).toNat = 120 ∧ 4 ≤ s.data.toList.length) := by rw [getS s 1 i1, size_list]; omega
  exact ⟨by rw [stepW, if_neg hc, if_neg hd, if_neg he], by rw [stepB, if_neg hc, if_neg hd, if_neg he, getS s 1 i1]⟩

/-- The pair that firstQuotedByte hands back. -/
def firstPair (s : ByteArray) : Value := .tuple #[.int .u8 (stepB (nibF 15) s.data.toList).toNat, .int .i64 (stepW s.data.toList)]
theorem ret_pair {s : ByteArray} {u : UInt8} {k : Nat} {x : Int} {y : Int} (h : stepW s.data.toList = k ∧ stepB (nibF 15) s.data.toList = u) (hx : x = u.toNat) (hy : y = k) : Ending.returned (.tuple #[.int .u8 x, .int .i64 y]) = .returned (firstPair s) := by
  subst hx; subst hy; unfold firstPair; rw [h.1, h.2]
theorem shl4_all : ∀ a b : Fin 16, bits BinOp.or IntKind.u8 ((a.val : Int) * 16) (b.val : Int) = (((a.val * 16 + b.val) : Nat) : Int) := by decide +kernel

set_option maxHeartbeats 1000000 in
theorem firstQ (s : ByteArray) (w : World) (i0 : 0 < s.size) (hs : s.size ≤ 1048576) :
    Calls Tryd.prog 45 #[.string s] w fun e w' => e = .returned (firstPair s) ∧ ∃ n, w' = w.drewN n := by
  by_cases hoth : (s[0]'i0).toNat ≠ 92 ∨ s.size ≤ 1
  · have X := Lib.hid (first_other i0 hoth)
    by_cases e : (s[0]'i0).toNat = 92
    · have h92 : (((s[0]'i0).toNat : Int) != 92) = false := by simp [e]
      have h1 : ((s.size : Int) == 1) = true := by simp; omega
      clear e hoth
      go_enter Tryd.func45, Tryd.ntmps45
      go_wp2
      go_ret2
      exact ⟨ret_pair X.out rfl rfl, 0, rfl⟩
    · have h92 : (((s[0]'i0).toNat : Int) != 92) = true := by simp; omega
      clear e hoth
      go_enter Tryd.func45, Tryd.ntmps45
      go_wp2
      go_ret2
      exact ⟨ret_pair X.out rfl rfl, 0, rfl⟩
  · have e : (s[0]'i0).toNat = 92 := by omega
    have i1 : 1 < s.size := by omega
    have h92 : (((s[0]'i0).toNat : Int) != 92) = false := by simp [e]
    have h1 : ((s.size : Int) == 1) = false := by simp; omega
    clear hoth
    by_cases e1 : (s[1]'i1).toNat = 110
    · have X := Lib.hid (first_nl i0 i1 e e1)
      have h110 : (((s[1]'i1).toNat : Int) == 110) = true := by simp [e1]
      clear e e1
      go_enter Tryd.func45, Tryd.ntmps45
      go_wp2
      go_ret2
      exact ⟨ret_pair X.out rfl rfl, 0, rfl⟩
    · have h110 : (((s[1]'i1).toNat : Int) == 110) = false := by simp; omega
      by_cases e2 : (s[1]'i1).toNat ≠ 120
      · have X := Lib.hid (first_esc i0 i1 e e1 (.inl e2))
        have h120 : (((s[1]'i1).toNat : Int) == 120) = false := by simp; omega
        clear e e1 e2
        go_enter Tryd.func45, Tryd.ntmps45
        go_wp2
        go_ret2
        exact ⟨ret_pair X.out rfl rfl, 0, rfl⟩
      · have e3 : (s[1]'i1).toNat = 120 := by omega
        have h120 : (((s[1]'i1).toNat : Int) == 120) = true := by simp [e3]
        by_cases h4 : s.size < 4
        · have X := Lib.hid (first_esc i0 i1 e e1 (.inr h4))
          clear e e1 e2 e3
          go_enter Tryd.func45, Tryd.ntmps45
          go_wp2
          go_ret2
          exact ⟨ret_pair X.out rfl rfl, 0, rfl⟩
        · have i2 : 2 < s.size := by omega
          have i3 : 3 < s.size := by omega
          have X := Lib.hid (first_hex i0 i1 i2 i3 e e3)
          have na := nibF_lt 15 (by omega) (s[2]'i2)
          have nb := nibF_lt 15 (by omega) (s[3]'i3)
          have c2 : (2 : Int) < (s.size : Int) := by omega
          have c3 : (3 : Int) < (s.size : Int) := by omega
          clear e e1 e2 e3
          go_enter Tryd.func45, Tryd.ntmps45
          go_wp2
          go_quiet ((go_at_call 52; exact Calls.quiet_of_same (hexValue_any _ _)))
          go_wp2
          go_ret2
          have hsh := shl4_all ⟨_, na⟩ ⟨_, nb⟩
          have hu : (nibF 15 (s[2]'i2) * 16 + nibF 15 (s[3]'i3)).toUInt8.toNat = nibF 15 (s[2]'i2) * 16 + nibF 15 (s[3]'i3) := by
            have : (nibF 15 (s[2]'i2) * 16 + nibF 15 (s[3]'i3)) % 256 = nibF 15 (s[2]'i2) * 16 + nibF 15 (s[3]'i3) := Nat.mod_eq_of_lt (by omega)
            simpa using this
          exact ⟨ret_pair X.out (by rw [hu]; exact hsh) rfl, nq, rfl⟩

theorem BW.drewN {B b : Nat} {l : List UInt8} {w : World} (h : BW B b l w) (n : Nat) : BW B b l (w.drewN n) := h
def strSize : Value → Nat
  | .string b => b.size
  | _ => 0
/-- What the loop knows at its head: the rest of the text, and what has been written. -/
def ResAt (s : ByteArray) (B : Nat) (v : Value) (w : World) : Prop := ∃ (c : ByteArray) (acc : List UInt8), v = .string c ∧ c.size ≤ s.size ∧ acc.length + c.size ≤ s.size ∧ acc ++ unescF (nibF 15) c.data.toList.length c.data.toList = unescF (nibF 15) s.data.toList.length s.data.toList ∧ BW B B acc w
theorem res_step {c : ByteArray} (h : 0 < c.size) : unescF (nibF 15) c.data.toList.length c.data.toList = stepB (nibF 15) c.data.toList :: unescF (nibF 15) (c.extract (stepW c.data.toList) c.size).data.toList.length (c.extract (stepW c.data.toList) c.size).data.toList := by
  have hl : c.data.toList.length = c.size := rfl
  obtain ⟨f, hf⟩ : ∃ f, c.data.toList.length = f + 1 := ⟨c.data.toList.length - 1, by omega⟩
  have h1 := stepW_pos c.data.toList
  rw [hf, unescF, if_neg (by omega), Lib.extract_to_end]
  congr 1
  exact unescF_fuel _ _ _ _ (by rw [List.length_drop]; omega) (Nat.le_refl _)

set_option maxHeartbeats 1000000 in
theorem implRes (s : ByteArray) (w : World) (hs : s.size ≤ 1048576) :
    Calls Tryd.prog 34 #[.string s] w fun e w' => e = .returned (.string ⟨(unescF (nibF 15) s.data.toList.length s.data.toList).toArray⟩) ∧ Below w.heap.size w w' := by
  go_enter Tryd.func34, Tryd.ntmps34
  go_wp2
  go_loopw [0] (fun v wr => ResAt s w.heap.size v wr ∧ Below w.heap.size w wr) (fun v _ => strSize v)
  case atStart => exact ⟨⟨s, [], rfl, Nat.le_refl _, by simp, rfl, BW.fresh w⟩, (Below.refl _ w).alloc (Nat.le_refl _) _⟩
  case round =>
    obtain ⟨⟨c, acc, rfl, hc, hac, hT, hB⟩, hbw⟩ := hrel
    by_cases hp : 0 < c.size
    · have hw1 := stepW_pos c.data.toList
      have hw2 : stepW c.data.toList ≤ c.size := stepW_le c.data.toList hp
      have R := Lib.hid (res_step hp)
      have T := Lib.hid hT
      clear hT
      go_wp2_with fail
      refine (firstQ c _ hp (by omega)).mono ?_
      rintro e w1 ⟨he, n, rfl⟩
      unfold firstPair at he
      subst he
      go_wp2_with fail
      refine (wbyte _ _ acc _ (stepB (nibF 15) c.data.toList) rfl _ (hB.drewN n) (by omega) hbw.size).mono ?_
      rintro e w2 ⟨rfl, h2, b2⟩
      have hbw2 := (below_drewN hbw n).trans b2
      go_wp2_with fail
      go_roundw
      case rel => exact ⟨⟨c.extract (stepW c.data.toList) c.size, acc ++ [stepB (nibF 15) c.data.toList], rfl, by simp; omega, by simp; omega, by rw [← T.out, R.out]; simp, h2⟩, hbw2⟩
      case measure => simp [strSize]; omega
    · have hz : c.data.toList.length = 0 := by have hl : c.data.toList.length = c.size := rfl
                                               omega
      have T := Lib.hid (show acc = unescF (nibF 15) s.data.toList.length s.data.toList by rw [← hT, hz]; simp [unescF])
      clear hT hz
      go_wp2_with fail
      refine (wtext _ _ _ _ hB hbw.size).mono ?_
      rintro e w2 ⟨rfl, b2⟩
      go_wp2_with fail
      go_ret
      exact ⟨by rw [← T.out]; rfl, hbw.trans b2⟩

set_option maxHeartbeats 1000000 in
theorem implUnq (s : ByteArray) (w : World) (hs : s.size ≤ 1048576) :
    Calls Tryd.prog 11 #[.string s] w fun e w' => e = .returned (.tuple #[.string (unqT (nibF 15) s), .bool (unqOk (nibF 15) s)]) ∧ Below w.heap.size w w' := by
  by_cases h2 : s.size < 2
  · have HOK := Lib.hid (unqOk_short (nib := nibF 15) h2)
    have T := Lib.hid (show unqT (nibF 15) s = ⟨#[]⟩ by unfold unqT; rw [if_neg (by simp [HOK.out])])
    go_enter Tryd.func11, Tryd.ntmps11
    go_wp2
    go_ret2
    exact ⟨by rw [T.out, HOK.out]; rfl, Below.refl _ _⟩
  · have hcur : (s.extract 1 (s.size - 1)).data.toList = cur s 1 := by
      rw [Lib.extract_data]; unfold cur
      rw [List.drop_take]
    have hu : unescF (nibF 15) (s.extract 1 (s.size - 1)).data.toList.length (s.extract 1 (s.size - 1)).data.toList = unesc (nibF 15) s := by rw [hcur]; rfl
    have U := Lib.hid hu
    have hul : (unesc (nibF 15) s).length ≤ s.size := by
      refine Nat.le_trans (unescF_len _ _ _) ?_
      rw [cur_len]; omega
    have hql : (⟨(unesc (nibF 15) s).toArray⟩ : ByteArray).size ≤ 1048576 := by show (unesc (nibF 15) s).toArray.size ≤ _; simp; omega
    have hez : (s.extract 1 (s.size - 1)).size ≤ 1048576 := by simp; omega
    clear hcur hu
    cases hok : unqOk (nibF 15) s
    · have T := Lib.hid (show unqT (nibF 15) s = ⟨#[]⟩ by unfold unqT; rw [if_neg (by simp [hok])])
      have hne : (quoteL (unesc (nibF 15) s) == s.toList) = false := by rw [ByteArray.toList_eq]; exact hok
      clear hok
      go_enter Tryd.func11, Tryd.ntmps11
      go_wp2_with fail
      refine (implRes _ _ hez).mono ?_
      rintro e w1 ⟨he, b1⟩
      rw [U.out] at he
      subst he
      go_wp2_with fail
      refine (implQuote _ _ hql).mono ?_
      rintro e w2 ⟨rfl, b2⟩
      go_wp2
      go_ret2
      exact ⟨by rw [T.out]; rfl, b1.trans (b2.mono b1.size)⟩
    · have T := Lib.hid (show unqT (nibF 15) s = ⟨(unesc (nibF 15) s).toArray⟩ by unfold unqT; rw [if_pos hok])
      have hne : (quoteL (unesc (nibF 15) s) == s.toList) = true := by rw [ByteArray.toList_eq]; exact hok
      clear hok
      go_enter Tryd.func11, Tryd.ntmps11
      go_wp2_with fail
      refine (implRes _ _ hez).mono ?_
      rintro e w1 ⟨he, b1⟩
      rw [U.out] at he
      subst he
      go_wp2_with fail
      refine (implQuote _ _ hql).mono ?_
      rintro e w2 ⟨rfl, b2⟩
      go_wp2
      go_ret2
      exact ⟨by rw [T.out]; rfl, b1.trans (b2.mono b1.size)⟩
theorem implUnq0 (s : ByteArray) (w : World) (hs : s.size ≤ 1048576) :
    Calls Tryd.prog 11 #[.string s] w fun e w' => e = .returned (.tuple #[.string (unqT (nibF 0) s), .bool (unqOk (nibF 0) s)]) ∧ Below w.heap.size w w' := by
  rw [unqT_same (nibF_hex 0) (nibF_hex 15) s, unqOk_same (nibF_hex 0) (nibF_hex 15) s]
  exact implUnq s w hs
end Go.Proofs.YtogkbfafdlbodaaDoor
