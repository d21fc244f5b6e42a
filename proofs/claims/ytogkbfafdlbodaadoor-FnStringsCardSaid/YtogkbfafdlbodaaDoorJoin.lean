/- Lists of strings in one text: both functions, against one plain function. -/
import Derived.Test.YtogkbfafdlbodaaDoorRows
import Derived.Test.YtogkbfafdlbodaaDoorStrs
import Derived.Test.YtogkbfafdlbodaaDoorFmtSpec
import Derived.Test.YtogkbfafdlbodaaDoorFmtImpl
import Derived.Test.YtogkbfafdlbodaaDoorLaid
import Derived.Test.YtogkbfafdlbodaaDoorBuilder
import Derived.WalkKit
import Derived.WalkSpells
import Derived.WalkLawsBesides
import Derived.Lib.Hide
namespace Go.Proofs.YtogkbfafdlbodaaDoor
open Go.RowKit

/-- One field: its length, a colon, its bytes. -/
def fieldL (x : ByteArray) : List UInt8 := Lib.itoa x.size ++ 58 :: x.data.toList
def joinF (f : Nat → ByteArray) : Nat → List UInt8
  | 0 => []
  | n + 1 => joinF f n ++ fieldL (f n)
theorem itoa_len (n : Nat) (h : n ≤ 1048576) : (Lib.itoa (n : Int)).length ≤ 21 := Lib.itoa_length_le _ (by omega) (by omega)
theorem joinF_len (f : Nat → ByteArray) (hf : ∀ i, (f i).size ≤ 1048576) : ∀ n, (joinF f n).length ≤ 22 * n + sumF f n := by
  intro n
  induction n with
  | zero => simp [joinF]
  | succ n ih =>
    have h1 := itoa_len (f n).size (hf n)
    have h2 : (f n).data.toList.length = (f n).size := rfl
    simp only [joinF, sumF, fieldL, List.length_append, List.length_cons, h2]
    omega
theorem joinF_cong (f g : Nat → ByteArray) : ∀ n, (∀ i, i < n → f i = g i) → joinF f n = joinF g n := by
  intro n
  induction n with
  | zero => intro _; rfl
  | succ n ih => intro h; simp only [joinF]; rw [ih (fun i hi => h i (by omega)), h n (by omega)]
theorem bytes_self (x : ByteArray) : x = ⟨x.data.toList.toArray⟩ := by apply ByteArray.ext; simp
theorem join_step (f : Nat → ByteArray) (k : Nat) : (⟨(joinF f k).toArray⟩ : ByteArray) ++ ⟨(Lib.itoa ((f k).size : Int)).toArray⟩ ++ ⟨#[58]⟩ ++ f k = ⟨(joinF f (k + 1)).toArray⟩ := by
  rw [show (#[58] : Array UInt8) = [58].toArray from rfl, bytes_cat, bytes_cat]
  conv => lhs; rw [bytes_self (f k)]
  rw [bytes_cat]; simp only [joinF, fieldL]; simp

set_option maxHeartbeats 1000000 in
theorem specJoin (a : Option Addr) (n cap : Nat) (f : Nat → ByteArray) (B : Nat) (w : World) (hs : StrsAt B w a n f) (hn : n ≤ 1048576) (hf : ∀ i, (f i).size ≤ 1048576) (hsum : sumF f n ≤ 1048576) :
    Calls Tryd.prog 19 #[.slice a n cap] w fun e w' => e = .returned (.string ⟨(joinF f n).toArray⟩) ∧ Drawn w w' := by
  have S := Lib.hid hs
  have HF := Lib.hid hf
  clear hs hf
  go_enter Tryd.func19, Tryd.ntmps19
  go_wp2
  go_loopw [3, 4] (fun v i wr => ∃ k : Nat, k ≤ n ∧ i = .int .i64 k ∧ v = .string ⟨(joinF f k).toArray⟩ ∧ Drawn w wr) (fun _ i _ => n - (intOf i).toNat)
  case atStart => exact ⟨0, Nat.zero_le _, rfl, rfl, Drawn.refl w⟩
  case round =>
    obtain ⟨k, hk, rfl, rfl, hD⟩ := hrel
    have hl := joinF_len f HF.out k
    have hsk := sumF_mono f hk
    by_cases hlt : k < n
    · obtain ⟨b, off, rfl, _, hc⟩ := (S.out.drawn hD) k hlt
      have hlt' : (k : Int) < (n : Int) := by omega
      have hz := HF.out k
      have hil := itoa_len (f k).size hz
      have X := Lib.hid (join_step f k)
      go_wp2
      go_quiet ((go_at_call 21; exact Calls.quiet_of_same ((specFmt ((f k).size : Int) _ (by omega) (by omega)).mono fun _ _ h => ⟨h.1, h.2.symm⟩)))
      go_wp2
      go_roundw
      case rel => exact ⟨k + 1, by omega, by go_num, by rw [← X.out], hD.more nq⟩
      case measure => simp [intOf]; omega
    · obtain rfl : k = n := by omega
      go_wp2
      go_ret
      exact ⟨rfl, hD⟩

set_option maxHeartbeats 1000000 in
theorem implJoin (a : Option Addr) (n cap : Nat) (f : Nat → ByteArray) (w : World) (hs : StrsAt w.heap.size w a n f) (hn : n ≤ 1048576) (hf : ∀ i, (f i).size ≤ 1048576) (hsum : sumF f n ≤ 1048576)
    (tab : Lib.TabIs Tryd.prog w "internal/strconv.uint64pow10" .u64 Lib.pow10Tab) :
    Calls Tryd.prog 13 #[.slice a n cap] w fun e w' => e = .returned (.string ⟨(joinF f n).toArray⟩) ∧ Below w.heap.size w w' := by
  have S := Lib.hid hs
  have HF := Lib.hid hf
  have T := Lib.hid tab
  clear hs hf tab
  go_enter Tryd.func13, Tryd.ntmps13
  go_wp2
  go_loopw [8] (fun i wr => ∃ k : Nat, k ≤ n ∧ i = .int .i64 k ∧ BW w.heap.size w.heap.size (joinF f k) wr ∧ Below w.heap.size w wr) (fun i _ => n - (RowKit.intOf i).toNat)
  case atStart => exact ⟨0, Nat.zero_le _, rfl, BW.fresh w, (Below.refl _ w).alloc (Nat.le_refl _) _⟩
  case round =>
    obtain ⟨k, hk, rfl, hB, hb⟩ := hrel
    have hl := joinF_len f HF.out k
    have hsk := sumF_mono f hk
    have hsz := hb.size
    have B0 := Lib.hid hb
    have W0 := Lib.hid hB
    clear hb hB
    by_cases hlt : k < n
    · obtain ⟨b, off, rfl, _, hc⟩ := (S.out.below B0.out) k hlt
      have hz := HF.out k
      have hil := itoa_len (f k).size hz
      have X := Lib.hid (show joinF f k ++ Lib.itoa ((f k).size : Int) ++ [58] ++ (f k).data.toList = joinF f (k + 1) by simp only [joinF, fieldL]; simp)
      go_wp2_with fail
      refine (implFmt ((f k).size : Int) _ (by omega) (by omega) (tab_below T.out B0.out)).mono ?_
      rintro e w1 ⟨rfl, b1⟩
      have W1 := Lib.hid (W0.out.below b1)
      have B1 := Lib.hid (B0.out.trans (b1.mono hsz))
      clear b1
      go_wp2_with fail
      refine (wstr _ _ _ _ _ W1.out (by show _ + (Lib.itoa ((f k).size : Int)).toArray.size ≤ _; simp; omega) B1.out.size).mono ?_
      rintro e w2 ⟨rfl, h2, b2⟩
      have W2 := Lib.hid h2
      have B2 := Lib.hid (B1.out.trans b2)
      clear h2 b2
      go_wp2_with fail
      refine (wbyte _ _ _ 58 58 rfl _ W2.out (by simp; omega) B2.out.size).mono ?_
      rintro e w3 ⟨rfl, h3, b3⟩
      have W3 := Lib.hid h3
      have B3 := Lib.hid (B2.out.trans b3)
      clear h3 b3
      go_wp2_with fail
      refine (wstr _ _ _ (f k) _ W3.out (by simp; omega) B3.out.size).mono ?_
      rintro e w4 ⟨rfl, h4, b4⟩
      go_wp2_with fail
      go_roundw
      case rel => exact ⟨k + 1, by omega, by go_num, by rw [← X.out]; exact h4, B3.out.trans b4⟩
      case measure => simp [RowKit.intOf]; omega
    · obtain rfl : k = n := by omega
      go_wp2_with fail
      refine (wtext _ _ _ _ W0.out hsz).mono ?_
      rintro e w2 ⟨rfl, b2⟩
      go_wp2_with fail
      go_ret
      exact ⟨rfl, B0.out.trans b2⟩
end Go.Proofs.YtogkbfafdlbodaaDoor
