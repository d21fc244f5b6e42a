/- What the law on strings calls besides; and its functions, each over one opaque text. -/
import Derived.Test.YtogkbfafdlbodaaDoorRows
import Derived.Test.YtogkbfafdlbodaaDoorDraw
import Derived.Test.YtogkbfafdlbodaaDoorDrawMore
import Derived.Test.YtogkbfafdlbodaaDoorStringsMath
import Derived.Test.YtogkbfafdlbodaaDoorUnqImpl
import Derived.Test.YtogkbfafdlbodaaDoorQuoteImpl
import Derived.Test.YtogkbfafdlbodaaDoorQuote
import Derived.Test.YtogkbfafdlbodaaDoorMark
import Derived.Test.YtogkbfafdlbodaaDoorParseImpl
import Derived.Test.YtogkbfafdlbodaaDoorFmtSpec
import Derived.Test.YtogkbfafdlbodaaDoorFmtImpl
import Derived.ChangeSlices
import Derived.ProofKit
namespace Go.Proofs.YtogkbfafdlbodaaDoor
open Go.RowKit

theorem cellsByte : Tryd.prog.cellsOf 5 = 1 := by kernel_rfl
theorem u8_in {n : Int} (h : (Lit.int .u8 n).wf = true) : 0 ≤ n ∧ n < 256 := by
  simp [Lit.wf, IntKind.min, IntKind.max, IntKind.signed, IntKind.bits] at h
  omega
/-- What a slice of bytes that came in holds. -/
theorem bytes_in {H : Type} {enc : TypeId × Value → H} {W : World} {base : Nat} {sp : Nat → Bool} {held : Bool} {fuel : Nat} {a : Option Addr} {n cap : Nat} {x : DataW H × List MemPlace}
    (hf : DataW.trod enc Tryd.prog W base sp held fuel 22 (Value.slice a n cap).cells.toList = some x) : CodeAt W.heap.size W a n := by
  rcases ChangeShapes.open_ints Tryd.underlying22 Tryd.underlying5 cellsByte hf with ⟨hcs, _⟩ | ⟨b, l, c, zs, hcs, _, hl, hm, hz, _, hcell, hws⟩
  · simp [Value.cells] at hcs
    obtain ⟨rfl, rfl, rfl⟩ := hcs
    exact fun i hi => absurd hi (Nat.not_lt_zero _)
  · simp [Value.cells] at hcs
    obtain ⟨rfl, rfl, rfl⟩ := hcs
    intro i hi
    have hlen : i < zs.length := by rw [hz]; split <;> omega
    have hc := hcell i hlen
    obtain ⟨bb, off, spot⟩ := b
    have hspot : spot = none := by simpa [Addr.add] using World.cell?_spot (hcell 0 (by omega))
    subst hspot
    have e : (⟨bb, off, none⟩ : Addr).add i = ⟨bb, off + i, none⟩ := by
      unfold Addr.add
      split
      · rename_i h; subst h; rfl
      · rfl
    rw [e] at hc
    have hr := u8_in (hws (zs.getD i 0) (by rw [List.getD_eq_getElem?_getD, List.getElem?_eq_getElem hlen]; exact List.getElem_mem hlen))
    exact ⟨bb, off, rfl, cell_lt hc, _, hr.1, hr.2, hc⟩

theorem bigAny (a : Option Addr) (n cap : Nat) (w : World) :
    Calls Tryd.prog 8 #[.slice a n cap] w fun e w' => e = .returned (.bool (decide (1048576 < (n : Int)))) ∧ w = w' := by
  go_enter Tryd.func8, Tryd.ntmps8
  go_wp2
  go_ret
  exact ⟨rfl, rfl⟩

set_option maxHeartbeats 1000000 in
theorem sameAny (a b : Option Addr) (n ca cb : Nat) (f g : Nat → ByteArray) (B : Nat) (w : World) (ha : StrsAt B w a n f) (hb : StrsAt B w b n g) (hn : n ≤ 9223372036854775807) (he : ∀ i, i < n → f i = g i) :
    Calls Tryd.prog 20 #[.slice a n ca, .slice b n cb] w fun e w' => e = .returned (.bool true) ∧ ∃ m, w' = w.drewN m := by
  have SA := Lib.hid ha
  have SB := Lib.hid hb
  have HE := Lib.hid he
  clear ha hb he
  go_enter Tryd.func20, Tryd.ntmps20
  go_wp2
  go_loopw [5] (fun i wr => ∃ k m : Nat, k ≤ n ∧ i = .int .i64 k ∧ wr = w.drewN m) (fun i _ => n - (intOf i).toNat)
  case atStart => exact ⟨0, 0, Nat.zero_le _, rfl, rfl⟩
  case round =>
    obtain ⟨k, m, hk, rfl, rfl⟩ := hrel
    by_cases hlt : k < n
    · obtain ⟨ba, oa, rfl, _, hca⟩ := SA.out k hlt
      obtain ⟨bb, ob, rfl, _, hcb⟩ := SB.out k hlt
      have hlt' : (k : Int) < (n : Int) := by omega
      rw [← HE.out k hlt] at hcb
      go_wp2
      go_quiet (fail)
      go_wp2
      go_roundw
      case rel => exact ⟨k + 1, m + nq, by omega, by go_num, rfl⟩
      case measure => simp [intOf]; omega
    · go_wp2
      go_ret
      exact ⟨rfl, m, rfl⟩

theorem sumF_small (f : Nat → ByteArray) (h : ∀ i, (f i).size ≤ 21) : ∀ n, sumF f n ≤ 21 * n
  | 0 => Nat.le_refl _
  | n + 1 => by have := sumF_small f h n; have := h n; simp only [sumF]; omega
theorem strOf_small {xs : List (List UInt8)} (h : ∀ x ∈ xs, x.length ≤ 21) (i : Nat) : (strOf xs i).size ≤ 21 := by
  show (xs.getD i []).toArray.size ≤ 21
  rw [List.getD_eq_getElem?_getD]
  by_cases hi : i < xs.length
  · rw [List.getElem?_eq_getElem hi]; exact h _ (List.getElem_mem hi)
  · rw [List.getElem?_eq_none (by omega)]; simp
theorem split_own (xs : List (List UInt8)) (h : ∀ x ∈ xs, x.length ≤ 21) : splitF (joinF (strOf xs) xs.length).length (joinF (strOf xs) xs.length) = some xs := by
  rw [split_join (strOf xs) xs.length (fun i _ => by have := strOf_small h i; omega)]
  congr 1
  apply List.ext_getElem
  · simp
  · intro i h1 h2
    simp [strOf, List.getD_eq_getElem?_getD, h2]

/-- The functions on one string: its text, and back. -/
theorem quote_set (s : ByteArray) (hs : s.size ≤ 42) : ∃ q : ByteArray, q.size ≤ 1000 ∧ (∀ (k : Nat) (h : k < q.size), 32 ≤ (q[k]).toNat ∧ (q[k]).toNat ≤ 126) ∧
    (∀ w, Calls Tryd.prog 10 #[.string s] w fun e w' => e = .returned (.string q) ∧ Below w.heap.size w w') ∧
    (∀ w, Calls Tryd.prog 18 #[.string s] w fun e w' => e = .returned (.string q) ∧ Below w.heap.size w w') ∧
    (∀ w, Calls Tryd.prog 11 #[.string q] w fun e w' => e = .returned (.tuple #[.string s, .bool true]) ∧ Below w.heap.size w w') := by
  have hz := quoteT_size s
  refine ⟨quoteT s, by omega, quoteT_shown s, fun w => implQuote s w (by omega), fun w => specQuoteB s w (by omega), fun w => ?_⟩
  have h := implUnq0 (quoteT s) w (by omega)
  rw [(unq_quote s).1, (unq_quote s).2] at h
  exact h
/-- The functions on one list. -/
theorem join_set (xs : List (List UInt8)) (hl : xs.length ≤ 5) (hx : ∀ x ∈ xs, x.length ≤ 21) : ∃ j : ByteArray, j.size ≤ 1000 ∧
    (∀ a cap w, StrsAt w.heap.size w a xs.length (strOf xs) → Met w → Calls Tryd.prog 13 #[.slice a xs.length cap] w fun e w' => e = .returned (.string j) ∧ Below w.heap.size w w') ∧
    (∀ a cap w, StrsAt w.heap.size w a xs.length (strOf xs) → Calls Tryd.prog 19 #[.slice a xs.length cap] w fun e w' => e = .returned (.string j) ∧ Below w.heap.size w w') ∧
    (∀ w, Met w → Calls Tryd.prog 14 #[.string j] w fun e w' => ∃ a cap, e = .returned (.tuple #[.slice a xs.length cap, .bool true]) ∧ StrsAt w'.heap.size w' a xs.length (strOf xs) ∧ Below w.heap.size w w') := by
  have hs := strOf_small hx
  have hsum := sumF_small (strOf xs) hs xs.length
  have hlen := joinF_len (strOf xs) (fun i => by have := hs i; omega) xs.length
  have hz : (⟨(joinF (strOf xs) xs.length).toArray⟩ : ByteArray).size = (joinF (strOf xs) xs.length).length := rfl
  refine ⟨⟨(joinF (strOf xs) xs.length).toArray⟩, by omega, fun a cap w h m => implJoin a xs.length cap (strOf xs) w h (by omega) (fun i => by have := hs i; omega) (by omega) m.1,
    fun a cap w h => (specJoin a xs.length cap (strOf xs) _ w h (by omega) (fun i => by have := hs i; omega) (by omega)).mono fun _ _ ⟨he, hd⟩ => ⟨he, hd.below _⟩, fun w m => ?_⟩
  refine (implSplit ⟨(joinF (strOf xs) xs.length).toArray⟩ w (by omega) m).mono fun e w' h => ?_
  obtain ⟨v, he, ho, hb⟩ := h
  have hsp : splitF (⟨(joinF (strOf xs) xs.length).toArray⟩ : ByteArray).data.toList.length (⟨(joinF (strOf xs) xs.length).toArray⟩ : ByteArray).data.toList = some xs := split_own xs hx
  rw [hsp] at he ho
  obtain ⟨a, cap, rfl, hstr⟩ := own_open ho
  exact ⟨a, cap, he, hstr, hb⟩
/-- The functions on one number. -/
theorem num_set (x : Int) (h0 : -9223372036854775808 ≤ x) (h1 : x ≤ 9223372036854775807) : ∃ t : ByteArray,
    (∀ w, Met w → Calls Tryd.prog 16 #[.int .i64 x] w fun e w' => e = .returned (.string t) ∧ Below w.heap.size w w') ∧
    (∀ w, Calls Tryd.prog 21 #[.int .i64 x] w fun e w' => e = .returned (.string t) ∧ Below w.heap.size w w') ∧
    (∀ w, Met w → Calls Tryd.prog 17 #[.string t] w fun e w' => (∃ k : Int, e = .returned (.tuple #[.int .i64 k, .bool (decide (-1000000000 < x ∧ x < 1000000000))]) ∧ (-1000000000 < x ∧ x < 1000000000 → k = x)) ∧ Below w.heap.size w w') := by
  have hl := Lib.itoa_length_le x (by omega) (by omega)
  have hp := pVal_itoa x
  refine ⟨⟨(Lib.itoa x).toArray⟩, fun w m => implFmt x w h0 h1 m.1, fun w => (specFmt x w h0 h1).mono fun _ _ ⟨he, hw⟩ => ⟨he, by subst hw; exact Below.refl _ _⟩, fun w m => ?_⟩
  refine (implParse ⟨(Lib.itoa x).toArray⟩ w (by show (Lib.itoa x).length ≤ _; omega) m.1 m.2.1).mono fun e w' h => ?_
  obtain ⟨he, hb⟩ := h
  refine ⟨⟨(pVal (Lib.itoa x)).1, ?_, fun hx => hp.2 (by rw [hp.1]; exact decide_eq_true hx)⟩, hb⟩
  rw [← hp.1]; exact he
end Go.Proofs.YtogkbfafdlbodaaDoor
