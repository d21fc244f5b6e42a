/- Equality of lists of texts and of items: what both sides answer. -/
import Derived.Test.YtddebgmjolojeaaRows
import Derived.Test.YtddebgmjolojeaaVecStr
import Derived.Test.YtddebgmjolojeaaStrs
import Derived.WalkKit
import Derived.Lib.Hide
import Derived.Deep.QuietTactic
import Derived.BigQuiet
namespace Go.Proofs.Ytddebgmjolojeaa
open Go.RowKit
set_option maxRecDepth 100000
set_option linter.unusedVariables false

/-- Two rows of n and m texts are equal. -/
def EqTx (f g : Nat → ByteArray) (n m : Nat) : Prop := n = m ∧ ∀ i, i < n → f i = g i
def EqIt (f g : Nat → It) (n m : Nat) : Prop := n = m ∧ ∀ i, i < n → f i = g i
theorem neB {s t : ByteArray} (h : s ≠ t) : (s.toList == t.toList) = false := by rw [beq_eq_false_iff_ne]; exact fun e => h (toList_inj e)
theorem eq_getD {α : Type} (z : α) : ∀ (l l' : List α), l = l' ↔ l.length = l'.length ∧ ∀ i, i < l.length → l.getD i z = l'.getD i z := by
  intro l l'
  constructor
  · rintro rfl; exact ⟨rfl, fun _ _ => rfl⟩
  · rintro ⟨h, k⟩
    refine List.ext_getElem h fun i h1 h2 => ?_
    have := k i h1
    simpa [List.getD_eq_getElem?_getD, List.getElem?_eq_getElem h1, List.getElem?_eq_getElem h2] using this
theorem eqTx_list (l l' : List ByteArray) : l = l' ↔ EqTx (txtS l) (txtS l') l.length l'.length := eq_getD _ l l'
theorem eqIt_list (l l' : List It) : l = l' ↔ EqIt (fun i => l.getD i noI) (fun i => l'.getD i noI) l.length l'.length := eq_getD _ l l'
set_option maxHeartbeats 1000000 in
theorem implEqTx (a b : Option Addr) (n m ca cb : Nat) (f g : Nat → ByteArray) (B B' : Nat) (w : World) (ha : StrsAt B w a n f) (hb : StrsAt B' w b m g) (hn : n ≤ 1048576) (hm : m ≤ 1048576) :
    Calls Try.prog 17 #[.slice a n ca, .slice b m cb] w fun e w' => e = .returned (.bool (bB (EqTx f g n m))) ∧ Below w.heap.size w w' := by
  have SA := Lib.hid ha
  have SB := Lib.hid hb
  clear ha hb
  by_cases hnm : n = m
  · subst hnm
    go_enter Try.func17, Try.ntmps17
    go_wp2
    go_loopw [13] (fun i wr => ∃ k q : Nat, k ≤ n ∧ i = .int .i64 k ∧ wr = w.drewN q ∧ ∀ j, j < k → f j = g j) (fun i _ => n - (intOf i).toNat)
    case atStart => exact ⟨0, 0, Nat.zero_le _, rfl, rfl, fun _ h => absurd h (Nat.not_lt_zero _)⟩
    case round =>
      obtain ⟨k, q, hk, rfl, rfl, he⟩ := hrel
      have HE := Lib.hid he
      clear he
      by_cases hlt : k < n
      · obtain ⟨ba, oa, rfl, _, hca⟩ := SA.out k hlt
        obtain ⟨bb, ob, rfl, _, hcb⟩ := SB.out k hlt
        have hlt' : (k : Int) < (n : Int) := by omega
        by_cases hp : f k = g k
        · have HN := Lib.hid (show ∀ j, j < k + 1 → f j = g j from fun j hj => by
            by_cases e : j = k
            · subst e; exact hp
            · exact HE.out j (by omega))
          rw [← hp] at hcb
          clear hp
          go_wp2
          go_quiet (fail)
          go_wp2
          go_roundw
          case rel => exact ⟨k + 1, q + nq, by omega, by go_num, rfl, HN.out⟩
          case measure => simp [intOf]; omega
        · have X := Lib.hid (show ¬ EqTx f g n n from fun h => hp (h.2 k hlt))
          have h1 := neB hp
          clear hp
          go_wp2
          go_quiet (fail)
          go_wp2
          go_ret
          exact ⟨ret_no X.out, below_drewN' (below_drewN' (Below.refl _ _) _) _⟩
      · obtain rfl : k = n := by omega
        have X := Lib.hid (show EqTx f g k k from ⟨rfl, HE.out⟩)
        go_wp2
        go_ret
        exact ⟨ret_yes X.out, below_drewN' (Below.refl _ _) _⟩
  · have X := Lib.hid (show ¬ EqTx f g n m from fun h => hnm h.1)
    have hnm' : ¬ (n : Int) = (m : Int) := by omega
    go_enter Try.func17, Try.ntmps17
    go_wp2
    go_ret
    exact ⟨ret_no X.out, Below.refl _ _⟩
end Go.Proofs.Ytddebgmjolojeaa
