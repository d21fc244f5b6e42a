/- The laws' own marks in items. -/
import Derived.Test.YteoalkjngkcheaaRows
import Derived.Test.YteoalkjngkcheaaVecMk
import Derived.WalkKit
import Derived.WalkSpells
import Derived.WalkLawsBesides
import Derived.Lib.Hide
import Derived.Deep.RegionHeld3
namespace Go.Proofs.Yteoalkjngkcheaa
set_option maxRecDepth 100000
open Go.RowKit
set_option linter.unusedVariables false

def mkM (k i : Nat) : It := ⟨k + 3 * i, k + 3 * i + 1, mkT (k + 3 * i + 2)⟩
def markI (k n : Nat) : List It := (List.range n).map (mkM k)
theorem markI_len (k n : Nat) : (markI k n).length = n := by simp [markI]
theorem markI_at {k n i : Nat} (h : i < n) : (markI k n).getD i noI = mkM k i := by unfold markI; simp [List.getD_eq_getElem?_getD, h]
/-- A block of items whose first j are those of g. -/
def MIx (w : World) (a : Option Addr) (F : List Nat) (n j : Nat) (g : Nat → It) : Prop :=
  (n = 0 ∧ F = []) ∨ ∃ b C, F = [b] ∧ a = some ⟨b, 0, none⟩ ∧ w.heap[b]? = some (.cells C 46 (0, 0)) ∧ n * 3 ≤ C.size ∧
    ∀ i, i < j → C[i * 3]? = some (.int .i64 (g i).n) ∧ C[i * 3 + 1]? = some (.int .i64 (g i).d) ∧ C[i * 3 + 2]? = some (.string (g i).t)
theorem OwnIts.first {w : World} {a : Option Addr} {l : List It} {F : List Nat} (h : OwnIts w a l F) (g : Nat → It) : MIx w a F l.length 0 g := by
  rcases h with ⟨rfl, h⟩ | ⟨b, C, h1, h2, h3, h4, _⟩
  · exact .inl ⟨rfl, h⟩
  · exact .inr ⟨b, C, h1, h2, h3, h4, fun i hi => absurd hi (Nat.not_lt_zero _)⟩
theorem MIx.own {w : World} {a : Option Addr} {F : List Nat} {k n : Nat} (h : MIx w a F n n (mkM k)) : OwnIts w a (markI k n) F := by
  rcases h with ⟨rfl, h⟩ | ⟨b, C, h1, h2, h3, h4, h5⟩
  · exact .inl ⟨rfl, h⟩
  · exact .inr ⟨b, C, h1, h2, h3, by rw [markI_len]; exact h4, fun i hi => by rw [markI_len] at hi; unfold txtI; rw [markI_at hi]; exact h5 i hi⟩
theorem MIx.step {w : World} {b : Nat} {C : Array Value} {x y z : Value} {F : List Nat} {n j : Nat} {g : Nat → It} (hF : F = [b]) (hb : w.heap[b]? = some (.cells ((C.setIfInBounds (j * 3) x).setIfInBounds (j * 3 + 1) y) 46 (0, 0))) (hn : n * 3 ≤ C.size)
    (h : ∀ i, i < j → C[i * 3]? = some (.int .i64 (g i).n) ∧ C[i * 3 + 1]? = some (.int .i64 (g i).d) ∧ C[i * 3 + 2]? = some (.string (g i).t)) (hj : j < n) (hx : x = .int .i64 (g j).n) (hy : y = .int .i64 (g j).d) (hz : z = .string (g j).t) :
    MIx (w.setCell ⟨b, j * 3 + 2, none⟩ z) (some ⟨b, 0, none⟩) F n (j + 1) g := by
  refine .inr ⟨b, _, hF, rfl, Joins.block_setCell hb _, by simpa using hn, fun i hi => ?_⟩
  subst hx hy hz
  by_cases e : i = j
  · subst e
    have l0 : i * 3 < C.size := by omega
    have l1 : i * 3 + 1 < C.size := by omega
    have l2 : i * 3 + 2 < C.size := by omega
    refine ⟨?_, ?_, ?_⟩
    · rw [Array.getElem?_setIfInBounds_ne (by omega), Array.getElem?_setIfInBounds_ne (by omega)]
      simp [l0]
    · rw [Array.getElem?_setIfInBounds_ne (by omega)]
      simp [l1]
    · simp [l2]
  · obtain ⟨h0, h1, h2⟩ := h i (by omega)
    refine ⟨?_, ?_, ?_⟩ <;> (rw [Array.getElem?_setIfInBounds_ne (by omega), Array.getElem?_setIfInBounds_ne (by omega), Array.getElem?_setIfInBounds_ne (by omega)]; assumption)

set_option maxHeartbeats 1000000 in
theorem markIts (l : List It) (a : Option Addr) (c k : Nat) (F : List Nat) (w : World) (h : OwnIts w a l F) (hn : l.length ≤ 1048576) (h1 : 1 ≤ k) (hk : k + 3 * l.length ≤ 9000000) :
    Calls Try.prog 38 #[.slice a l.length c, .int .i64 k] w fun e w' => e = .returned (.int .i64 ((k : Int) + 3 * (l.length : Int))) ∧ OwnIts w' a (markI k l.length) F ∧ Touch F w w' := by
  have M0 := Lib.hid (h.first (mkM k))
  clear h
  obtain ⟨n, hn'⟩ : ∃ n, l.length = n := ⟨_, rfl⟩
  rw [hn'] at hn hk M0 ⊢
  clear hn'
  go_enter Try.func38, Try.ntmps38
  go_wp2
  go_loopw [1, 5] (fun kv iv wr => ∃ j : Nat, j ≤ n ∧ iv = .int .i64 j ∧ kv = .int .i64 ((k : Int) + 3 * (j : Int)) ∧ MIx wr a F n j (mkM k) ∧ Touch F w wr) (fun _ iv _ => n - (intOf iv).toNat)
  case atStart => exact ⟨0, Nat.zero_le _, rfl, int_eqK (by omega), M0.out, Touch.refl _ _⟩
  case round =>
    obtain ⟨j, hj, rfl, rfl, hm, ht⟩ := hrel
    have TT := Lib.hid ht
    have MM := Lib.hid hm
    clear ht hm
    by_cases hlt : j < n
    · obtain ⟨b, C, hF, rfl, hC, hnC, hg⟩ : ∃ b C, F = [b] ∧ a = some ⟨b, 0, none⟩ ∧ wr.heap[b]? = some (.cells C 46 (0, 0)) ∧ n * 3 ≤ C.size ∧
          ∀ i, i < j → C[i * 3]? = some (.int .i64 (mkM k i).n) ∧ C[i * 3 + 1]? = some (.int .i64 (mkM k i).d) ∧ C[i * 3 + 2]? = some (.string (mkM k i).t) := by
        rcases MM.out with ⟨h0, _⟩ | h
        · omega
        · exact h
      have HF := Lib.hid hF
      have HC := Lib.hid hC
      have HG := Lib.hid hg
      clear hF hC hg MM
      obtain ⟨K, hK⟩ : ∃ K : Int, (k : Int) + 3 * (j : Int) = K := ⟨_, rfl⟩
      have EK := Lib.hid hK
      have hK0 : 0 ≤ K := by omega
      have hK1 : K ≤ 9000000 := by omega
      have MT := Lib.hid (fun (W : World) (x : Int) (hx : x = K + 2) => (by
        have e : x = (((k + 3 * j) : Nat) : Int) + ((2 : Nat) : Int) := by omega
        rw [e]
        exact mkT_at (k + 3 * j) 2 (by omega) (by omega) W : Calls Try.prog 56 #[.int .i64 x] W fun e w' => e = .returned (.string (mkT (k + 3 * j + 2))) ∧ Below W.heap.size W w'))
      rw [hK]
      clear hK
      have f0 : wr.frozen? ⟨b, j * 3, none⟩ = false := freeOf HC.out
      have f1 : wr.frozen? ⟨b, j * 3 + 1, none⟩ = false := freeOf HC.out
      obtain ⟨v0, o0⟩ : ∃ v0, wr.cell? ⟨b, j * 3, none⟩ = some v0 := ⟨_, cellOf HC.out (Array.getElem?_eq_getElem (by omega))⟩
      obtain ⟨v1, o1⟩ : ∃ v1, wr.cell? ⟨b, j * 3 + 1, none⟩ = some v1 := ⟨_, cellOf HC.out (Array.getElem?_eq_getElem (by omega))⟩
      go_wp2_with fail
      with_reducible refine (MT.out _ _ ?_).mono ?_
      · omega
      rintro e w1 ⟨rfl, b1⟩
      have C1 := Lib.hid (blk_below b1 (Joins.block_setCell (Joins.block_setCell HC.out _) _))
      have hm : b ∈ F := by rw [HF.out]; exact List.mem_singleton.2 rfl
      have T1 := Lib.hid (((TT.out.set hm _).set hm _).trans (Touch.of_below b1))
      clear b1 f0 f1 o0 o1
      have f2 : w1.frozen? ⟨b, j * 3 + 2, none⟩ = false := freeOf C1.out
      obtain ⟨v2, o2⟩ : ∃ v2, w1.cell? ⟨b, j * 3 + 2, none⟩ = some v2 := ⟨_, cellOf C1.out (Array.getElem?_eq_getElem (by simp; omega))⟩
      have NEXT := Lib.hid (MIx.step (z := .string (mkT (k + 3 * j + 2))) HF.out C1.out hnC HG.out hlt (int_eqK (by have := EK.out; simp only [mkM]; omega)) (int_eqK (by have := EK.out; simp only [mkM]; omega)) rfl)
      have TN := Lib.hid (T1.out.set (i := j * 3 + 2) hm (.string (mkT (k + 3 * j + 2))))
      have E1 := Lib.hid (show K + 1 + 1 + 1 = (k : Int) + 3 * ((j + 1 : Nat) : Int) by have := EK.out; omega)
      have E2 := Lib.hid (show K + 3 = (k : Int) + 3 * ((j + 1 : Nat) : Int) by have := EK.out; omega)
      clear hm
      go_wp2
      go_roundw
      case rel => exact ⟨j + 1, by omega, by go_num, int_eqK (by first | exact E1.out | exact E2.out), NEXT.out, TN.out⟩
      case measure => simp [intOf]; omega
    · obtain rfl : j = n := by omega
      go_wp2
      go_ret
      exact ⟨rfl, MM.out.own, TT.out⟩

set_option maxHeartbeats 1000000 in
theorem heldIts (n : Nat) (a : Option Addr) (c k lo hi : Nat) (w : World) (hs : ItemsAt lo hi w a (markI k n)) (hhi : hi ≤ w.heap.size) (hn : n ≤ 1048576) (h1 : 1 ≤ k) (hk : k + 3 * n ≤ 9000000) :
    Calls Try.prog 41 #[.slice a n c, .int .i64 k] w fun e w' => e = .returned (.int .i64 ((k : Int) + 3 * (n : Int))) ∧ Below w.heap.size w w' := by
  have A := Lib.hid (fun (j : Nat) (w1 : World) (K : Int) (hK : (k : Int) + 3 * (j : Int) = K) (hj : j < n) (hb : Below w.heap.size w w1) => (by
    obtain ⟨b, off, e, _, h2, c0, c1, c2⟩ := (hs.below hb hhi) j (mkM k j) (by unfold markI; simp [hj])
    subst hK
    exact ⟨b, off, e, h2, c0, c1, c2⟩ : ∃ b off, a = some ⟨b, off, none⟩ ∧ b < hi ∧ w1.cell? ⟨b, off + j * 3, none⟩ = some (.int .i64 K) ∧ w1.cell? ⟨b, off + j * 3 + 1, none⟩ = some (.int .i64 (K + 1)) ∧ w1.cell? ⟨b, off + j * 3 + 2, none⟩ = some (.string (mkT (k + 3 * j + 2)))))
  clear hs
  go_enter Try.func41, Try.ntmps41
  go_wp2
  go_loopw [1, 5] (fun kv iv wr => ∃ j : Nat, j ≤ n ∧ iv = .int .i64 j ∧ kv = .int .i64 ((k : Int) + 3 * (j : Int)) ∧ Below w.heap.size w wr) (fun _ iv _ => n - (intOf iv).toNat)
  case atStart => exact ⟨0, Nat.zero_le _, rfl, int_eqK (by omega), Below.refl _ _⟩
  case round =>
    obtain ⟨j, hj, rfl, rfl, hb⟩ := hrel
    have BB := Lib.hid hb
    clear hb
    by_cases hlt : j < n
    · obtain ⟨K, hK⟩ : ∃ K : Int, (k : Int) + 3 * (j : Int) = K := ⟨_, rfl⟩
      obtain ⟨b, off, rfl, hbB, c0, c1, c2⟩ := A.out j _ K hK hlt BB.out
      have EK := Lib.hid hK
      have hK0 : 0 ≤ K := by omega
      have hK1 : K ≤ 9000000 := by omega
      have hlt' : (j : Int) < (n : Int) := by omega
      have hbw0 : b < w.heap.size := Nat.lt_of_lt_of_le hbB hhi
      have hbw : b < wr.heap.size := Nat.lt_of_lt_of_le hbw0 BB.out.size
      have MT := Lib.hid (fun (W : World) (x : Int) (hx : x = K + 2) => (by
        have e : x = (((k + 3 * j) : Nat) : Int) + ((2 : Nat) : Int) := by omega
        rw [e]
        exact mkT_at (k + 3 * j) 2 (by omega) (by omega) W : Calls Try.prog 56 #[.int .i64 x] W fun e w' => e = .returned (.string (mkT (k + 3 * j + 2))) ∧ Below W.heap.size W w'))
      have HB := Lib.hid BB.out
      have HC := Lib.hid c2
      have E1 := Lib.hid (show K + 1 + 1 + 1 = (k : Int) + 3 * ((j + 1 : Nat) : Int) by omega)
      have E2 := Lib.hid (show K + 3 = (k : Int) + 3 * ((j + 1 : Nat) : Int) by omega)
      rw [hK]
      clear hK
      go_wp2
      go_region_held3 (fun w' => Below w.heap.size w w' ∧ w'.cell? ⟨b, off + j * 3 + 2, none⟩ = some (.string (mkT (k + 3 * j + 2)))) (first | exact ⟨HB.out.drew, HC.out⟩ | exact held_stepK hbw0 (by assumption) (by assumption)) (first | (go_at_call 56; refine (MT.out _ _ (by omega)).mono ?_; rintro e w1 ⟨rfl, b1⟩))
      go_wp2
      go_roundw
      case rel => exact ⟨j + 1, by omega, by go_num, int_eqK (by first | exact E1.out | exact E2.out), ‹Below w.heap.size w _ ∧ _›.1⟩
      case measure => simp [intOf]; omega
    · obtain rfl : j = n := by omega
      go_wp2
      go_ret
      exact ⟨rfl, BB.out⟩
end Go.Proofs.Yteoalkjngkcheaa
