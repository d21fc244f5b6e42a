/- Slices of ints and of texts that a law makes of its arguments; the laws' own helpers on them, said by ranges of blocks. -/
import Derived.Test.YteigfhenbmhepaaRows
import Derived.Test.YteigfhenbmhepaaOwn
import Derived.Test.YteigfhenbmhepaaInts
import Derived.Test.YteigfhenbmhepaaVecMk
import Derived.WalkKit
import Derived.Lib.Hide
namespace Go.Proofs.Yteigfhenbmhepaa
open Go.RowKit
set_option maxRecDepth 100000
set_option linter.unusedVariables false

/-- The slice at a holds n ints f in a block of its own from lo to hi. -/
structure OwnI (a : Option Addr) (n : Nat) (f : Nat → Int) (lo hi : Nat) (w : World) : Prop where
  out : ∃ b C, a = some ⟨b, 0, none⟩ ∧ lo ≤ b ∧ b < hi ∧ w.heap[b]? = some (.cells C 3 (0, 0)) ∧ n ≤ C.size ∧ ∀ i, i < n → C[i]? = some (.int .i64 (f i))
theorem OwnI.below {a : Option Addr} {n : Nat} {f : Nat → Int} {lo hi : Nat} {w w' : World} (h : OwnI a n f lo hi w) (hb : Below w.heap.size w w') (hh : hi ≤ w.heap.size) : OwnI a n f lo hi w' := by
  obtain ⟨b, C, e, h0, h1, h2, r⟩ := h.out
  exact ⟨b, C, e, h0, h1, blk_below hb h2, r⟩
theorem OwnI.within {a : Option Addr} {n : Nat} {f : Nat → Int} {lo hi lo' hi' : Nat} {w w' : World} (h : OwnI a n f lo hi w) (k : Within lo' hi' w w') (hr : hi ≤ lo' ∨ hi' ≤ lo) (hh : hi ≤ w.heap.size) : OwnI a n f lo hi w' := by
  obtain ⟨b, C, e, h0, h1, h2, r⟩ := h.out
  exact ⟨b, C, e, h0, h1, k.blk (by omega) h2, r⟩
theorem OwnI.at_ {a : Option Addr} {n : Nat} {f : Nat → Int} {lo hi : Nat} {w : World} (h : OwnI a n f lo hi w) {H : Nat} (hh : hi ≤ H) : IntsAt H w a n f := by
  obtain ⟨b, C, e, h0, h1, h2, _, r⟩ := h.out
  intro i hi'
  exact ⟨b, 0, e, by omega, by rw [Nat.zero_add]; exact cellOf h2 (r i hi')⟩
theorem toIntsR (a : Option Addr) (n cap : Nat) (f : Nat → Int) (B : Nat) (w : World) (hs : IntsAt B w a n f) (hB : B ≤ w.heap.size) (hn : n ≤ 1048576) :
    Calls Try.prog 14 #[.slice a n cap] w fun e w' => ∃ x, e = .returned (.slice x n n) ∧ OwnI x n f w.heap.size w'.heap.size w' ∧ Below w.heap.size w w' := by
  refine (toInts a n cap f w (hs.mono hB) hn).mono ?_
  rintro e w' ⟨rfl, ⟨C, hC, hn', r⟩, hb⟩
  exact ⟨_, rfl, ⟨_, C, rfl, Nat.le_refl _, hC.lt, hC, by omega, r⟩, hb⟩
theorem eqIntsR (a b : Option Addr) (n ca cb : Nat) (f : Nat → Int) (B : Nat) (w : World) (ha : IntsAt B w a n f) (hb : IntsAt B w b n f) (hn : n ≤ 1048576) :
    Calls Try.prog 17 #[.slice a n ca, .slice b n cb] w fun e w' => e = .returned (.bool true) ∧ Below w.heap.size w w' := by
  refine (eqInts a b n ca cb f f B w ha hb (by omega) (fun _ _ => rfl)).mono ?_
  rintro e w' ⟨rfl, m, rfl⟩
  exact ⟨rfl, below_drewN' (Below.refl _ _) m⟩
set_option maxHeartbeats 1000000 in
theorem markIntsR (a : Option Addr) (n c k : Nat) (f : Nat → Int) (lo hi : Nat) (w : World) (h : OwnI a n f lo hi w) (hn : n ≤ 1048576) (h1 : 1 ≤ k) (hk : k + n ≤ 9000000) :
    Calls Try.prog 18 #[.slice a n c, .int .i64 k] w fun e w' => e = .returned (.int .i64 ((k : Int) + (n : Int))) ∧ Within lo hi w w' := by
  obtain ⟨b, C, rfl, h0, hb1, hC, hnC, _⟩ := h.out
  have hbw : b < w.heap.size := (Array.getElem?_eq_some_iff.1 hC).1
  have K0 := Lib.hid hC
  clear h hC
  go_enter Try.func18, Try.ntmps18
  go_wp2
  go_loopw [1, 5] (fun kv iv wr => ∃ j : Nat, j ≤ n ∧ iv = .int .i64 j ∧ kv = .int .i64 ((k : Int) + (j : Int)) ∧ (∃ C, wr.heap[b]? = some (.cells C 3 (0, 0)) ∧ n ≤ C.size) ∧ Touch [b] w wr) (fun _ iv _ => n - (intOf iv).toNat)
  case atStart => exact ⟨0, Nat.zero_le _, rfl, int_eqK (by omega), ⟨C, K0.out, hnC⟩, Touch.refl _ _⟩
  case round =>
    obtain ⟨j, hj, rfl, rfl, ⟨C1, hC1, hn1⟩, ht⟩ := hrel
    have TT := Lib.hid ht
    have KC := Lib.hid hC1
    clear ht hC1
    by_cases hlt : j < n
    · have hfree : wr.frozen? ⟨b, j, none⟩ = false := freeOf KC.out
      obtain ⟨v0, hold⟩ : ∃ v0, wr.cell? ⟨b, j, none⟩ = some v0 := ⟨_, cellOf KC.out (Array.getElem?_eq_getElem (by omega))⟩
      have KN := Lib.hid (Joins.block_setCell KC.out (i := j) (.int .i64 ((k : Int) + (j : Int))))
      have TN := Lib.hid (TT.out.set (i := j) (List.mem_singleton.2 rfl) (.int .i64 ((k : Int) + (j : Int))))
      go_wp2
      go_roundw
      case rel => exact ⟨j + 1, by omega, by go_num, int_eqK (by omega), ⟨_, KN.out, by simpa using hn1⟩, TN.out⟩
      case measure => simp [intOf]; omega
    · obtain rfl : j = n := by omega
      go_wp2
      go_ret
      exact ⟨rfl, TT.out.within (fun g hg => by obtain rfl := List.mem_singleton.1 hg; exact ⟨h0, hb1⟩)⟩

/-- The slice at a holds the n texts f in a block of its own from lo to hi. -/
structure OwnS (a : Option Addr) (n : Nat) (f : Nat → ByteArray) (lo hi : Nat) (w : World) : Prop where
  out : ∃ b C, a = some ⟨b, 0, none⟩ ∧ lo ≤ b ∧ b < hi ∧ w.heap[b]? = some (.cells C 9 (0, 0)) ∧ n ≤ C.size ∧ ∀ i, i < n → C[i]? = some (.string (f i))
theorem OwnS.below {a : Option Addr} {n : Nat} {f : Nat → ByteArray} {lo hi : Nat} {w w' : World} (h : OwnS a n f lo hi w) (hb : Below w.heap.size w w') (hh : hi ≤ w.heap.size) : OwnS a n f lo hi w' := by
  obtain ⟨b, C, e, h0, h1, h2, r⟩ := h.out
  exact ⟨b, C, e, h0, h1, blk_below hb h2, r⟩
theorem OwnS.within {a : Option Addr} {n : Nat} {f : Nat → ByteArray} {lo hi lo' hi' : Nat} {w w' : World} (h : OwnS a n f lo hi w) (k : Within lo' hi' w w') (hr : hi ≤ lo' ∨ hi' ≤ lo) (hh : hi ≤ w.heap.size) : OwnS a n f lo hi w' := by
  obtain ⟨b, C, e, h0, h1, h2, r⟩ := h.out
  exact ⟨b, C, e, h0, h1, k.blk (by omega) h2, r⟩
theorem OwnS.at_ {a : Option Addr} {n : Nat} {f : Nat → ByteArray} {lo hi : Nat} {w : World} (h : OwnS a n f lo hi w) {H : Nat} (hh : hi ≤ H) : StrsAt H w a n f := by
  obtain ⟨b, C, e, h0, h1, h2, _, r⟩ := h.out
  intro i hi'
  exact ⟨b, 0, e, by omega, by rw [Nat.zero_add]; exact cellOf h2 (r i hi')⟩
theorem toStrsR (a : Option Addr) (n cap : Nat) (f : Nat → ByteArray) (B : Nat) (w : World) (hs : StrsAt B w a n f) (hB : B ≤ w.heap.size) (hn : n ≤ 1048576) :
    Calls Try.prog 25 #[.slice a n cap] w fun e w' => ∃ x, e = .returned (.slice x n n) ∧ OwnS x n f w.heap.size w'.heap.size w' ∧ Below w.heap.size w w' := by
  refine (toStrs a n cap f w (hs.mono hB) hn).mono ?_
  rintro e w' ⟨rfl, ⟨C, hC, hn', r⟩, hb⟩
  exact ⟨_, rfl, ⟨_, C, rfl, Nat.le_refl _, hC.lt, hC, by omega, r⟩, hb⟩
theorem eqStrsR (a b : Option Addr) (n ca cb : Nat) (f : Nat → ByteArray) (B : Nat) (w : World) (ha : StrsAt B w a n f) (hb : StrsAt B w b n f) (hn : n ≤ 1048576) :
    Calls Try.prog 27 #[.slice a n ca, .slice b n cb] w fun e w' => e = .returned (.bool true) ∧ Below w.heap.size w w' := by
  refine (eqStrs a b n ca cb f f B w ha hb (by omega) (fun _ _ => rfl)).mono ?_
  rintro e w' ⟨rfl, m, rfl⟩
  exact ⟨rfl, below_drewN' (Below.refl _ _) m⟩
theorem markStrsR (a : Option Addr) (n c k : Nat) (f : Nat → ByteArray) (lo hi : Nat) (w : World) (h : OwnS a n f lo hi w) (hn : n ≤ 1048576) (h1 : 1 ≤ k) (hk : k + n ≤ 9000000) :
    Calls Try.prog 28 #[.slice a n c, .int .i64 k] w fun e w' => e = .returned (.int .i64 ((k : Int) + (n : Int))) ∧ Within lo hi w w' := by
  obtain ⟨b, C, rfl, h0, hb1, hC, hnC, r⟩ := h.out
  have hl : ((List.range n).map f).length = n := by simp
  have ho : OwnTxs w (some ⟨b, 0, none⟩) ((List.range n).map f) [b] := by
    refine .inr ⟨b, C, rfl, rfl, hC, by rw [hl]; exact hnC, fun i hi => ?_⟩
    rw [hl] at hi
    rw [r i hi]; unfold txtS; simp [List.getD_eq_getElem?_getD, hi]
  have hm := markTxs ((List.range n).map f) (some ⟨b, 0, none⟩) c k [b] w ho (by omega) h1 (by omega)
  rw [hl] at hm
  refine hm.mono ?_
  rintro e w' ⟨rfl, _, t⟩
  exact ⟨rfl, t.within (fun g hg => by obtain rfl := List.mem_singleton.1 hg; exact ⟨h0, hb1⟩)⟩
end Go.Proofs.Yteigfhenbmhepaa
