/- Slices of ints in memory, and the laws' own helpers on them. -/
import Derived.Test.YteigfhenbmhepaaRows
import Derived.WalkKit
import Derived.WalkSpells
import Derived.WalkLawsBesides
import Derived.Lib.Hide
import Derived.Lib.SmallJoins
import Derived.ChangeSlices
import Derived.ProofKit
import Derived.Deep.OwnRows
import Derived.BigQuiet
import Derived.Deep.QuietTactic
import Derived.OpenShut
namespace Go.Proofs.Yteigfhenbmhepaa
set_option maxRecDepth 100000
open Go.RowKit

/-- The slice at a holds the n ints f 0, f 1, .., in a block below B. -/
def IntsAt (B : Nat) (w : World) (a : Option Addr) (n : Nat) (f : Nat → Int) : Prop := ∀ i, i < n → ∃ b off, a = some ⟨b, off, none⟩ ∧ b < B ∧ w.cell? ⟨b, off + i, none⟩ = some (.int .i64 (f i))
theorem IntsAt.below {B : Nat} {w w1 : World} {a : Option Addr} {n : Nat} {f : Nat → Int} (h : IntsAt B w a n f) (hb : Below B w w1) : IntsAt B w1 a n f := by
  intro i hi
  obtain ⟨b, off, e, hlt, hc⟩ := h i hi
  exact ⟨b, off, e, hlt, by rw [hb.cell hlt]; exact hc⟩
theorem IntsAt.mono {B B' : Nat} {w : World} {a : Option Addr} {n : Nat} {f : Nat → Int} (h : IntsAt B w a n f) (hB : B ≤ B') : IntsAt B' w a n f := by
  intro i hi
  obtain ⟨b, off, e, hlt, hc⟩ := h i hi
  exact ⟨b, off, e, by omega, hc⟩
/-- Block b holds the cells C. -/
def RowI (w : World) (b : Nat) (C : Array Value) : Prop := w.heap[b]? = some (.cells C 3 (0, 0))
theorem RowI.cell {w : World} {b i : Nat} {C : Array Value} {v : Value} (h : RowI w b C) (hv : C[i]? = some v) : w.cell? ⟨b, i, none⟩ = some v := by
  unfold RowI at h; unfold World.cell?; simp only [h]; exact hv
theorem RowI.free {w : World} {b i : Nat} {C : Array Value} (h : RowI w b C) : w.frozen? ⟨b, i, none⟩ = false := by
  unfold RowI at h; unfold World.frozen?; simp only [h]; simp
theorem RowI.set {w : World} {b i : Nat} {C : Array Value} (h : RowI w b C) (v : Value) : RowI (w.setCell ⟨b, i, none⟩ v) b (C.setIfInBounds i v) := Joins.block_setCell h v
theorem RowI.lt {w : World} {b : Nat} {C : Array Value} (h : RowI w b C) : b < w.heap.size := (Array.getElem?_eq_some_iff.1 h).1
/-- A row of n cells whose first k are the ints of f. -/
def FilledI (w : World) (b n k : Nat) (f : Nat → Int) : Prop := ∃ C, RowI w b C ∧ C.size = n ∧ ∀ i, i < k → C[i]? = some (.int .i64 (f i))
theorem FilledI.step {w : World} {b n k : Nat} {f : Nat → Int} (h : FilledI w b n k f) (hk : k < n) : FilledI (w.setCell ⟨b, k, none⟩ (.int .i64 (f k))) b n (k + 1) f := by
  obtain ⟨C, hC, hn, hf⟩ := h
  refine ⟨C.setIfInBounds k (.int .i64 (f k)), hC.set _, by simpa using hn, fun i hi => ?_⟩
  by_cases e : i = k
  · subst e; simp [hn, hk]
  · rw [Array.getElem?_setIfInBounds_ne (by omega)]; exact hf i (by omega)
theorem FilledI.ints {w : World} {b n : Nat} {f : Nat → Int} (h : FilledI w b n n f) : IntsAt w.heap.size w (some ⟨b, 0, none⟩) n f := by
  obtain ⟨C, hC, _, hf⟩ := h
  intro i hi
  exact ⟨b, 0, rfl, hC.lt, by rw [Nat.zero_add]; exact hC.cell (hf i hi)⟩
theorem infoInt : (Try.prog.info? 3).map (fun i => (i.zero, i.size, i.bytes)) = some (some (.int .i64 0), 1, 8) := by kernel_rfl
theorem madeI_size (z : Array Value) (n : Nat) (hz : z.size = 1) : (madeCells z n).size = n := by
  unfold madeCells; simp [hz]
theorem madeRowI (w : World) (n : Nat) (f : Nat → Int) : FilledI (w.alloc (.cells (madeCells #[.int .i64 0] n) 3)) w.heap.size n 0 f :=
  ⟨_, (MapKept.heap_alloc w _).1, madeI_size _ n rfl, fun _ hi => absurd hi (Nat.not_lt_zero _)⟩
set_option maxHeartbeats 1000000 in
theorem toInts (a : Option Addr) (n cap : Nat) (f : Nat → Int) (w : World) (hs : IntsAt w.heap.size w a n f) (hn : n ≤ 1048576) :
    Calls Try.prog 14 #[.slice a n cap] w fun e w' => e = .returned (.slice (some ⟨w.heap.size, 0, none⟩) n n) ∧ FilledI w' w.heap.size n n f ∧ Below w.heap.size w w' := by
  have S := Lib.hid hs
  clear hs
  have hmk := run_make_row' (P := Try.prog) 22 3 (.int .i64 0) 8 Try.underlying22 infoInt rfl .i64 .i64 n (by omega) (by omega) w
  go_enter Try.func14, Try.ntmps14
  go_wp2
  go_loopw [4] (fun i wr => ∃ k : Nat, k ≤ n ∧ i = .int .i64 k ∧ FilledI wr w.heap.size n k f ∧ Below w.heap.size w wr) (fun i _ => n - (intOf i).toNat)
  case atStart => exact ⟨0, Nat.zero_le _, rfl, madeRowI w n f, (Below.refl _ w).alloc (Nat.le_refl _) _⟩
  case round =>
    obtain ⟨k, hk, rfl, hF, hb⟩ := hrel
    clear hmk
    by_cases hlt : k < n
    · obtain ⟨b, off, rfl, hbB, hc⟩ := (S.out.below hb) k hlt
      have hfree : wr.frozen? ⟨w.heap.size, k, none⟩ = false := by obtain ⟨C, hC, _, _⟩ := hF; exact hC.free
      obtain ⟨v0, hold⟩ : ∃ v0, wr.cell? ⟨w.heap.size, k, none⟩ = some v0 := by
        obtain ⟨C, hC, hn', _⟩ := hF
        exact ⟨C[k]'(by omega), hC.cell (by simp [hn', hlt])⟩
      have NEXT := Lib.hid (hF.step hlt)
      have BNEXT := Lib.hid (hb.setCell (p := ⟨w.heap.size, k, none⟩) (Nat.le_refl _) (.int .i64 (f k)))
      have HF := Lib.hid hF
      have HB := Lib.hid hb
      clear hF hb
      go_wp2
      go_roundw
      case rel => exact ⟨k + 1, by omega, by go_num, NEXT.out, BNEXT.out⟩
      case measure => simp [intOf]; omega
    · obtain rfl : k = n := by omega
      go_wp2
      go_ret
      exact ⟨rfl, hF, hb⟩

set_option maxHeartbeats 1000000 in
/-- Two slices of the same ints are equal. -/
theorem eqInts (a b : Option Addr) (n ca cb : Nat) (f g : Nat → Int) (B : Nat) (w : World) (ha : IntsAt B w a n f) (hb : IntsAt B w b n g) (hn : n ≤ 9223372036854775807) (he : ∀ i, i < n → f i = g i) :
    Calls Try.prog 17 #[.slice a n ca, .slice b n cb] w fun e w' => e = .returned (.bool true) ∧ ∃ m, w' = w.drewN m := by
  have SA := Lib.hid ha
  have SB := Lib.hid hb
  have HE := Lib.hid he
  clear ha hb he
  go_enter Try.func17, Try.ntmps17
  go_wp2
  go_loopw [5] (fun i wr => ∃ k m : Nat, k ≤ n ∧ i = .int .i64 k ∧ wr = w.drewN m) (fun i _ => n - (intOf i).toNat)
  case atStart => exact ⟨0, 0, Nat.zero_le _, rfl, rfl⟩
  case round =>
    obtain ⟨k, m, hk, rfl, rfl⟩ := hrel
    by_cases hlt : k < n
    · obtain ⟨ba, oa, rfl, _, hca⟩ := SA.out k hlt
      obtain ⟨bb, ob, rfl, _, hcb⟩ := SB.out k hlt
      have hlt' : (k : Int) < (n : Int) := by omega
      rw [← HE.out k hlt] at hcb
      go_wp2
      go_quiet (fail)
      go_wp2
      go_roundw
      case rel => exact ⟨k + 1, m + nq, by omega, by go_num, rfl⟩
      case measure => simp [intOf]; omega
    · go_wp2
      go_ret
      exact ⟨rfl, m, rfl⟩
theorem cellI_lt {w : World} {p : Addr} {v : Value} (h : w.cell? p = some v) : p.block < w.heap.size := by
  unfold World.cell? at h
  rcases Nat.lt_or_ge p.block w.heap.size with h' | h'
  · exact h'
  · rw [Array.getElem?_eq_none h'] at h; cases h
theorem cellsIntOf : Try.prog.cellsOf 3 = 1 := by kernel_rfl
/-- What a slice of ints that came in holds. -/
theorem ints_in {H : Type} {enc : TypeId × Value → H} {W : World} {base : Nat} {sp : Nat → Bool} {held : Bool} {fuel : Nat} {a : Option Addr} {n cap : Nat} {x : DataW H × List MemPlace}
    (hf : DataW.trod enc Try.prog W base sp held fuel 22 (Value.slice a n cap).cells.toList = some x) :
    ∃ f : Nat → Int, IntsAt W.heap.size W a n f ∧ n ≤ maxLen := by
  rcases ChangeShapes.open_ints Try.underlying22 Try.underlying3 cellsIntOf hf with ⟨hcs, _⟩ | ⟨b, l, c, zs, hcs, _, hl, hm, hz, _, hcell, hws⟩
  · simp [Value.cells] at hcs
    obtain ⟨rfl, rfl, rfl⟩ := hcs
    exact ⟨fun _ => 0, fun i hi => absurd hi (Nat.not_lt_zero _), Nat.zero_le _⟩
  · simp [Value.cells] at hcs
    obtain ⟨rfl, rfl, rfl⟩ := hcs
    refine ⟨fun i => zs.getD i 0, fun i hi => ?_, by omega⟩
    have hlen : i < zs.length := by rw [hz]; split <;> omega
    have hc := hcell i hlen
    obtain ⟨bb, off, spot⟩ := b
    have hspot : spot = none := by simpa [Addr.add] using World.cell?_spot (hcell 0 (by omega))
    subst hspot
    have e : (⟨bb, off, none⟩ : Addr).add i = ⟨bb, off + i, none⟩ := by
      unfold Addr.add
      split
      · rename_i h; subst h; rfl
      · rfl
    rw [e] at hc
    exact ⟨bb, off, rfl, cellI_lt hc, hc⟩
end Go.Proofs.Yteigfhenbmhepaa
