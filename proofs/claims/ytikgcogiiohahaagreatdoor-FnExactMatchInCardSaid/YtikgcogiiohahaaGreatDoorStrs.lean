/- Slices of strings in memory, and the laws' own helpers on them. -/
import Derived.Test.YtikgcogiiohahaaGreatDoorRows
import Derived.WalkKit
import Derived.WalkSpells
import Derived.WalkLawsBesides
import Derived.Lib.Hide
import Derived.Lib.SmallJoins
import Derived.SliceStrings
import Derived.ProofKit
import Derived.Deep.OwnRows
import Derived.BigQuiet
import Derived.Deep.QuietTactic
namespace Go.Proofs.YtikgcogiiohahaaGreatDoor
set_option maxRecDepth 100000
open Go.RowKit

/-- The slice at a holds the n strings f 0, f 1, .., in a block below B. -/
def StrsAt (B : Nat) (w : World) (a : Option Addr) (n : Nat) (f : Nat → ByteArray) : Prop := ∀ i, i < n → ∃ b off, a = some ⟨b, off, none⟩ ∧ b < B ∧ w.cell? ⟨b, off + i, none⟩ = some (.string (f i))
theorem StrsAt.below {B : Nat} {w w1 : World} {a : Option Addr} {n : Nat} {f : Nat → ByteArray} (h : StrsAt B w a n f) (hb : Below B w w1) : StrsAt B w1 a n f := by
  intro i hi
  obtain ⟨b, off, e, hlt, hc⟩ := h i hi
  exact ⟨b, off, e, hlt, by rw [hb.cell hlt]; exact hc⟩
theorem StrsAt.mono {B B' : Nat} {w : World} {a : Option Addr} {n : Nat} {f : Nat → ByteArray} (h : StrsAt B w a n f) (hB : B ≤ B') : StrsAt B' w a n f := by
  intro i hi
  obtain ⟨b, off, e, hlt, hc⟩ := h i hi
  exact ⟨b, off, e, by omega, hc⟩
/-- The same memory, some draws later. -/
def Drawn (w w1 : World) : Prop := ∃ m, w1 = w.drewN m
theorem Drawn.refl (w : World) : Drawn w w := ⟨0, rfl⟩
theorem Drawn.more {w w1 : World} (h : Drawn w w1) (n : Nat) : Drawn w (w1.drewN n) := by obtain ⟨m, rfl⟩ := h; exact ⟨m + n, World.drewN_drewN _ _ _⟩
theorem Drawn.below {w w1 : World} (h : Drawn w w1) (B : Nat) : Below B w w1 := by obtain ⟨m, rfl⟩ := h; exact below_drewN (Below.refl _ _) m
theorem StrsAt.drawn {B : Nat} {w w1 : World} {a : Option Addr} {n : Nat} {f : Nat → ByteArray} (h : StrsAt B w a n f) (hd : Drawn w w1) : StrsAt B w1 a n f := h.below (hd.below B)
/-- How many bytes the first n strings have. -/
def sumF (f : Nat → ByteArray) : Nat → Nat
  | 0 => 0
  | n + 1 => sumF f n + (f n).size
theorem sumF_mono (f : Nat → ByteArray) {k n : Nat} (h : k ≤ n) : sumF f k ≤ sumF f n := by
  induction n with
  | zero => have : k = 0 := by omega
            subst this; exact Nat.le_refl _
  | succ n ih =>
    by_cases e : k = n + 1
    · subst e; exact Nat.le_refl _
    · have := ih (by omega); simp only [sumF]; omega
theorem sumF_at (f : Nat → ByteArray) {k n : Nat} (h : k < n) : sumF f k + (f k).size ≤ sumF f n := by
  have := sumF_mono f (show k + 1 ≤ n by omega)
  simpa only [sumF] using this

theorem ret_i64S {a b : Int} (h : a = b) : Ending.returned (.int .i64 a) = .returned (.int .i64 b) := by rw [h]
def szR (left : Int) (n : Nat) (f : Nat → ByteArray) : Int := if (n : Int) + sumF f n ≤ left then left - n - sumF f n else -1

set_option maxHeartbeats 1000000 in
theorem szStrs (a : Option Addr) (n cap : Nat) (left : Int) (f : Nat → ByteArray) (B : Nat) (w : World) (hs : StrsAt B w a n f) (hn : n ≤ 9223372036854775807) (hl0 : 0 ≤ left) (hl1 : left ≤ 1048576) (hsz : ∀ i, i < n → (f i).size ≤ 9223372036854775807) :
    Calls Tryz.prog 13 #[.slice a n cap, .int .i64 left] w fun e w' => e = .returned (.int .i64 (szR left n f)) ∧ w = w' := by
  by_cases h0 : left < n
  · have X := Lib.hid (show szR left n f = -1 by unfold szR; rw [if_neg (by omega)])
    clear hs hsz
    go_enter Tryz.func13, Tryz.ntmps13
    go_wp2
    go_ret
    exact ⟨ret_i64S X.out.symm, rfl⟩
  · have S := Lib.hid hs
    have Z := Lib.hid hsz
    clear hs hsz
    go_enter Tryz.func13, Tryz.ntmps13
    go_wp2
    go_loop [1, 5] (fun v i => ∃ k : Nat, k ≤ n ∧ i = .int .i64 k ∧ (n : Int) + sumF f k ≤ left ∧ v = .int .i64 (left - n - sumF f k)) (fun _ i => n - (intOf i).toNat)
    case atStart => exact ⟨0, Nat.zero_le _, rfl, by simp [sumF]; omega, by simp [sumF]⟩
    case round =>
      obtain ⟨k, hk, rfl, hle, rfl⟩ := hrel
      by_cases hlt : k < n
      · obtain ⟨b, off, rfl, hbB, hc⟩ := S.out k hlt
        have hz := Z.out k hlt
        by_cases hbig : left < (n : Int) + sumF f k + (f k).size
        · have X := Lib.hid (show szR left n f = -1 by unfold szR; have := sumF_at f hlt; rw [if_neg (by omega)])
          go_wp2
          go_ret
          exact ⟨ret_i64S X.out.symm, rfl⟩
        · go_wp2
          go_round
          case rel => exact ⟨k + 1, by omega, by go_num, by simp only [sumF]; omega, by simp only [sumF]; congr 1; omega⟩
          case measure => simp [intOf]; omega
      · obtain rfl : k = n := by omega
        have X := Lib.hid (show szR left k f = left - k - sumF f k by unfold szR; rw [if_pos hle])
        go_wp2
        go_ret
        exact ⟨ret_i64S X.out.symm, rfl⟩

/-- Block b holds the cells C. -/
def RowS (w : World) (b : Nat) (C : Array Value) : Prop := w.heap[b]? = some (.cells C 9 (0, 0))
theorem RowS.cell {w : World} {b i : Nat} {C : Array Value} {v : Value} (h : RowS w b C) (hv : C[i]? = some v) : w.cell? ⟨b, i, none⟩ = some v := by
  unfold RowS at h; unfold World.cell?; simp only [h]; exact hv
theorem RowS.free {w : World} {b i : Nat} {C : Array Value} (h : RowS w b C) : w.frozen? ⟨b, i, none⟩ = false := by
  unfold RowS at h; unfold World.frozen?; simp only [h]; simp
theorem RowS.set {w : World} {b i : Nat} {C : Array Value} (h : RowS w b C) (v : Value) : RowS (w.setCell ⟨b, i, none⟩ v) b (C.setIfInBounds i v) := Joins.block_setCell h v
theorem RowS.lt {w : World} {b : Nat} {C : Array Value} (h : RowS w b C) : b < w.heap.size := (Array.getElem?_eq_some_iff.1 h).1
/-- A row of n cells whose first k are the strings of f. -/
def Filled (w : World) (b n k : Nat) (f : Nat → ByteArray) : Prop := ∃ C, RowS w b C ∧ C.size = n ∧ ∀ i, i < k → C[i]? = some (.string (f i))
theorem Filled.step {w : World} {b n k : Nat} {f : Nat → ByteArray} (h : Filled w b n k f) (hk : k < n) : Filled (w.setCell ⟨b, k, none⟩ (.string (f k))) b n (k + 1) f := by
  obtain ⟨C, hC, hn, hf⟩ := h
  refine ⟨C.setIfInBounds k (.string (f k)), hC.set _, by simpa using hn, fun i hi => ?_⟩
  by_cases e : i = k
  · subst e; simp [hn, hk]
  · rw [Array.getElem?_setIfInBounds_ne (by omega)]; exact hf i (by omega)
theorem Filled.strs {w : World} {b n : Nat} {f : Nat → ByteArray} (h : Filled w b n n f) : StrsAt w.heap.size w (some ⟨b, 0, none⟩) n f := by
  obtain ⟨C, hC, _, hf⟩ := h
  intro i hi
  exact ⟨b, 0, rfl, hC.lt, by rw [Nat.zero_add]; exact hC.cell (hf i hi)⟩
theorem infoStr : (Tryz.prog.info? 9).map (fun i => (i.zero, i.size, i.bytes)) = some (some (.string ⟨#[]⟩), 1, 16) := by kernel_rfl
theorem made_size (z : Array Value) (n : Nat) : (madeCells z n).size = n := by
  unfold madeCells; simp
theorem madeRow (w : World) (n : Nat) (f : Nat → ByteArray) : Filled (w.alloc (.cells (madeCells #[.string ⟨#[]⟩] n) 9)) w.heap.size n 0 f :=
  ⟨_, (MapKept.heap_alloc w _).1, made_size _ n, fun _ hi => absurd hi (Nat.not_lt_zero _)⟩

set_option maxHeartbeats 1000000 in
theorem toStrs (a : Option Addr) (n cap : Nat) (f : Nat → ByteArray) (w : World) (hs : StrsAt w.heap.size w a n f) (hn : n ≤ 1048576) :
    Calls Tryz.prog 22 #[.slice a n cap] w fun e w' => e = .returned (.slice (some ⟨w.heap.size, 0, none⟩) n n) ∧ Filled w' w.heap.size n n f ∧ Below w.heap.size w w' := by
  have S := Lib.hid hs
  clear hs
  have hmk := run_make_row' (P := Tryz.prog) 24 9 (.string ⟨#[]⟩) 16 Tryz.underlying24 infoStr rfl .i64 .i64 n (by omega) (by omega) w
  go_enter Tryz.func22, Tryz.ntmps22
  go_wp2
  go_loopw [4] (fun i wr => ∃ k : Nat, k ≤ n ∧ i = .int .i64 k ∧ Filled wr w.heap.size n k f ∧ Below w.heap.size w wr) (fun i _ => n - (intOf i).toNat)
  case atStart => exact ⟨0, Nat.zero_le _, rfl, madeRow w n f, (Below.refl _ w).alloc (Nat.le_refl _) _⟩
  case round =>
    obtain ⟨k, hk, rfl, hF, hb⟩ := hrel
    clear hmk
    by_cases hlt : k < n
    · obtain ⟨b, off, rfl, hbB, hc⟩ := (S.out.below hb) k hlt
      have hfree : wr.frozen? ⟨w.heap.size, k, none⟩ = false := by obtain ⟨C, hC, _, _⟩ := hF; exact hC.free
      obtain ⟨v0, hold⟩ : ∃ v0, wr.cell? ⟨w.heap.size, k, none⟩ = some v0 := by
        obtain ⟨C, hC, hn', _⟩ := hF
        exact ⟨C[k]'(by omega), hC.cell (by simp [hn', hlt])⟩
      have NEXT := Lib.hid (hF.step hlt)
      have BNEXT := Lib.hid (hb.setCell (p := ⟨w.heap.size, k, none⟩) (Nat.le_refl _) (.string (f k)))
      have HF := Lib.hid hF
      have HB := Lib.hid hb
      clear hF hb
      go_wp2
      go_roundw
      case rel => exact ⟨k + 1, by omega, by go_num, NEXT.out, BNEXT.out⟩
      case measure => simp [intOf]; omega
    · obtain rfl : k = n := by omega
      go_wp2
      go_ret
      exact ⟨rfl, hF, hb⟩

set_option maxHeartbeats 1000000 in
/-- Two slices of the same strings are equal. -/
theorem eqStrs (a b : Option Addr) (n ca cb : Nat) (f g : Nat → ByteArray) (B : Nat) (w : World) (ha : StrsAt B w a n f) (hb : StrsAt B w b n g) (hn : n ≤ 9223372036854775807) (he : ∀ i, i < n → f i = g i) :
    Calls Tryz.prog 29 #[.slice a n ca, .slice b n cb] w fun e w' => e = .returned (.bool true) ∧ ∃ m, w' = w.drewN m := by
  have SA := Lib.hid ha
  have SB := Lib.hid hb
  have HE := Lib.hid he
  clear ha hb he
  go_enter Tryz.func29, Tryz.ntmps29
  go_wp2
  go_loopw [5] (fun i wr => ∃ k m : Nat, k ≤ n ∧ i = .int .i64 k ∧ wr = w.drewN m) (fun i _ => n - (intOf i).toNat)
  case atStart => exact ⟨0, 0, Nat.zero_le _, rfl, rfl⟩
  case round =>
    obtain ⟨k, m, hk, rfl, rfl⟩ := hrel
    by_cases hlt : k < n
    · obtain ⟨ba, oa, rfl, _, hca⟩ := SA.out k hlt
      obtain ⟨bb, ob, rfl, _, hcb⟩ := SB.out k hlt
      have hlt' : (k : Int) < (n : Int) := by omega
      rw [← HE.out k hlt] at hcb
      go_wp2
      go_quiet (fail)
      go_wp2
      go_roundw
      case rel => exact ⟨k + 1, m + nq, by omega, by go_num, rfl⟩
      case measure => simp [intOf]; omega
    · go_wp2
      go_ret
      exact ⟨rfl, m, rfl⟩
theorem cell_lt {w : World} {p : Addr} {v : Value} (h : w.cell? p = some v) : p.block < w.heap.size := by
  unfold World.cell? at h
  rcases Nat.lt_or_ge p.block w.heap.size with h' | h'
  · exact h'
  · rw [Array.getElem?_eq_none h'] at h; cases h
theorem cellsStrOf : Tryz.prog.cellsOf 9 = 1 := by kernel_rfl
/-- What a slice of strings that came in holds. -/
theorem strs_in {H : Type} {enc : TypeId × Value → H} {W : World} {base : Nat} {sp : Nat → Bool} {held : Bool} {fuel : Nat} {a : Option Addr} {n cap : Nat} {x : DataW H × List MemPlace}
    (hf : DataW.trod enc Tryz.prog W base sp held fuel 24 (Value.slice a n cap).cells.toList = some x) :
    ∃ f : Nat → ByteArray, StrsAt W.heap.size W a n f ∧ n ≤ maxLen ∧ ∀ i, (f i).size ≤ maxLen := by
  rcases ChangeShapes.open_strings Tryz.underlying24 Tryz.underlying9 cellsStrOf hf with ⟨hcs, _⟩ | ⟨b, l, c, ss, hcs, _, hl, hm, hz, _, hcell, hws⟩
  · simp [Value.cells] at hcs
    obtain ⟨rfl, rfl, rfl⟩ := hcs
    exact ⟨fun _ => ByteArray.empty, fun i hi => absurd hi (Nat.not_lt_zero _), Nat.zero_le _, fun _ => Nat.zero_le _⟩
  · simp [Value.cells] at hcs
    obtain ⟨rfl, rfl, rfl⟩ := hcs
    refine ⟨fun i => ss.getD i ByteArray.empty, fun i hi => ?_, by omega, fun i => ?_⟩
    · have hlen : i < ss.length := by rw [hz]; split <;> omega
      have hc := hcell i hlen
      obtain ⟨bb, off, spot⟩ := b
      have hspot : spot = none := by simpa [Addr.add] using World.cell?_spot (hcell 0 (by omega))
      subst hspot
      have e : (⟨bb, off, none⟩ : Addr).add i = ⟨bb, off + i, none⟩ := by
        unfold Addr.add
        split
        · rename_i h; subst h; rfl
        · rfl
      rw [e] at hc
      exact ⟨bb, off, rfl, cell_lt hc, hc⟩
    · show (ss.getD i ByteArray.empty).size ≤ maxLen
      by_cases hi : i < ss.length
      · rw [List.getD_eq_getElem?_getD, List.getElem?_eq_getElem hi]; exact hws _ (List.getElem_mem hi)
      · rw [List.getD_eq_getElem?_getD, List.getElem?_eq_none (by omega)]; exact Nat.zero_le _
end Go.Proofs.YtikgcogiiohahaaGreatDoor
