/- The laws' own marks: what they write into items and texts of a result, and read again. -/
import Derived.Test.YteoalkjngkcheaaRows
import Derived.Test.YteoalkjngkcheaaFmtMath
import Derived.Test.YteoalkjngkcheaaVecTo
import Derived.WalkKit
import Derived.WalkSpells
import Derived.WalkLawsBesides
import Derived.Lib.Hide
import Derived.Deep.RegionHeld3
namespace Go.Proofs.Yteoalkjngkcheaa
set_option maxRecDepth 100000
open Go.RowKit
set_option linter.unusedVariables false

theorem ret_strK {a b : ByteArray} (h : a = b) : Ending.returned (.string a) = .returned (.string b) := by rw [h]
theorem int_eqK {a b : Int} (h : a = b) : Value.int .i64 a = Value.int .i64 b := by rw [h]
/-- The mark of a number. -/
def mkT (k : Nat) : ByteArray := ⟨(109 :: Lib.decDigits k).toArray⟩
theorem conv_byteK (wr : World) (x : Int) (u : UInt8) (hx : x = u.toNat) :
    (convert 75 9 (.slice (some ⟨wr.heap.size, 0, none⟩) 1 1)).run Try.prog (wr.alloc (.cells #[.int .u8 x] 5)) = .ok (.string ⟨[u].toArray⟩) (wr.alloc (.cells #[.int .u8 x] 5)) := by
  subst hx
  refine run_convert_bytes_back _ 75 9 5 ⟨wr.heap.size, 0, none⟩ 1 [u] Try.underlying75 Try.underlying5 Try.underlying9 ?_
  intro j hj
  have hj0 : j = 0 := by simpa using hj
  subst hj0
  have hh : (wr.alloc (.cells #[.int .u8 (u.toNat : Int)] 5)).heap[wr.heap.size]? = some (.cells #[.int .u8 (u.toNat : Int)] 5) := (MapKept.heap_alloc wr _).1
  have hcell : (wr.alloc (.cells #[.int .u8 (u.toNat : Int)] 5)).cell? ⟨wr.heap.size, 0, none⟩ = some (.int .u8 (u.toNat : Int)) := by
    unfold World.cell?
    simp only [hh]
    rfl
  exact hcell
theorem digC_natK {d : Nat} (h : d < 10) : (digC d).toNat = 48 + d := by
  unfold digC; rw [UInt8.toNat_ofNat']; omega

set_option maxHeartbeats 1000000 in
theorem mkT_any (n : Nat) (w : World) (h0 : 1 ≤ n) (h : n ≤ 9000000) :
    Calls Try.prog 56 #[.int .i64 n] w fun e w' => e = .returned (.string (mkT n)) ∧ Below w.heap.size w w' := by
  go_enter Try.func56, Try.ntmps56
  go_wp2
  go_loopw [0, 3] (fun x v wr => ∃ a : Nat, a ≤ n ∧ x = .int .i64 a ∧ DigAt n a v ∧ Below w.heap.size w wr) (fun x _ _ => (intOf x).toNat)
  case atStart => exact ⟨n, Nat.le_refl _, rfl, DigAt.start n, Below.refl _ _⟩
  case round =>
    obtain ⟨a, ha, rfl, ⟨acc, rfl, hd⟩, hb⟩ := hrel
    have hal := acc_len hd (by omega) h0
    have D := Lib.hid hd
    have BB := Lib.hid hb
    clear hd hb
    by_cases hz : 0 < a
    · have hcv := conv_byteK wr (48 + (a : Int) % 10) (digC (a % 10)) (by rw [digC_natK (by omega)]; omega)
      go_wp2
      go_roundw
      case rel => exact ⟨a / 10, by omega, by go_num, DigAt.step D.out (by omega) rfl, BB.out.alloc BB.out.size _⟩
      case measure => simp [intOf]; omega
    · obtain rfl : a = 0 := by omega
      have X := Lib.hid (digs_pos n (by omega))
      go_wp2
      go_ret
      exact ⟨ret_strK (by unfold mkT; rw [← X.out, ← D.out]; exact bytes_cat [109] acc), BB.out⟩
theorem mkT_at (k j : Nat) (h0 : 1 ≤ k) (h : k + j ≤ 9000000) (W : World) : Calls Try.prog 56 #[.int .i64 ((k : Int) + (j : Int))] W fun e w' => e = .returned (.string (mkT (k + j))) ∧ Below W.heap.size W w' := by
  have e1 : (k : Int) + (j : Int) = ((k + j : Nat) : Int) := by omega
  rw [e1]
  exact mkT_any (k + j) W (by omega) h

/-- Nothing but blocks of F has changed. -/
structure Touch (F : List Nat) (w w' : World) : Prop where
  os : w'.os = w.os
  tape : w'.tape = w.tape
  output : w'.output = w.output
  size : w.heap.size ≤ w'.heap.size
  block : ∀ b, b < w.heap.size → b ∉ F → w'.heap[b]? = w.heap[b]?
theorem Touch.refl (F : List Nat) (w : World) : Touch F w w := ⟨rfl, rfl, rfl, Nat.le_refl _, fun _ _ _ => rfl⟩
theorem Touch.trans {F : List Nat} {a b c : World} (h : Touch F a b) (k : Touch F b c) : Touch F a c :=
  ⟨k.os.trans h.os, k.tape.trans h.tape, k.output.trans h.output, Nat.le_trans h.size k.size, fun i hi hF => (k.block i (Nat.lt_of_lt_of_le hi h.size) hF).trans (h.block i hi hF)⟩
theorem Touch.of_below {F : List Nat} {w w' : World} (h : Below w.heap.size w w') : Touch F w w' := ⟨h.os, h.tape, h.output, h.size, fun b hb _ => h.block b hb⟩
theorem Touch.mono {F G : List Nat} {w w' : World} (h : Touch F w w') (hs : ∀ b ∈ F, b ∈ G) : Touch G w w' := ⟨h.os, h.tape, h.output, h.size, fun b hb hG => h.block b hb (fun hF => hG (hs b hF))⟩
theorem Touch.below {F : List Nat} {B : Nat} {w w' : World} (h : Touch F w w') (hF : ∀ b ∈ F, B ≤ b) (hB : B ≤ w.heap.size) : Below B w w' :=
  ⟨h.os, h.tape, h.output, h.size, fun b hb => h.block b (Nat.lt_of_lt_of_le hb hB) (fun hm => by have := hF b hm; omega)⟩
theorem Touch.set {F : List Nat} {w w' : World} {b i : Nat} (h : Touch F w w') (hb : b ∈ F) (v : Value) : Touch F w (w'.setCell ⟨b, i, none⟩ v) :=
  ⟨h.os, h.tape, h.output, by simpa using h.size, fun g hg hF => by rw [Below.heap_setCell _ _ _ _ (show g ≠ b from fun e => hF (e ▸ hb))]; exact h.block g hg hF⟩

/-- A block of texts whose first j are those of g. -/
def MTx (w : World) (a : Option Addr) (F : List Nat) (n j : Nat) (g : Nat → ByteArray) : Prop :=
  (n = 0 ∧ F = []) ∨ ∃ b C, F = [b] ∧ a = some ⟨b, 0, none⟩ ∧ w.heap[b]? = some (.cells C 9 (0, 0)) ∧ n ≤ C.size ∧ ∀ i, i < j → C[i]? = some (.string (g i))
theorem OwnTxs.first {w : World} {a : Option Addr} {l : List ByteArray} {F : List Nat} (h : OwnTxs w a l F) (g : Nat → ByteArray) : MTx w a F l.length 0 g := by
  rcases h with ⟨rfl, h⟩ | ⟨b, C, h1, h2, h3, h4, _⟩
  · exact .inl ⟨rfl, h⟩
  · exact .inr ⟨b, C, h1, h2, h3, h4, fun i hi => absurd hi (Nat.not_lt_zero _)⟩
def markS (k n : Nat) : List ByteArray := (List.range n).map (fun i => mkT (k + i))
theorem markS_len (k n : Nat) : (markS k n).length = n := by simp [markS]
theorem markS_at {k n i : Nat} (h : i < n) : txtS (markS k n) i = mkT (k + i) := by unfold txtS markS; simp [List.getD_eq_getElem?_getD, h]
theorem MTx.own {w : World} {a : Option Addr} {F : List Nat} {k n : Nat} (h : MTx w a F n n (fun i => mkT (k + i))) : OwnTxs w a (markS k n) F := by
  rcases h with ⟨rfl, h⟩ | ⟨b, C, h1, h2, h3, h4, h5⟩
  · exact .inl ⟨rfl, h⟩
  · exact .inr ⟨b, C, h1, h2, h3, by rw [markS_len]; exact h4, fun i hi => by rw [markS_len] at hi; rw [markS_at hi]; exact h5 i hi⟩
theorem MTx.below {w w1 : World} {a : Option Addr} {F : List Nat} {n j : Nat} {g : Nat → ByteArray} (h : MTx w a F n j g) (hb : Below w.heap.size w w1) : MTx w1 a F n j g := by
  rcases h with h | ⟨b, C, h1, h2, h3, h⟩
  · exact .inl h
  · exact .inr ⟨b, C, h1, h2, blk_below hb h3, h⟩
theorem MTx.step {w : World} {b : Nat} {C : Array Value} {F : List Nat} {n j : Nat} {g : Nat → ByteArray} (hF : F = [b]) (hb : w.heap[b]? = some (.cells C 9 (0, 0))) (hn : n ≤ C.size) (h : ∀ i, i < j → C[i]? = some (.string (g i))) (hj : j < n) :
    MTx (w.setCell ⟨b, j, none⟩ (.string (g j))) (some ⟨b, 0, none⟩) F n (j + 1) g := by
  refine .inr ⟨b, _, hF, rfl, Joins.block_setCell hb _, by simpa using hn, fun i hi => ?_⟩
  by_cases e : i = j
  · subst e
    have : i < C.size := by omega
    simp [this]
  · rw [Array.getElem?_setIfInBounds_ne (by omega)]; exact h i (by omega)

set_option maxHeartbeats 1000000 in
theorem markTxs (l : List ByteArray) (a : Option Addr) (c k : Nat) (F : List Nat) (w : World) (h : OwnTxs w a l F) (hn : l.length ≤ 1048576) (h1 : 1 ≤ k) (hk : k + l.length ≤ 9000000) :
    Calls Try.prog 40 #[.slice a l.length c, .int .i64 k] w fun e w' => e = .returned (.int .i64 ((k : Int) + (l.length : Int))) ∧ OwnTxs w' a (markS k l.length) F ∧ Touch F w w' := by
  have M0 := Lib.hid (h.first (fun i => mkT (k + i)))
  clear h
  obtain ⟨n, hn'⟩ : ∃ n, l.length = n := ⟨_, rfl⟩
  rw [hn'] at hn hk M0 ⊢
  clear hn'
  go_enter Try.func40, Try.ntmps40
  go_wp2
  go_loopw [1, 5] (fun kv iv wr => ∃ j : Nat, j ≤ n ∧ iv = .int .i64 j ∧ kv = .int .i64 ((k : Int) + (j : Int)) ∧ MTx wr a F n j (fun i => mkT (k + i)) ∧ Touch F w wr) (fun _ iv _ => n - (intOf iv).toNat)
  case atStart => exact ⟨0, Nat.zero_le _, rfl, int_eqK (by omega), M0.out, Touch.refl _ _⟩
  case round =>
    obtain ⟨j, hj, rfl, rfl, hm, ht⟩ := hrel
    have TT := Lib.hid ht
    have MM := Lib.hid hm
    clear ht hm
    by_cases hlt : j < n
    · have MT := Lib.hid (mkT_at k j h1 (by omega))
      obtain ⟨b, C, hF, rfl, hC, hnC, hg⟩ : ∃ b C, F = [b] ∧ a = some ⟨b, 0, none⟩ ∧ wr.heap[b]? = some (.cells C 9 (0, 0)) ∧ n ≤ C.size ∧ ∀ i, i < j → C[i]? = some (.string (mkT (k + i))) := by
        rcases MM.out with ⟨h0, _⟩ | h
        · omega
        · exact h
      have HF := Lib.hid hF
      have HC := Lib.hid hC
      have HG := Lib.hid hg
      clear hF hC hg MM
      go_wp2_with fail
      with_reducible refine (MT.out _).mono ?_
      rintro e w1 ⟨rfl, b1⟩
      have C1 := Lib.hid (blk_below b1 HC.out)
      have T1 := Lib.hid (TT.out.trans (Touch.of_below b1))
      clear b1
      have hfree : w1.frozen? ⟨b, j, none⟩ = false := freeOf C1.out
      obtain ⟨v0, hold⟩ : ∃ v0, w1.cell? ⟨b, j, none⟩ = some v0 := ⟨_, cellOf C1.out (Array.getElem?_eq_getElem (by omega))⟩
      have NEXT := Lib.hid (MTx.step HF.out C1.out hnC HG.out hlt)
      have TN := Lib.hid (T1.out.set (i := j) (show b ∈ F by rw [HF.out]; exact List.mem_singleton.2 rfl) (.string (mkT (k + j))))
      go_wp2
      go_roundw
      case rel => exact ⟨j + 1, by omega, by go_num, int_eqK (by omega), NEXT.out, TN.out⟩
      case measure => simp [intOf]; omega
    · obtain rfl : j = n := by omega
      go_wp2
      go_ret
      exact ⟨rfl, MM.out.own, TT.out⟩

theorem held_stepK {w w1 w2 : World} {p : Addr} {v : Value} (hp : p.block < w.heap.size) (h : Below w.heap.size w w1 ∧ w1.cell? p = some v) (hb : Below w1.heap.size w1 w2) : Below w.heap.size w w2 ∧ w2.cell? p = some v :=
  ⟨h.1.trans (hb.mono h.1.size), by rw [hb.cell (Nat.lt_of_lt_of_le hp h.1.size)]; exact h.2⟩
set_option maxHeartbeats 1000000 in
theorem heldTxs (n : Nat) (a : Option Addr) (c k lo hi : Nat) (w : World) (hs : TextsAt lo hi w a (markS k n)) (hhi : hi ≤ w.heap.size) (hn : n ≤ 1048576) (h1 : 1 ≤ k) (hk : k + n ≤ 9000000) :
    Calls Try.prog 43 #[.slice a n c, .int .i64 k] w fun e w' => e = .returned (.int .i64 ((k : Int) + (n : Int))) ∧ Below w.heap.size w w' := by
  have A := Lib.hid (fun (j : Nat) (w1 : World) (hj : j < n) (hb : Below w.heap.size w w1) => (by
    obtain ⟨b, off, e, _, h2, c0⟩ := (hs.below hb hhi) j (mkT (k + j)) (by unfold markS; simp [hj])
    exact ⟨b, off, e, h2, c0⟩ : ∃ b off, a = some ⟨b, off, none⟩ ∧ b < hi ∧ w1.cell? ⟨b, off + j, none⟩ = some (.string (mkT (k + j)))))
  clear hs
  go_enter Try.func43, Try.ntmps43
  go_wp2
  go_loopw [1, 5] (fun kv iv wr => ∃ j : Nat, j ≤ n ∧ iv = .int .i64 j ∧ kv = .int .i64 ((k : Int) + (j : Int)) ∧ Below w.heap.size w wr) (fun _ iv _ => n - (intOf iv).toNat)
  case atStart => exact ⟨0, Nat.zero_le _, rfl, int_eqK (by omega), Below.refl _ _⟩
  case round =>
    obtain ⟨j, hj, rfl, rfl, hb⟩ := hrel
    have BB := Lib.hid hb
    clear hb
    by_cases hlt : j < n
    · obtain ⟨b, off, rfl, hbB, hc⟩ := A.out j _ hlt BB.out
      have hlt' : (j : Int) < (n : Int) := by omega
      have hbw : b < wr.heap.size := Nat.lt_of_lt_of_le (Nat.lt_of_lt_of_le hbB hhi) BB.out.size
      have hbw0 : b < w.heap.size := Nat.lt_of_lt_of_le hbB hhi
      have MT := Lib.hid (mkT_at k j h1 (by omega))
      have HB := Lib.hid BB.out
      have HC := Lib.hid hc
      go_wp2
      go_region_held3 (fun w' => Below w.heap.size w w' ∧ w'.cell? ⟨b, off + j, none⟩ = some (.string (mkT (k + j)))) (first | exact ⟨HB.out.drew, HC.out⟩ | exact held_stepK hbw0 (by assumption) (by assumption)) (first | (go_at_call 56; refine (MT.out _).mono ?_; rintro e w1 ⟨rfl, b1⟩))
      go_wp2
      go_roundw
      case rel => exact ⟨j + 1, by omega, by go_num, int_eqK (by omega), ‹Below w.heap.size w _ ∧ _›.1⟩
      case measure => simp [intOf]; omega
    · obtain rfl : j = n := by omega
      go_wp2
      go_ret
      exact ⟨rfl, BB.out⟩
end Go.Proofs.Yteoalkjngkcheaa
