/- The laws' own marks: what they write into a slice of strings, and read again. -/
import Derived.Test.YtogkbfafdlbodaaDoorRows
import Derived.Test.YtogkbfafdlbodaaDoorFmtMath
import Derived.Test.YtogkbfafdlbodaaDoorSplitImpl
import Derived.Test.YtogkbfafdlbodaaDoorStrs
import Derived.WalkKit
import Derived.WalkSpells
import Derived.WalkLawsBesides
import Derived.Lib.Hide
import Derived.Deep.RegionHeld3
namespace Go.Proofs.YtogkbfafdlbodaaDoor
open Go.RowKit

theorem ret_strM {a b : ByteArray} (h : a = b) : Ending.returned (.string a) = .returned (.string b) := by rw [h]
theorem int_eqM {a b : Int} (h : a = b) : Value.int .i64 a = Value.int .i64 b := by rw [h]
/-- The mark of a number. -/
def markB (k : Nat) : ByteArray := ⟨(109 :: Lib.decDigits k).toArray⟩
theorem conv_byteM (wr : World) (x : Int) (u : UInt8) (hx : x = u.toNat) :
    (convert 22 9 (.slice (some ⟨wr.heap.size, 0, none⟩) 1 1)).run Tryd.prog (wr.alloc (.cells #[.int .u8 x] 5)) = .ok (.string ⟨[u].toArray⟩) (wr.alloc (.cells #[.int .u8 x] 5)) := by
  subst hx
  refine run_convert_bytes_back _ 22 9 5 ⟨wr.heap.size, 0, none⟩ 1 [u] Tryd.underlying22 Tryd.underlying5 Tryd.underlying9 ?_
  intro j hj
  have hj0 : j = 0 := by simpa using hj
  subst hj0
  have hh : (wr.alloc (.cells #[.int .u8 (u.toNat : Int)] 5)).heap[wr.heap.size]? = some (.cells #[.int .u8 (u.toNat : Int)] 5) := (MapKept.heap_alloc wr _).1
  have hcell : (wr.alloc (.cells #[.int .u8 (u.toNat : Int)] 5)).cell? ⟨wr.heap.size, 0, none⟩ = some (.int .u8 (u.toNat : Int)) := by
    unfold World.cell?
    simp only [hh]
    rfl
  exact hcell
theorem digC_natM {d : Nat} (h : d < 10) : (digC d).toNat = 48 + d := by
  unfold digC; rw [UInt8.toNat_ofNat']; omega

set_option maxHeartbeats 1000000 in
theorem markText_any (n : Nat) (w : World) (h0 : 1 ≤ n) (h : n ≤ 2097152) :
    Calls Tryd.prog 42 #[.int .i64 n] w fun e w' => e = .returned (.string (markB n)) ∧ Below w.heap.size w w' := by
  go_enter Tryd.func42, Tryd.ntmps42
  go_wp2
  go_loopw [0, 3] (fun x v wr => ∃ a : Nat, a ≤ n ∧ x = .int .i64 a ∧ DigAt n a v ∧ Below w.heap.size w wr) (fun x _ _ => (intOf x).toNat)
  case atStart => exact ⟨n, Nat.le_refl _, rfl, DigAt.start n, Below.refl _ _⟩
  case round =>
    obtain ⟨a, ha, rfl, ⟨acc, rfl, hd⟩, hb⟩ := hrel
    have hal := acc_len hd (by omega) h0
    have D := Lib.hid hd
    have BB := Lib.hid hb
    clear hd hb
    by_cases hz : 0 < a
    · have hcv := conv_byteM wr (48 + (a : Int) % 10) (digC (a % 10)) (by rw [digC_natM (by omega)]; omega)
      go_wp2
      go_roundw
      case rel => exact ⟨a / 10, by omega, by go_num, DigAt.step D.out (by omega) rfl, BB.out.alloc BB.out.size _⟩
      case measure => simp [intOf]; omega
    · obtain rfl : a = 0 := by omega
      have X := Lib.hid (digs_pos n (by omega))
      go_wp2
      go_ret
      exact ⟨ret_strM (by unfold markB; rw [← X.out, ← D.out]; exact bytes_cat [109] acc), BB.out⟩

theorem markText_at (j : Nat) (h : j < 1048576) (W : World) : Calls Tryd.prog 42 #[.int .i64 (1 + (j : Int))] W fun e w' => e = .returned (.string (markB (1 + j))) ∧ Below W.heap.size W w' := by
  have e1 : (1 : Int) + (j : Int) = ((1 + j : Nat) : Int) := by omega
  rw [e1]
  exact markText_any (1 + j) W (by omega) (by omega)
theorem held_step {w w1 w2 : World} {p : Addr} {v : Value} (hp : p.block < w.heap.size) (h : Below w.heap.size w w1 ∧ w1.cell? p = some v) (hb : Below w1.heap.size w1 w2) : Below w.heap.size w w2 ∧ w2.cell? p = some v :=
  ⟨h.1.trans (hb.mono h.1.size), by rw [hb.cell (Nat.lt_of_lt_of_le hp h.1.size)]; exact h.2⟩

def marks (n : Nat) : List Value := (List.range n).map (fun i => .string (markB (1 + i)))
theorem marks_succ (n : Nat) : marks (n + 1) = marks n ++ [.string (markB (1 + n))] := by unfold marks; rw [List.range_succ, List.map_append]; rfl
theorem marks_len (n : Nat) : (marks n).length = n := by simp [marks]
theorem marks_set (j : Nat) (cs : List Value) (h : j < cs.length) : (marks j ++ cs.drop j).set j (.string (markB (1 + j))) = marks (j + 1) ++ cs.drop (j + 1) := by
  rw [List.set_append_right _ _ (by rw [marks_len]; exact Nat.le_refl _), marks_len, Nat.sub_self, List.drop_eq_getElem_cons h, List.set_cons_zero, marks_succ]
  simp

set_option maxHeartbeats 1000000 in
theorem markStrs (a : Option Addr) (n cap B : Nat) (cs : List Value) (w : World) (hown : w.ownsRow B 9 1 (.slice a n cap) n cs) (hn : n ≤ 1048576) (hB : B ≤ w.heap.size) :
    Calls Tryd.prog 27 #[.slice a n cap, .int .i64 1] w fun e w' => e = .returned (.int .i64 (1 + (n : Int))) ∧ w'.ownsRow B 9 1 (.slice a n cap) n (marks n) ∧ Below B w w' := by
  have hcs : cs.length = n := by have := hown.1; omega
  have O := Lib.hid hown
  clear hown
  go_enter Tryd.func27, Tryd.ntmps27
  go_wp2
  go_loopw [1, 5] (fun kv iv wr => ∃ j : Nat, j ≤ n ∧ iv = .int .i64 j ∧ kv = .int .i64 (1 + (j : Int)) ∧ wr.ownsRow B 9 1 (.slice a n cap) n (marks j ++ cs.drop j) ∧ Below B w wr) (fun _ iv _ => n - (intOf iv).toNat)
  case atStart => exact ⟨0, Nat.zero_le _, rfl, rfl, O.out, Below.refl _ _⟩
  case round =>
    obtain ⟨j, hj, rfl, rfl, hown, hb⟩ := hrel
    have OW := Lib.hid hown
    have BB := Lib.hid hb
    clear hown hb
    by_cases hlt : j < n
    · obtain ⟨g, rfl⟩ : ∃ g, a = some ⟨g, 0, none⟩ := by
        rcases OW.out.2 with ⟨h1, h2⟩ | ⟨g, c, cur, h1, _⟩
        · omega
        · simp only [Value.slice.injEq] at h1
          exact ⟨g, h1.1⟩
      have MT := Lib.hid (markText_at j (by omega))
      go_wp2_with fail
      refine (MT.out _).mono ?_
      rintro e w1 ⟨rfl, b1⟩
      have O1 := Lib.hid (World.ownsRow.kept OW.out (grown_of b1) (Classical.em _))
      have B1 := Lib.hid (BB.out.trans (b1.mono (Nat.le_trans hB BB.out.size)))
      clear b1
      have hfree := O1.out.frozenAt j
      obtain ⟨v0, hold⟩ : ∃ v0, w1.cell? ⟨g, j, none⟩ = some v0 := by
        rw [O1.out.cellAt j (by omega)]
        exact ⟨_, List.getElem?_eq_getElem (by rw [List.length_append, marks_len, List.length_drop]; omega)⟩
      have ST := Lib.hid (O1.out.stored j (.string (markB (1 + j))))
      have hg : B ≤ g := by
        rcases O1.out.2 with ⟨h1, h2⟩ | ⟨g', c, cur, h1, h2, _⟩
        · omega
        · simp only [Value.slice.injEq, Option.some.injEq, Addr.mk.injEq] at h1; omega
      have B2 := Lib.hid (B1.out.setCell (p := ⟨g, j, none⟩) hg (.string (markB (1 + j))))
      go_wp2
      go_roundw
      case rel => exact ⟨j + 1, by omega, by go_num, int_eqM (by omega), by rw [← marks_set j cs (by omega)]; exact ST.out.1, B2.out⟩
      case measure => simp [intOf]; omega
    · obtain rfl : j = n := by omega
      go_wp2
      go_ret
      exact ⟨rfl, by have := OW.out; rwa [List.drop_of_length_le (by omega), List.append_nil] at this, BB.out⟩

set_option maxHeartbeats 1000000 in
theorem heldStrs (a : Option Addr) (n cap : Nat) (w : World) (hs : StrsAt w.heap.size w a n (fun i => markB (1 + i))) (hn : n ≤ 1048576) :
    Calls Tryd.prog 28 #[.slice a n cap, .int .i64 1] w fun e w' => e = .returned (.int .i64 (1 + (n : Int))) ∧ Below w.heap.size w w' := by
  have S := Lib.hid hs
  clear hs
  go_enter Tryd.func28, Tryd.ntmps28
  go_wp2
  go_loopw [1, 5] (fun kv iv wr => ∃ j : Nat, j ≤ n ∧ iv = .int .i64 j ∧ kv = .int .i64 (1 + (j : Int)) ∧ Below w.heap.size w wr) (fun _ iv _ => n - (intOf iv).toNat)
  case atStart => exact ⟨0, Nat.zero_le _, rfl, rfl, Below.refl _ _⟩
  case round =>
    obtain ⟨j, hj, rfl, rfl, hb⟩ := hrel
    have BB := Lib.hid hb
    clear hb
    by_cases hlt : j < n
    · obtain ⟨b, off, rfl, hbB, hc⟩ := (S.out.below BB.out) j hlt
      have hlt' : (j : Int) < (n : Int) := by omega
      have hbw : b < wr.heap.size := Nat.lt_of_lt_of_le hbB BB.out.size
      have MT := Lib.hid (markText_at j (by omega))
      have HB := Lib.hid BB.out
      have HC := Lib.hid hc
      go_wp2
      go_region_held3 (fun w' => Below w.heap.size w w' ∧ w'.cell? ⟨b, off + j, none⟩ = some (.string (markB (1 + j)))) (first | exact ⟨HB.out.drew, HC.out⟩ | exact held_step hbB (by assumption) (by assumption)) (first | (go_at_call 42; refine (MT.out _).mono ?_; rintro e w1 ⟨rfl, b1⟩))
      go_wp2
      go_roundw
      case rel => exact ⟨j + 1, by omega, by go_num, int_eqM (by omega), ‹Below w.heap.size w _ ∧ _›.1⟩
      case measure => simp [intOf]; omega
    · obtain rfl : j = n := by omega
      go_wp2
      go_ret
      exact ⟨rfl, BB.out⟩
theorem splitF_count : ∀ (f : Nat) (l : List UInt8) (xs : List (List UInt8)), splitF f l = some xs → xs.length ≤ f
  | f, [], xs, h => by
    have e : splitF f [] = some [] := by cases f <;> rfl
    rw [e] at h; cases h; exact Nat.zero_le _
  | 0, _ :: _, xs, h => by simp [splitF] at h
  | f + 1, b :: r, xs, h => by
    simp only [splitF] at h
    cases hs : fieldStep (b :: r) with
    | none => rw [hs] at h; cases h
    | some p =>
      rw [hs] at h
      simp only [Option.map_eq_some_iff] at h
      obtain ⟨ys, hy, rfl⟩ := h
      have := splitF_count f p.2 ys hy
      simp only [List.length_cons]; omega
theorem splitF_size (s : ByteArray) : ((splitF s.data.toList.length s.data.toList).getD []).length ≤ s.size := by
  cases h : splitF s.data.toList.length s.data.toList with
  | none => exact Nat.zero_le _
  | some xs => have := splitF_count _ _ _ h; rw [size_list] at this; exact this
/-- A row of the call's own, as a slice of strings. -/
theorem row_open {B n : Nat} {w : World} {v : Value} {cs : List Value} {f : Nat → ByteArray} (h : w.ownsRow B 9 1 v n cs) (hf : ∀ i, i < n → cs[i]? = some (.string (f i))) :
    ∃ a cap, v = .slice a n cap ∧ StrsAt w.heap.size w a n f := by
  rcases h.2 with ⟨rfl, rfl⟩ | ⟨g, cap, cur, rfl, _, hg, _⟩
  · exact ⟨none, 0, rfl, fun i hi => absurd hi (Nat.not_lt_zero _)⟩
  · refine ⟨some ⟨g, 0, none⟩, cap, rfl, fun i hi => ⟨g, 0, rfl, ?_, ?_⟩⟩
    · exact (h.lt g rfl).2
    · rw [Nat.zero_add, h.cellAt i (by omega)]; exact hf i hi
/-- The i-th string of a list. -/
def strOf (xs : List (List UInt8)) (i : Nat) : ByteArray := ⟨(xs.getD i []).toArray⟩
theorem own_open {B : Nat} {w : World} {v : Value} {xs : List (List UInt8)} (h : OwnStrs B w v xs) : ∃ a cap, v = .slice a xs.length cap ∧ StrsAt w.heap.size w a xs.length (strOf xs) := by
  refine row_open h fun i hi => ?_
  rw [List.getElem?_map, List.getElem?_eq_getElem hi]
  simp [mkS, strOf, List.getD_eq_getElem?_getD, hi]
theorem marks_open {B n : Nat} {w : World} {a : Option Addr} {cap : Nat} (h : w.ownsRow B 9 1 (.slice a n cap) n (marks n)) : StrsAt w.heap.size w a n (fun i => markB (1 + i)) := by
  obtain ⟨a', cap', e, hs⟩ := row_open h (f := fun i => markB (1 + i)) (fun i hi => by simp [marks, hi])
  simp only [Value.slice.injEq] at e
  rw [e.1]; exact hs
end Go.Proofs.YtogkbfafdlbodaaDoor
