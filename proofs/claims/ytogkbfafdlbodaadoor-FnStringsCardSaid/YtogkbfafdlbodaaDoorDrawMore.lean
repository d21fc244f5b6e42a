/- The laws' own draws of lists and numbers. -/
import Derived.Test.YtogkbfafdlbodaaDoorRows
import Derived.Test.YtogkbfafdlbodaaDoorDraw
import Derived.Test.YtogkbfafdlbodaaDoorSplitImpl
import Derived.Test.YtogkbfafdlbodaaDoorSplitSpec
import Derived.OwnWalk
import Derived.Maps.AppendAt
namespace Go.Proofs.YtogkbfafdlbodaaDoor
open Go.RowKit

/-- A short list of short strings, in a row of the call's own. -/
def WordsAt (B : Nat) (w : World) (v : Value) (most : Nat) : Prop := ∃ xs : List (List UInt8), OwnStrs B w v xs ∧ xs.length ≤ most ∧ ∀ x ∈ xs, x.length ≤ 21
theorem OwnStrs.grown {B p : Nat} {w w1 : World} {v : Value} {xs : List (List UInt8)} (h : OwnStrs B w v xs) (hg : w.grownBy w1 (some p)) (hp : p < B) : OwnStrs B w1 v xs :=
  World.ownsRow.kept h hg (by
    cases hv : v.ownBlock with
    | none => exact .inl rfl
    | some k => right; intro e; cases e; have := h.base p hv; omega)

theorem OwnStrs.lower {B B' : Nat} {w : World} {v : Value} {xs : List (List UInt8)} (h : OwnStrs B w v xs) (hB : B' ≤ B) : OwnStrs B' w v xs := by
  obtain ⟨h1, h2 | ⟨g, cap, cur, e, hb, rest⟩⟩ := h
  · exact ⟨h1, .inl h2⟩
  · exact ⟨h1, .inr ⟨g, cap, cur, e, Nat.le_trans hB hb, rest⟩⟩
/-- An append to a row of the call's own leaves block p alone. -/
theorem own_other {B p : Nat} {w w1 : World} {v : Value} {o : Obj} (hg : (w.alloc o).grownBy w1 v.ownBlock) (hv : ∀ k, v.ownBlock = some k → B ≤ k) (hpB : p < B) (hp : p < w.heap.size) : w1.heap[p]? = w.heap[p]? :=
  (hg.block p (by simp; omega) (fun e => by have := hv p e.symm; omega)).trans (Below.heap_alloc w o p hp)

theorem grown_app {w w2 w3 : World} {p : Nat} {v : Value} {o : Obj} (h : w.grownBy w2 (some p)) (hg : (w2.alloc o).grownBy w3 v.ownBlock) (hv : ∀ k, v.ownBlock = some k → w.heap.size ≤ k) : w.grownBy w3 (some p) := by
  have h2 := grown_alloc h o
  exact ⟨hg.os.trans h2.os, hg.tape.trans h2.tape, hg.output.trans h2.output, Nat.le_trans h2.size hg.size, fun i hi hne =>
    (hg.block i (Nat.lt_of_lt_of_le hi h2.size) (fun e => by have := hv i e.symm; omega)).trans (h2.block i hi hne)⟩
theorem CurAt.same {w w1 : World} {p : Nat} {a : Option Addr} {n cap : Nat} (h : CurAt w p a n cap) (e : w1.heap[p]? = w.heap[p]?) : CurAt w1 p a n cap := by
  obtain ⟨i, x, hi, hw⟩ := h
  exact ⟨i, x, hi, e.trans hw⟩

set_option maxHeartbeats 1000000 in
set_option maxRecDepth 100000 in
theorem drawWords (most : Nat) (hm : most ≤ 200) (a : Option Addr) (n cap p B : Nat) (w : World) (hs : CodeAt B w a n) (hB : B ≤ p) (hc : CurAt w p a n cap) (hn : n ≤ 1048576) :
    Calls Tryd.prog 35 #[.pointer (some ⟨p, 0, none⟩), .int .i64 most] w fun e w' => ∃ v, e = .returned v ∧ WordsAt w.heap.size w' v most ∧ CurAt w' p a n cap ∧ w.grownBy w' (some p) := by
  obtain ⟨i0, hi, hz0, hz1, hz2⟩ := info_parts infoStr
  have hp := hc.lt
  have S := Lib.hid hs
  have C := Lib.hid hc
  clear hs hc
  have E0 := Lib.hid (own_empty w.heap.size w (Nat.le_refl _))
  have D := Lib.hid (drawBelow (most + 1) (by omega) (by omega) a n cap p B _ (S.out.below ((Below.refl B w).alloc (by omega) (.cells #[] 9))) hB (C.out.below ((Below.refl _ w).alloc (Nat.le_refl _) _)) hn)
  go_enter Tryd.func35, Tryd.ntmps35
  go_wp2_with fail
  refine (show Calls Tryd.prog 46 #[.pointer (some ⟨p, 0, none⟩), .int .i64 ((most : Int) + 1)] _ _ from D.out).mono ?_
  rintro e w1 ⟨⟨k, rfl, hk⟩, c1, g1⟩
  have C1 := Lib.hid c1
  have G1 := Lib.hid (grown_trans (grown_alloc (grown_refl w _) _) g1)
  have O1 := Lib.hid (E0.out.grown g1 hp)
  clear c1 g1 D E0
  go_wp2
  go_loopw [5, 6] (fun v c wr => ∃ (j : Nat) (acc : List (List UInt8)), j ≤ most ∧ c = .int .i64 j ∧ OwnStrs w.heap.size wr v acc ∧ acc.length + j ≤ most ∧ (∀ x ∈ acc, x.length ≤ 21) ∧ CurAt wr p a n cap ∧ w.grownBy wr (some p)) (fun _ c _ => (intOf c).toNat)
  case atStart => exact ⟨k, [], by omega, rfl, O1.out, by simp; omega, fun _ h => by simp at h, C1.out, G1.out⟩
  case round =>
    obtain ⟨j, acc, hj, rfl, hown, hlen, hsm, hcur, hg⟩ := hrel
    have OW := Lib.hid hown
    have SM := Lib.hid hsm
    have CU := Lib.hid hcur
    have GG := Lib.hid hg
    clear hown hsm hcur hg
    by_cases hpos : 0 < j
    · go_wp2_with fail
      refine (drawWord a n cap p B _ (S.out.below (grown_below GG.out hB hp)) hB CU.out hn).mono ?_
      rintro e w2 ⟨⟨x, rfl, hz⟩, c2, g2⟩
      have O2 := Lib.hid (OW.out.grown g2 hp)
      have C2 := Lib.hid c2
      have G2 := Lib.hid (grown_trans GG.out g2)
      clear c2 g2
      go_wp2_with (at_builtin; refine wpList_append_own _ rfl _ _ 28 rfl w.heap.size 9 i0 (.string ⟨#[]⟩) 1 16 Tryd.underlying28 hi hz0 hz1 hz2 rfl (by decide) _ _ _ rfl (World.ownsRow.alloc O2.out _) ⟨w2.heap.size, 0, none⟩ 1 1 [.string x] rfl rfl ?c1 ?c2 ?c3 ?c4 ?c5 ?_)
      case c1 => exact cell_one_new _ _ _
      case c2 => intro u hu; simp at hu; subst hu; rfl
      case c3 => unfold maxLen; omega
      case c4 => omega
      case c5 => have := G2.out.size; simp; omega
      intro v' w3 hown' hgrow _
      have O3 := Lib.hid (OwnStrs.snoc (x := x.data.toList) hown')
      have C3 := Lib.hid (C2.out.same (own_other hgrow OW.out.base hp C2.out.lt))
      have G3 := Lib.hid (grown_app G2.out hgrow OW.out.base)
      clear hown' hgrow
      go_wp2
      go_roundw
      case rel => exact ⟨j - 1, acc ++ [x.data.toList], by omega, intM (by omega), O3.out, by rw [List.length_append, List.length_singleton]; omega, fun y hy => by
        rcases List.mem_append.1 hy with h | h
        · exact SM.out y h
        · simp at h; subst h; exact hz, C3.out, G3.out⟩
      case measure => simp [intOf]; omega
    · obtain rfl : j = 0 := by omega
      go_wp2_with fail
      go_ret
      exact ⟨_, rfl, ⟨acc, OW.out, by omega, SM.out⟩, CU.out, GG.out⟩

set_option maxHeartbeats 1000000 in
theorem drawJoin (a : Option Addr) (n cap : Nat) (w : World) (hs : CodeAt w.heap.size w a n) (hn : n ≤ 1048576) :
    Calls Tryd.prog 12 #[.slice a n cap] w fun e w' => ∃ v, e = .returned v ∧ WordsAt w.heap.size w' v 5 ∧ Below w.heap.size w w' := by
  have S := Lib.hid hs
  clear hs
  go_enter Tryd.func12, Tryd.ntmps12
  go_wp2_with fail
  refine (drawNew a n cap w S.out hn).mono ?_
  rintro e w1 ⟨rfl, c1, b1⟩
  have C1 := Lib.hid c1
  have B1 := Lib.hid b1
  clear c1 b1
  go_wp2_with fail
  refine (drawWords 5 (by omega) a n cap w.heap.size w.heap.size w1 (S.out.below B1.out) (Nat.le_refl _) C1.out hn).mono ?_
  rintro e w2 ⟨v, rfl, ⟨xs, ho, hl, hx⟩, c2, g2⟩
  have B2 := Lib.hid (B1.out.trans (grown_below g2 (Nat.le_refl _) C1.out.lt))
  have O2 : Hid (OwnStrs w.heap.size w2 v xs) := Lib.hid (OwnStrs.lower ho B1.out.size)
  have X := Lib.hid hx
  clear c2 g2 ho hx
  go_wp2
  go_ret
  exact ⟨_, rfl, ⟨xs, O2.out, hl, X.out⟩, B2.out⟩

/-- The numbers that a draw picks from. -/
def numList : List Int := [0, 7, -1, 120, -999999999, 1000000000, -9223372036854775808, 9223372036854775807]
theorem num_in : ∀ i : Fin 8, -9223372036854775808 ≤ numList.getD i.val 0 ∧ numList.getD i.val 0 ≤ 9223372036854775807 := by decide +kernel
theorem cell_nums (w : World) (ss : List Int) (t : TypeId) (i : Nat) (hi : i < ss.length) : (w.alloc (.cells (ss.map (Value.int .i64)).toArray t)).cell? ⟨w.heap.size, i, none⟩ = some (.int .i64 (ss.getD i 0)) := by
  have h : (w.alloc (.cells (ss.map (Value.int .i64)).toArray t)).heap[w.heap.size]? = some (.cells (ss.map (Value.int .i64)).toArray t) := (MapKept.heap_alloc w _).1
  unfold World.cell?
  simp only [h]
  simp [hi]

set_option maxHeartbeats 1000000 in
theorem drawPickInt (q b ca : Nat) (h0 : 0 < q) (h1 : q ≤ 256) (a : Option Addr) (n cap p B : Nat) (w : World) (hs : CodeAt B w a n) (hB : B ≤ p) (hc : CurAt w p a n cap) (hn : n ≤ 1048576)
    (hb : b ≠ p) (hl : ∀ k, k < q → ∃ x : Int, w.cell? ⟨b, k, none⟩ = some (.int .i64 x) ∧ -9223372036854775808 ≤ x ∧ x ≤ 9223372036854775807) :
    Calls Tryd.prog 38 #[.pointer (some ⟨p, 0, none⟩), .slice (some ⟨b, 0, none⟩) q ca] w fun e w' => (∃ x : Int, e = .returned (.int .i64 x) ∧ -9223372036854775808 ≤ x ∧ x ≤ 9223372036854775807) ∧ w.grownBy w' (some p) := by
  have C := Lib.hid (drawBelow q h0 h1 a n cap p B w hs hB hc hn)
  have L := Lib.hid hl
  clear hs hc hl
  go_enter Tryd.func38, Tryd.ntmps38
  go_wp2_with fail
  refine C.out.mono ?_
  rintro e w1 ⟨⟨k, rfl, hk⟩, _, g1⟩
  have G1 := Lib.hid g1
  obtain ⟨x, hx, hx0, hx1⟩ := L.out k hk
  have hx' := g1.cell hx (fun e => hb (by simpa using e))
  have hk' : (k : Int) < (q : Int) := by omega
  clear g1 hx
  go_wp2
  go_ret
  exact ⟨⟨x, rfl, hx0, hx1⟩, G1.out⟩

set_option maxHeartbeats 1000000 in
set_option maxRecDepth 100000 in
theorem drawFmt (a : Option Addr) (n cap : Nat) (w : World) (hs : CodeAt w.heap.size w a n) (hn : n ≤ 1048576) :
    Calls Tryd.prog 15 #[.slice a n cap] w fun e w' => (∃ x : Int, e = .returned (.int .i64 x) ∧ -9223372036854775808 ≤ x ∧ x ≤ 9223372036854775807) ∧ Below w.heap.size w w' := by
  have S := Lib.hid hs
  clear hs
  go_enter Tryd.func15, Tryd.ntmps15
  go_wp2_with fail
  refine (drawNew a n cap w S.out hn).mono ?_
  rintro e w1 ⟨rfl, c1, b1⟩
  have C1 := Lib.hid c1
  have B1 := Lib.hid b1
  have hlt := c1.lt
  clear c1 b1
  go_wp2_with fail
  have B2 := Lib.hid (B1.out.alloc B1.out.size (.cells (numList.map (Value.int .i64)).toArray 3))
  refine (drawPickInt 8 w1.heap.size 8 (by omega) (by omega) a n cap w.heap.size w.heap.size _ (S.out.below B2.out) (Nat.le_refl _) (C1.out.below ((Below.refl _ w1).alloc (Nat.le_refl _) _)) hn (by omega) (fun k hk => ⟨_, cell_nums w1 numList 3 k hk, num_in ⟨k, hk⟩⟩)).mono ?_
  rintro e w2 ⟨⟨x, rfl, hx0, hx1⟩, g2⟩
  have B3 := Lib.hid (B2.out.trans (grown_below g2 (Nat.le_refl _) (by simp; omega)))
  clear g2
  go_wp2
  go_ret
  exact ⟨⟨x, rfl, hx0, hx1⟩, B3.out⟩
end Go.Proofs.YtogkbfafdlbodaaDoor
