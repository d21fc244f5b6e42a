/- The draws of chapter 3. -/
import Derived.Test.YtmglolpiekbnpaaRows
import Derived.Test.YtmglolpiekbnpaaDrawCore
import Derived.Test.YtmglolpiekbnpaaIntRow
namespace Go.Proofs.Ytmglolpiekbnpaa
open Go.RowKit
set_option linter.unusedVariables false

set_option maxHeartbeats 1000000 in
set_option maxRecDepth 100000 in
theorem drawL3 (a : Option Addr) (n cap p B : Nat) (w : World) (hs : CodeAt B w a n) (hB : B ≤ p) (hc : CurAt w p a n cap) (hn : n ≤ 1048576) :
    Calls Try.prog 68 #[.pointer (some ⟨p, 0, none⟩)] w fun e w' => (∃ x : Int, e = .returned (.int .i64 x)) ∧ CurAt w' p a n cap ∧ w.grownBy w' (some p) := by
  have hp := hc.lt
  have S := Lib.hid hs
  have C := Lib.hid hc
  clear hs hc
  go_enter Try.func68, Try.ntmps68
  go_wp2_with fail
  refine (drawPickI 9 w.heap.size 9 (by omega) (by omega) a n cap p B _ (S.out.below ((Below.refl B w).alloc (by omega) _)) hB (C.out.below ((Below.refl _ w).alloc (Nat.le_refl _) _)) hn (by omega) (listAtI w [0, 1, 2, 0, 1, 2, 3, -1, -9223372036854775808] 3 (by decide))).mono ?_
  rintro e w1 ⟨⟨x, rfl, _, _⟩, c1, g1⟩
  have C1 := Lib.hid c1
  have G1 := Lib.hid (grown_trans (grown_alloc (grown_refl w _) _) g1)
  clear c1 g1
  go_wp2
  go_ret
  exact ⟨⟨x, rfl⟩, C1.out, G1.out⟩

set_option maxHeartbeats 1000000 in
theorem drawL3Two (a : Option Addr) (n cap : Nat) (w : World) (hs : CodeAt w.heap.size w a n) (hn : n ≤ 1048576) :
    Calls Try.prog 53 #[.slice a n cap] w fun e w' => (∃ x y : Int, e = .returned (.tuple #[.int .i64 x, .int .i64 y])) ∧ Below w.heap.size w w' := by
  have S := Lib.hid hs
  clear hs
  go_enter Try.func53, Try.ntmps53
  go_wp2_with fail
  refine (drawNew a n cap w S.out hn).mono ?_
  rintro e w1 ⟨rfl, c1, b1⟩
  have C1 := Lib.hid c1
  have B1 := Lib.hid b1
  clear c1 b1
  go_wp2_with fail
  refine (drawL3 a n cap w.heap.size w.heap.size w1 (S.out.below B1.out) (Nat.le_refl _) C1.out hn).mono ?_
  rintro e w2 ⟨⟨x, rfl⟩, c2, g2⟩
  have C2 := Lib.hid c2
  have B2 := Lib.hid (B1.out.trans (grown_below g2 (Nat.le_refl _) C1.out.lt))
  clear c2 g2
  go_wp2_with fail
  refine (drawL3 a n cap w.heap.size w.heap.size w2 (S.out.below B2.out) (Nat.le_refl _) C2.out hn).mono ?_
  rintro e w3 ⟨⟨y, rfl⟩, c3, g3⟩
  have B3 := Lib.hid (B2.out.trans (grown_below g3 (Nat.le_refl _) C2.out.lt))
  clear c3 g3
  go_wp2
  go_ret2
  exact ⟨⟨x, y, rfl⟩, B3.out⟩

set_option maxHeartbeats 1000000 in
theorem drawAndL (a : Option Addr) (n cap : Nat) (w : World) (hs : CodeAt w.heap.size w a n) (hn : n ≤ 1048576) :
    Calls Try.prog 25 #[.slice a n cap] w fun e w' => (∃ x y : Int, e = .returned (.tuple #[.int .i64 x, .int .i64 y])) ∧ Below w.heap.size w w' := by
  have C := Lib.hid (drawL3Two a n cap w hs hn)
  clear hs
  go_enter Try.func25, Try.ntmps25
  go_wp2_with fail
  refine C.out.mono ?_
  rintro e w1 ⟨⟨x, y, rfl⟩, b1⟩
  have B1 := Lib.hid b1
  clear b1
  go_wp2
  go_ret2
  exact ⟨⟨x, y, rfl⟩, B1.out⟩

set_option maxHeartbeats 1000000 in
set_option maxRecDepth 100000 in
theorem drawL3List (a : Option Addr) (n cap : Nat) (w : World) (hs : CodeAt w.heap.size w a n) (hn : n ≤ 1048576) :
    Calls Try.prog 54 #[.slice a n cap] w fun e w' => (∃ v zs, e = .returned v ∧ OwnI w.heap.size w' v zs ∧ zs.length ≤ 5) ∧ Below w.heap.size w w' := by
  obtain ⟨i0, hi, hz0, hz1, hz2⟩ := info_parts infoInt
  have S := Lib.hid hs
  clear hs
  go_enter Try.func54, Try.ntmps54
  go_wp2_with fail
  refine (drawNew a n cap w S.out hn).mono ?_
  rintro e w1 ⟨rfl, c1, b1⟩
  have hp := c1.lt
  have hl := b1.size
  have C1 := Lib.hid c1
  have B1 := Lib.hid b1
  have E1 := Lib.hid (ownI_empty w1.heap.size w1 (Nat.le_refl _))
  clear c1 b1
  go_wp2_with fail
  refine (drawBelow 6 (by omega) (by omega) a n cap w.heap.size w.heap.size _ (S.out.below (B1.out.alloc hl _)) (Nat.le_refl _) (C1.out.below ((Below.refl _ w1).alloc (Nat.le_refl _) _)) hn).mono ?_
  rintro e w2 ⟨⟨k, rfl, hk⟩, c2, g2⟩
  have C2 := Lib.hid c2
  have G2 := Lib.hid (grown_trans (grown_alloc (grown_refl w1 _) _) g2)
  have O2 := Lib.hid (E1.out.grown g2 hp)
  clear c2 g2 E1
  go_wp2
  go_loopw [4, 5] (fun v c wr => ∃ (j : Nat) (acc : List Int), j ≤ 5 ∧ c = .int .i64 j ∧ OwnI w1.heap.size wr v acc ∧ acc.length + j ≤ 5 ∧ CurAt wr w.heap.size a n cap ∧ w1.grownBy wr (some w.heap.size)) (fun _ c _ => (intOf c).toNat)
  case atStart => exact ⟨k, [], by omega, rfl, O2.out, by simp; omega, C2.out, G2.out⟩
  case round =>
    rename_i wr
    obtain ⟨j, acc, hj, rfl, hown, hlen, hcur, hg⟩ := hrel
    have OW := Lib.hid hown
    have CU := Lib.hid hcur
    have GG := Lib.hid hg
    have BB := Lib.hid (B1.out.trans (grown_below hg (Nat.le_refl w.heap.size) hp))
    clear hown hcur hg
    by_cases hpos : 0 < j
    · go_wp2_with fail
      refine (drawL3 a n cap w.heap.size w.heap.size _ (S.out.below BB.out) (Nat.le_refl _) CU.out hn).mono ?_
      rintro e w3 ⟨⟨x, rfl⟩, c3, g3⟩
      have O3 := Lib.hid (OW.out.grown g3 hp)
      have C3 := Lib.hid c3
      have G3 := Lib.hid (grown_trans GG.out g3)
      clear c3 g3
      go_wp2_with (at_builtin; refine wpList_append_own _ rfl _ _ 33 rfl w1.heap.size 3 i0 (.int .i64 0) 1 8 Try.underlying33 hi hz0 hz1 hz2 rfl (by decide) _ _ _ rfl (World.ownsRow.alloc O3.out _) ⟨w3.heap.size, 0, none⟩ 1 1 [.int .i64 x] rfl rfl ?c1 ?c2 ?c3 ?c4 ?c5 ?_)
      case c1 => exact cell_one_new _ _ _
      case c2 => intro u hu; simp at hu; subst hu; rfl
      case c3 => unfold maxLen; omega
      case c4 => omega
      case c5 => have := G3.out.size; simp; omega
      intro v' w4 hown' hgrow _
      have O4 := Lib.hid (OwnI.snoc hown')
      have C4 := Lib.hid (C3.out.sameI (ownI_other hgrow O3.out.base hp C3.out.lt))
      have G4 := Lib.hid (grownI_app G3.out hgrow O3.out.base)
      clear hown' hgrow
      go_wp2
      go_roundw
      case rel => exact ⟨j - 1, acc ++ [x], by omega, intM (by omega), O4.out, by rw [List.length_append, List.length_singleton]; omega, C4.out, G4.out⟩
      case measure => simp [intOf]; omega
    · obtain rfl : j = 0 := by omega
      go_wp2_with fail
      go_ret
      exact ⟨⟨_, acc, rfl, OW.out.lower hl, by omega⟩, BB.out⟩

set_option maxHeartbeats 1000000 in
theorem drawAllL (a : Option Addr) (n cap : Nat) (w : World) (hs : CodeAt w.heap.size w a n) (hn : n ≤ 1048576) :
    Calls Try.prog 26 #[.slice a n cap] w fun e w' => (∃ v zs, e = .returned v ∧ OwnI w.heap.size w' v zs ∧ zs.length ≤ 5) ∧ Below w.heap.size w w' := by
  have C := Lib.hid (drawL3List a n cap w hs hn)
  clear hs
  go_enter Try.func26, Try.ntmps26
  go_wp2_with fail
  refine C.out.mono ?_
  rintro e w1 ⟨⟨v, zs, rfl, ho, hl⟩, b1⟩
  have B1 := Lib.hid b1
  have O1 := Lib.hid ho
  clear b1 ho
  go_wp2
  go_ret
  exact ⟨⟨v, zs, rfl, O1.out, hl⟩, B1.out⟩
end Go.Proofs.Ytmglolpiekbnpaa
