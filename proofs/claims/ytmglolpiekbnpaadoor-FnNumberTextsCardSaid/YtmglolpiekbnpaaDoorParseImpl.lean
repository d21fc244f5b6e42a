/- Reading integers: the program's function, against one plain function. -/
import Derived.Test.YtmglolpiekbnpaaDoorRows
import Derived.Test.YtmglolpiekbnpaaDoorParseMath
import Derived.Test.YtmglolpiekbnpaaDoorFmtImpl
import Derived.Test.YtmglolpiekbnpaaDoorShelf
import Derived.Test.YtmglolpiekbnpaaDoorLaid
import Derived.WalkKit
import Derived.WalkSmall
import Derived.WalkSpells
import Derived.WalkLawsBesides
import Derived.Lib.SmallJoins
import Derived.Lib.Hide
namespace Go.Proofs.YtmglolpiekbnpaaDoor
open Go.RowKit

theorem ret_ibI {a : Int} {b : Bool} {p : Int × Bool} (h : p = (a, b)) : Ending.returned (.tuple #[.int .i64 a, .bool b]) = .returned (.tuple #[.int .i64 p.1, .bool p.2]) := by rw [h]
theorem pVal_of_ok {l : List UInt8} {v : Int} (h : Lib.atoiAll l = .ok v) : pVal l = if -999999999 ≤ v ∧ v ≤ 999999999 ∧ Lib.itoa v = l then (v, true) else (0, false) := by unfold pVal; rw [h]

set_option maxHeartbeats 1000000 in
theorem implParse (s : ByteArray) (w : World) (hs : s.size ≤ 281474976710656) (tab : Lib.TabIs Tryd.prog w "internal/strconv.uint64pow10" .u64 Lib.pow10Tab)
    (errs : ErrsMet w) :
    Calls Tryd.prog 41 #[.string s] w fun e w' => e = .returned (.tuple #[.int .i64 (pVal s.data.toList).1, .bool (pVal s.data.toList).2]) ∧ Below w.heap.size w w' := by
  have TAB := Lib.hid tab
  have ERR := Lib.hid errs
  clear tab errs
  cases h : Lib.atoiAll s.data.toList with
  | ok v =>
    have hb := Lib.atoiAll_bounds h
    have P := Lib.hid (pVal_of_ok h)
    have H := Lib.hid h
    clear h
    have atoi : Calls Tryd.prog 48 #[.string s] w fun e w' => e = .returned (.tuple #[.int .i64 v, .nilIface]) ∧ Below w.heap.size w w' :=
      (Tryd.strconv_Atoi_ok s (by omega) v H.out w).mono fun _ _ ⟨he, hw⟩ => ⟨he, by
        rcases hw with rfl | ⟨t, rfl⟩
        · exact Below.refl _ _
        · exact Joins.below_bytesWorld _ _ _ _ (Nat.le_refl _)⟩
    have A := Lib.hid atoi
    clear atoi
    by_cases hlo : v < -999999999
    · have X := Lib.hid (show pVal s.data.toList = (0, false) by rw [P.out, if_neg (by omega)])
      go_enter Tryd.func41, Tryd.ntmps41
      go_wp2_with fail
      refine A.out.mono ?_
      rintro e w1 ⟨rfl, hb1⟩
      go_wp2
      go_ret2
      exact ⟨ret_ibI X.out, hb1⟩
    · by_cases hhi : 999999999 < v
      · have X := Lib.hid (show pVal s.data.toList = (0, false) by rw [P.out, if_neg (by omega)])
        go_enter Tryd.func41, Tryd.ntmps41
        go_wp2_with fail
        refine A.out.mono ?_
        rintro e w1 ⟨rfl, hb1⟩
        go_wp2
        go_ret2
        exact ⟨ret_ibI X.out, hb1⟩
      · cases he : (Lib.itoa v == s.toList)
        · have X := Lib.hid (show pVal s.data.toList = (0, false) by rw [P.out, if_neg (by rintro ⟨_, _, e⟩; rw [ByteArray.toList_eq, e] at he; simp at he)])
          go_enter Tryd.func41, Tryd.ntmps41
          go_wp2_with fail
          refine A.out.mono ?_
          rintro e w1 ⟨rfl, hb1⟩
          go_wp2_with (go_at_call 21; refine (implFmt _ _ hb.1 hb.2 (tab_below TAB.out hb1)).mono ?_; rintro e w2 ⟨rfl, hb2⟩)
          go_ret2
          exact ⟨ret_ibI X.out, hb1.trans (hb2.mono hb1.size)⟩
        · have X := Lib.hid (show pVal s.data.toList = (v, true) by rw [P.out, if_pos ⟨by omega, by omega, by rw [ByteArray.toList_eq] at he; simpa using he⟩])
          go_enter Tryd.func41, Tryd.ntmps41
          go_wp2_with fail
          refine A.out.mono ?_
          rintro e w1 ⟨rfl, hb1⟩
          go_wp2_with (go_at_call 21; refine (implFmt _ _ hb.1 hb.2 (tab_below TAB.out hb1)).mono ?_; rintro e w2 ⟨rfl, hb2⟩)
          go_ret2
          exact ⟨ret_ibI X.out, hb1.trans (hb2.mono hb1.size)⟩
  | _ =>
    have X := Lib.hid (show pVal s.data.toList = (0, false) by unfold pVal; rw [h])
    have A : Calls Tryd.prog 48 #[.string s] w fun e w' => ∃ (x : Int) (p : Value), e = .returned (.tuple #[.int .i64 x, .iface 79 p]) ∧ Below w.heap.size w w' := by
      obtain ⟨⟨tp, p, h1⟩, ⟨tq, q, h2⟩⟩ := ERR.out
      first
        | exact (Any.strconv_Atoi_syntax_var Tryd.laysC172 s hs h tp p w h1).mono fun _ _ ⟨N, he, _, _, hb⟩ => ⟨_, _, he, hb⟩
        | exact (Any.strconv_Atoi_range_var Tryd.laysC172 s hs h tq q w h2).mono fun _ _ ⟨N, he, _, _, hb⟩ => ⟨_, _, he, hb⟩
    have AA := Lib.hid A
    clear A h
    go_enter Tryd.func41, Tryd.ntmps41
    go_wp2_with fail
    refine AA.out.mono ?_
    rintro e w1 ⟨x, p, rfl, hb1⟩
    go_wp2
    go_ret2
    exact ⟨ret_ibI X.out, hb1⟩
end Go.Proofs.YtmglolpiekbnpaaDoor
