/- Reading lists of fields: the program's functions, against one plain function. -/
import Derived.Test.YtogkbfafdlbodaaDoorRows
import Derived.Test.YtogkbfafdlbodaaDoorSplitMath
import Derived.Test.YtogkbfafdlbodaaDoorParseImpl
import Derived.Test.YtogkbfafdlbodaaDoorMaxLen
import Derived.Test.YtogkbfafdlbodaaDoorStrs
import Derived.Test.YtogkbfafdlbodaaDoorLaid
import Derived.WalkKit
import Derived.WalkSpells
import Derived.WalkLawsBesides
import Derived.Lib.Hide
import Derived.OwnWalk
import Derived.Maps.AppendAt
import Derived.BigQuiet
import Derived.Deep.QuietTactic
namespace Go.Proofs.YtogkbfafdlbodaaDoor
open Go.RowKit

/-- What the functions ask of the world: the listed variables, and the library's own one. -/
def Met (w : World) : Prop := Lib.TabIs Tryd.prog w "internal/strconv.uint64pow10" .u64 Lib.pow10Tab ∧ ErrsMet w ∧ MaxMet w
theorem Met.below {w w1 : World} (h : Met w) (hb : Below w.heap.size w w1) : Met w1 := ⟨tab_below h.1 hb, errs_below h.2.1 hb, h.2.2.below hb⟩
theorem cutCall (s : ByteArray) (w : World) (hs : s.size ≤ 1048576) (hm : Met w) :
    Calls Tryd.prog 47 #[.string s, .string ⟨#[58]⟩] w fun e w' => e = .returned (.tuple #[.string ⟨(Lib.cut s.data.toList [58]).1.toArray⟩, .string ⟨(Lib.cut s.data.toList [58]).2.1.toArray⟩, .bool (Lib.cut s.data.toList [58]).2.2]) ∧ Below w.heap.size w w' := by
  obtain ⟨m, hmm⟩ := hm.2.2
  exact (Tryd.strings_Cut s ⟨#[58]⟩ m w (by omega) hmm).mono fun _ _ ⟨he, n, hw⟩ => ⟨he, by subst hw; exact below_drewN (Below.refl _ _) n⟩
theorem parseCall (x : List UInt8) (a : Int) (b : Bool) (w : World) (hx : x.length ≤ 1048576) (h : pVal x = (a, b)) (hm : Met w) :
    ∀ w1, Below w.heap.size w w1 → Calls Tryd.prog 17 #[.string ⟨x.toArray⟩] w1 fun e w' => e = .returned (.tuple #[.int .i64 a, .bool b]) ∧ Below w1.heap.size w1 w' := by
  intro w1 hb
  have hm1 := hm.below hb
  have C := implParse ⟨x.toArray⟩ w1 (by show x.toArray.size ≤ _; simp; omega) hm1.1 hm1.2.1
  have e : (⟨x.toArray⟩ : ByteArray).data.toList = x := by simp
  rw [e, h] at C
  exact C

set_option maxHeartbeats 1000000 in
theorem cutNone (s : ByteArray) (w : World) (hs : s.size ≤ 1048576) (hm : Met w) (h : fieldStep s.data.toList = none) :
    Calls Tryd.prog 37 #[.string s] w fun e w' => e = .returned (.tuple #[.string ⟨#[]⟩, .string ⟨#[]⟩, .bool false]) ∧ Below w.heap.size w w' := by
  have C0 := cutCall s w hs hm
  cases hc : colonCut s.data.toList with
  | none =>
    rw [cut_none hc] at C0
    have C := Lib.hid C0
    have P := Lib.hid (parseCall s.data.toList (pVal s.data.toList).1 (pVal s.data.toList).2 w hs rfl hm)
    clear C0 h hm hc
    go_enter Tryd.func37, Tryd.ntmps37
    go_wp2_with fail
    refine C.out.mono ?_
    rintro e w1 ⟨rfl, hb1⟩
    go_wp2_with fail
    refine (P.out w1 hb1).mono ?_
    rintro e w2 ⟨rfl, hb2⟩
    go_wp2
    all_goals
      go_ret3
      exact ⟨rfl, hb1.trans (hb2.mono hb1.size)⟩
  | some p =>
    obtain ⟨x, y⟩ := p
    rw [cut_some hc] at C0
    have hl := cut_len hc
    rw [size_list] at hl
    have hbad : ¬ ((pVal x).2 = true ∧ 0 ≤ (pVal x).1 ∧ (pVal x).1 ≤ y.length) := by
      intro hg
      unfold fieldStep at h
      rw [hc] at h
      simp only at h
      rw [if_pos hg] at h
      cases h
    have C := Lib.hid C0
    cases h2 : (pVal x).2
    · have P := Lib.hid (parseCall x (pVal x).1 false w (by omega) (by rw [← h2]) hm)
      clear C0 h hm hc hbad h2
      go_enter Tryd.func37, Tryd.ntmps37
      go_wp2_with fail
      refine C.out.mono ?_
      rintro e w1 ⟨rfl, hb1⟩
      go_wp2_with fail
      refine (P.out w1 hb1).mono ?_
      rintro e w2 ⟨rfl, hb2⟩
      go_wp2
      go_ret3
      exact ⟨rfl, hb1.trans (hb2.mono hb1.size)⟩
    · have hyz : (⟨y.toArray⟩ : ByteArray).size = y.length := by show y.toArray.size = _; simp
      have P := Lib.hid (parseCall x (pVal x).1 true w (by omega) (by rw [← h2]) hm)
      by_cases h0 : (pVal x).1 < 0
      · clear C0 h hm hc hbad h2
        go_enter Tryd.func37, Tryd.ntmps37
        go_wp2_with fail
        refine C.out.mono ?_
        rintro e w1 ⟨rfl, hb1⟩
        go_wp2_with fail
        refine (P.out w1 hb1).mono ?_
        rintro e w2 ⟨rfl, hb2⟩
        go_wp2
        go_ret3
        exact ⟨rfl, hb1.trans (hb2.mono hb1.size)⟩
      · have h3 : (y.length : Int) < (pVal x).1 := by
          rcases Int.lt_or_le (y.length : Int) (pVal x).1 with h' | h'
          · exact h'
          · exact absurd ⟨h2, by omega, h'⟩ hbad
        clear C0 h hm hc hbad h2
        go_enter Tryd.func37, Tryd.ntmps37
        go_wp2_with fail
        refine C.out.mono ?_
        rintro e w1 ⟨rfl, hb1⟩
        go_wp2_with fail
        refine (P.out w1 hb1).mono ?_
        rintro e w2 ⟨rfl, hb2⟩
        go_wp2
        go_ret3
        exact ⟨rfl, hb1.trans (hb2.mono hb1.size)⟩
theorem take_text (y : List UInt8) (n : Nat) : (⟨y.toArray⟩ : ByteArray).extract 0 n = ⟨(y.take n).toArray⟩ := by
  apply ByteArray.ext; simp
theorem drop_text (y : List UInt8) (n : Nat) : (⟨y.toArray⟩ : ByteArray).extract n y.length = ⟨(y.drop n).toArray⟩ := by
  apply ByteArray.ext; simp
  exact List.take_of_length_le (by simp)

set_option maxHeartbeats 1000000 in
theorem cutSome (s : ByteArray) (w : World) (hs : s.size ≤ 1048576) (hm : Met w) (f r : List UInt8) (h : fieldStep s.data.toList = some (f, r)) :
    Calls Tryd.prog 37 #[.string s] w fun e w' => e = .returned (.tuple #[.string ⟨f.toArray⟩, .string ⟨r.toArray⟩, .bool true]) ∧ Below w.heap.size w w' := by
  have C0 := cutCall s w hs hm
  unfold fieldStep at h
  cases hc : colonCut s.data.toList with
  | none => rw [hc] at h; cases h
  | some p =>
    obtain ⟨x, y⟩ := p
    rw [cut_some hc] at C0
    have hl := cut_len hc
    rw [size_list] at hl
    rw [hc] at h
    simp only at h
    split at h
    · rename_i hg
      simp only [Option.some.injEq, Prod.mk.injEq] at h
      obtain ⟨m, hmm⟩ : ∃ m : Nat, (pVal x).1 = m := ⟨(pVal x).1.toNat, by omega⟩
      rw [hmm, Int.toNat_natCast] at h
      have hmy : m ≤ y.length := by omega
      have P := Lib.hid (parseCall x (m : Int) true w (by omega) (by rw [← hmm, ← hg.1]) hm)
      have C := Lib.hid C0
      have H := Lib.hid h
      have hyz : (⟨y.toArray⟩ : ByteArray).size = y.length := by show y.toArray.size = _; simp
      have hmi : (m : Int) ≤ (y.length : Int) := by omega
      have T := Lib.hid (take_text y m)
      have D := Lib.hid (drop_text y m)
      clear C0 h hm hc hg hmm
      go_enter Tryd.func37, Tryd.ntmps37
      go_wp2_with fail
      refine C.out.mono ?_
      rintro e w1 ⟨rfl, hb1⟩
      go_wp2_with fail
      refine (P.out w1 hb1).mono ?_
      rintro e w2 ⟨rfl, hb2⟩
      go_wp2
      go_quiet (fail)
      go_wp2
      go_ret3
      exact ⟨by rw [← H.out.1, ← H.out.2, ← T.out, ← D.out]; rfl, below_drewN (hb1.trans (hb2.mono hb1.size)) nq⟩
    · cases h

/-- v is a slice of the strings xs, in a row of the call's own (from block B on). -/
def OwnStrs (B : Nat) (w : World) (v : Value) (xs : List (List UInt8)) : Prop := w.ownsRow B 9 1 v xs.length (xs.map mkS)
/-- How both SplitFields end. -/
def SplitPost (w : World) (T : Option (List (List UInt8))) (e : Ending) (w' : World) : Prop := ∃ v, e = .returned (.tuple #[v, .bool T.isSome]) ∧ OwnStrs w.heap.size w' v (T.getD []) ∧ Below w.heap.size w w'
theorem SplitPost.no {w w' : World} {T : Option (List (List UInt8))} {v : Value} (hT : T = none) (ho : OwnStrs w.heap.size w' v []) (hb : Below w.heap.size w w') : SplitPost w T (.returned (.tuple #[v, .bool false])) w' := by
  subst hT; exact ⟨v, rfl, ho, hb⟩
theorem SplitPost.yes {w w' : World} {T : Option (List (List UInt8))} {v : Value} {xs : List (List UInt8)} (hT : T = some xs) (ho : OwnStrs w.heap.size w' v xs) (hb : Below w.heap.size w w') : SplitPost w T (.returned (.tuple #[v, .bool true])) w' := by
  subst hT; exact ⟨v, rfl, ho, hb⟩
theorem grown_of {w w1 : World} (hb : Below w.heap.size w w1) : w.grownBy w1 none := ⟨hb.os, hb.tape, hb.output, hb.size, fun k hk _ => hb.block k hk⟩
theorem OwnStrs.below {B : Nat} {w w1 : World} {v : Value} {xs : List (List UInt8)} (h : OwnStrs B w v xs) (hb : Below w.heap.size w w1) : OwnStrs B w1 v xs := World.ownsRow.kept h (grown_of hb) (Classical.em _)
theorem OwnStrs.base {B : Nat} {w : World} {v : Value} {xs : List (List UInt8)} (h : OwnStrs B w v xs) : ∀ k, v.ownBlock = some k → B ≤ k := by
  intro k hk
  rcases h.2 with ⟨rfl, _⟩ | ⟨g, cap, cur, rfl, hb, _⟩
  · cases hk
  · simp only [Value.ownBlock, Option.some.injEq] at hk; omega
theorem OwnStrs.snoc {B : Nat} {w : World} {v : Value} {acc : List (List UInt8)} {x : List UInt8} (h : w.ownsRow B 9 1 v (acc.length + 1) (acc.map mkS ++ [.string ⟨x.toArray⟩])) : OwnStrs B w v (acc ++ [x]) := by
  unfold OwnStrs; rw [List.length_append, List.map_append]; exact h
def strLen : Value → Nat
  | .string b => b.size
  | _ => 0

set_option maxHeartbeats 1000000 in
theorem implSplit (s : ByteArray) (w : World) (hs : s.size ≤ 1048576) (hm : Met w) :
    Calls Tryd.prog 14 #[.string s] w (SplitPost w (splitF s.data.toList.length s.data.toList)) := by
  obtain ⟨T, hT⟩ : ∃ T, splitF s.data.toList.length s.data.toList = T := ⟨_, rfl⟩
  have REL := Lib.hid (SplitRel.start s.data.toList)
  rw [hT] at REL ⊢
  clear hT
  have M := Lib.hid hm
  obtain ⟨i0, hi, hz0, hz1, hz2⟩ := info_parts infoStr
  go_enter Tryd.func14, Tryd.ntmps14
  go_wp2
  go_loopw [0, 4] (fun c v wr => ∃ (b : ByteArray) (acc : List (List UInt8)), c = .string b ∧ OwnStrs w.heap.size wr v acc ∧ SplitRel T acc b.data.toList ∧ acc.length + b.size ≤ s.size ∧ Below w.heap.size w wr) (fun c _ _ => strLen c)
  case atStart => exact ⟨s, [], rfl, World.ownsRow_nil _ _ _ _, REL.out, by simp, Below.refl _ _⟩
  case round =>
    obtain ⟨b, acc, rfl, hown, hrel, hlen, hb⟩ := hrel
    have R := Lib.hid hrel
    clear hrel
    by_cases hpos : 0 < b.size
    · have L := Lib.hid (show 0 < b.data.toList.length from hpos)
      cases hf : fieldStep b.data.toList with
      | none =>
        have X := Lib.hid (R.out.bad L.out hf)
        have C := Lib.hid (cutNone b wr (by omega) (M.out.below hb) hf)
        have BB := Lib.hid hb
        clear hf hb hown
        go_wp2_with fail
        refine C.out.mono ?_
        rintro e w1 ⟨rfl, hb1⟩
        have B1 := Lib.hid (BB.out.trans (hb1.mono BB.out.size))
        clear hb1
        go_wp2_with fail
        go_ret2
        exact SplitPost.no X.out (World.ownsRow_nil _ _ _ _) B1.out
      | some p =>
        obtain ⟨x, r⟩ := p
        have X := Lib.hid (R.out.step L.out hf)
        have hfl := fieldStep_len hf
        rw [size_list] at hfl
        have C := Lib.hid (cutSome b wr (by omega) (M.out.below hb) x r hf)
        have BB := Lib.hid hb
        have OW := Lib.hid hown
        clear hf hb hown
        go_wp2_with fail
        refine C.out.mono ?_
        rintro e w1 ⟨rfl, hb1⟩
        have B1 := Lib.hid (BB.out.trans (hb1.mono BB.out.size))
        have O1 := Lib.hid (OW.out.below hb1)
        clear hb1
        go_wp2_with (at_builtin; refine wpList_append_own _ rfl _ _ 28 rfl w.heap.size 9 i0 (.string ⟨#[]⟩) 1 16 Tryd.underlying28 hi hz0 hz1 hz2 rfl (by decide) _ _ _ rfl (World.ownsRow.alloc O1.out _) ⟨w1.heap.size, 0, none⟩ 1 1 [.string ⟨x.toArray⟩] rfl rfl ?c1 ?c2 ?c3 ?c4 ?c5 ?_)
        case c1 => exact cell_one_new _ _ _
        case c2 => intro u hu; simp at hu; subst hu; rfl
        case c3 => unfold maxLen; omega
        case c4 => omega
        case c5 => have := B1.out.size; simp; omega
        intro v' w2 hown' hgrow _
        have O2 := Lib.hid (OwnStrs.snoc hown')
        have B2 := Lib.hid ((B1.out.alloc B1.out.size _).grown hgrow (by have := B1.out.size; simp; omega) OW.out.base)
        clear hown' hgrow
        go_wp2
        go_roundw
        case rel => exact ⟨⟨r.toArray⟩, acc ++ [x], rfl, O2.out, by have := X.out; simpa using this, by
          have e : (⟨r.toArray⟩ : ByteArray).size = r.length := by show r.toArray.size = _; simp
          rw [e, List.length_append, List.length_singleton]; omega, B2.out⟩
        case measure =>
          have e : (⟨r.toArray⟩ : ByteArray).size = r.length := by show r.toArray.size = _; simp
          simp only [strLen, e]; omega
    · have X := Lib.hid (R.out.last (show b.data.toList.length = 0 by rw [size_list]; omega))
      have OW := Lib.hid hown
      have BB := Lib.hid hb
      clear hown hb
      go_wp2_with fail
      go_ret2
      exact SplitPost.yes X.out OW.out BB.out
end Go.Proofs.YtogkbfafdlbodaaDoor
