/- Reading lists of fields: the specification's function, against one plain function. -/
import Derived.Test.YtogkbfafdlbodaaDoorRows
import Derived.Test.YtogkbfafdlbodaaDoorSplitMath
import Derived.Test.YtogkbfafdlbodaaDoorSplitImpl
import Derived.Test.YtogkbfafdlbodaaDoorParseSpec
import Derived.Test.YtogkbfafdlbodaaDoorStrs
import Derived.WalkKit
import Derived.WalkSpells
import Derived.WalkLawsBesides
import Derived.Lib.Hide
import Derived.OwnWalk
import Derived.Maps.AppendAt
namespace Go.Proofs.YtogkbfafdlbodaaDoor
open Go.RowKit

theorem own_empty (B : Nat) (w : World) (hB : B ≤ w.heap.size) : OwnStrs B (w.alloc (.cells #[] 9)) (.slice (some ⟨w.heap.size, 0, none⟩) 0 0) [] :=
  ⟨rfl, .inr ⟨w.heap.size, 0, #[], rfl, hB, (MapKept.heap_alloc w _).1, Nat.le_refl _, Nat.zero_le _, rfl, rfl⟩⟩
theorem rest_len (s : ByteArray) (i : Nat) : (s.data.toList.drop i).length = s.size - i := by rw [List.length_drop, size_list]
theorem rest_get (s : ByteArray) (i k : Nat) (hi : i ≤ k) (hk : k < s.size) : (s.data.toList.drop i)[k - i]? = some (s[k]'hk) := by
  rw [List.getElem?_drop, show i + (k - i) = k by omega, List.getElem?_eq_getElem (show k < s.data.toList.length from hk)]; rfl
theorem NoColon.zero (l : List UInt8) : NoColon l 0 := fun _ h => absurd h (Nat.not_lt_zero _)
theorem NoColon.next {s : ByteArray} {i k : Nat} (h : NoColon (s.data.toList.drop i) (k - i)) (hi : i ≤ k) (hk : k < s.size) (hc : (s[k]'hk).toNat ≠ 58) : NoColon (s.data.toList.drop i) (k + 1 - i) := by
  intro j hj
  by_cases e : j = k - i
  · subst e
    rw [rest_get s i k hi hk]
    intro h'
    exact hc (by have := Option.some.inj h'; rw [this]; rfl)
  · exact h j (by omega)
theorem colon_found {s : ByteArray} {i k : Nat} (h : NoColon (s.data.toList.drop i) (k - i)) (hi : i ≤ k) (hk : k < s.size) (hc : (s[k]'hk).toNat = 58) :
    colonCut (s.data.toList.drop i) = some ((s.data.toList.drop i).take (k - i), s.data.toList.drop (k + 1)) := by
  have h1 := colon_at _ (k - i) h (by rw [rest_get s i k hi hk]; congr 1; exact UInt8.toNat_inj.1 (by rw [hc]; rfl))
  rw [h1, List.drop_drop, show i + (k - i + 1) = k + 1 by omega]
theorem step_none {s : ByteArray} {i k : Nat} (h : NoColon (s.data.toList.drop i) (k - i)) (hi : i ≤ k) (hk : s.size ≤ k) : fieldStep (s.data.toList.drop i) = none := by
  refine fieldStep_none (colon_none _ fun j hj => h j ?_)
  rw [rest_len] at hj; omega
theorem step_far {s : ByteArray} {i k : Nat} (h : NoColon (s.data.toList.drop i) (k - i)) (hi : k = i + 10) (hk : k < s.size) (hc : (s[k]'hk).toNat ≠ 58) : fieldStep (s.data.toList.drop i) = none := by
  have h11 := h.next (by omega) hk hc
  cases hcc : colonCut (s.data.toList.drop i) with
  | none => exact fieldStep_none hcc
  | some p =>
    obtain ⟨x, y⟩ := p
    have := colon_far _ x y _ h11 hcc
    refine fieldStep_bad hcc fun hg => ?_
    rw [pVal_long (by omega)] at hg
    cases hg.1
theorem piece_list (s : ByteArray) (i k : Nat) : (s.extract i k).data.toList = (s.data.toList.drop i).take (k - i) := Lib.extract_data s i k
theorem piece_text (s : ByteArray) (a m : Nat) : mkS ((s.data.toList.drop a).take m) = .string (s.extract a (a + m)) := by
  unfold mkS
  congr 1
  apply ByteArray.ext
  have h := piece_list s a (a + m)
  rw [show a + m - a = m by omega] at h
  rw [← h]

/-- What the outer loop knows at its head. -/
def SpecAt (s : ByteArray) (T : Option (List (List UInt8))) (B i : Nat) (v : Value) (w : World) : Prop := ∃ acc : List (List UInt8), OwnStrs B w v acc ∧ SplitRel T acc (s.data.toList.drop i) ∧ acc.length ≤ i

set_option maxHeartbeats 4000000 in
set_option maxRecDepth 100000 in
theorem specSplit (s : ByteArray) (w : World) (hs : s.size ≤ 1048576) :
    Calls Tryd.prog 26 #[.string s] w (SplitPost w (splitF s.data.toList.length s.data.toList)) := by
  obtain ⟨T, hT⟩ : ∃ T, splitF s.data.toList.length s.data.toList = T := ⟨_, rfl⟩
  have REL := Lib.hid (SplitRel.start s.data.toList)
  rw [hT] at REL ⊢
  clear hT
  obtain ⟨i0, hi, hz0, hz1, hz2⟩ := info_parts infoStr
  go_enter Tryd.func26, Tryd.ntmps26
  go_wp2
  go_loopw [4, 5] (fun v iv wr => ∃ i : Nat, iv = .int .i64 i ∧ i ≤ s.size ∧ SpecAt s T w.heap.size i v wr ∧ Below w.heap.size w wr) (fun _ iv _ => s.size - (intOf iv).toNat)
  case atStart => exact ⟨0, rfl, Nat.zero_le _, ⟨[], own_empty _ _ (Nat.le_refl _), by simpa using REL.out, by simp⟩, (Below.refl _ _).alloc (Nat.le_refl _) _⟩
  case round =>
    obtain ⟨i, rfl, hile, ⟨acc, hown, hrel, hlen⟩, hb⟩ := hrel
    have R := Lib.hid hrel
    have OW := Lib.hid hown
    have BB := Lib.hid hb
    clear hrel hown hb
    by_cases hpos : i < s.size
    · have L := Lib.hid (show 0 < (s.data.toList.drop i).length by rw [rest_len]; omega)
      go_wp2
      go_loop [6] (fun kv => ∃ k : Nat, kv = .int .i64 k ∧ i ≤ k ∧ k ≤ s.size ∧ k ≤ i + 10 ∧ NoColon (s.data.toList.drop i) (k - i)) (fun kv => s.size - (intOf kv).toNat)
      case atStart => exact ⟨i, rfl, Nat.le_refl _, hile, by omega, by rw [Nat.sub_self]; exact NoColon.zero _⟩
      case round =>
        obtain ⟨k, rfl, hik, hks, hk10, hno⟩ := hrel
        have hcl : (s.extract i k).data.toList = (s.data.toList.drop i).take (k - i) := piece_list s i k
        have hxs : (s.extract i k).size ≤ maxLen := by simp; unfold maxLen; omega
        have C0 := specParse (s.extract i k) wr hxs
        rw [hcl] at C0
        clear hcl
        by_cases hk1 : k < s.size
        · by_cases h58 : (s[k]'hk1).toNat = 58
          · have hcc := colon_found hno hik hk1 h58
            have hne : (((s[k]'hk1).toNat : Int) != 58) = false := by simp [h58]
            have hyl : (s.data.toList.drop (k + 1)).length = s.size - k - 1 := by rw [rest_len]; omega
            have hd : ((k : Int) - (i : Int) < 10) ∨ (10 ≤ (k : Int) - (i : Int)) := by omega
            rcases hd with hd | hd
            all_goals
              cases h2 : (pVal ((s.data.toList.drop i).take (k - i))).2
              · rw [h2] at C0
                have X := Lib.hid (R.out.bad L.out (fieldStep_bad hcc (by rintro ⟨a, _⟩; rw [h2] at a; cases a)))
                have C := Lib.hid C0
                clear C0 h2 hcc hno h58 hyl
                go_wp2_with (go_at_call 22; refine C.out.mono ?_; rintro e w' ⟨rfl, rfl⟩)
                go_ret2
                exact SplitPost.no X.out (own_empty _ _ BB.out.size) (BB.out.alloc BB.out.size _)
              · rw [h2] at C0
                by_cases h0 : (pVal ((s.data.toList.drop i).take (k - i))).1 < 0
                · have X := Lib.hid (R.out.bad L.out (fieldStep_bad hcc (by rintro ⟨_, a, _⟩; omega)))
                  have C := Lib.hid C0
                  clear C0 h2 hcc hno h58 hyl
                  go_wp2_with (go_at_call 22; refine C.out.mono ?_; rintro e w' ⟨rfl, rfl⟩)
                  go_ret2
                  exact SplitPost.no X.out (own_empty _ _ BB.out.size) (BB.out.alloc BB.out.size _)
                · by_cases h3 : ((s.size - k - 1 : Nat) : Int) < (pVal ((s.data.toList.drop i).take (k - i))).1
                  · have X := Lib.hid (R.out.bad L.out (fieldStep_bad hcc (by rintro ⟨_, _, a⟩; rw [hyl] at a; omega)))
                    have h4 : (s.size : Int) - (k : Int) - 1 < (pVal ((s.data.toList.drop i).take (k - i))).1 := by omega
                    have C := Lib.hid C0
                    clear C0 h2 hcc hno h58 hyl h3
                    go_wp2_with (go_at_call 22; refine C.out.mono ?_; rintro e w' ⟨rfl, rfl⟩)
                    go_ret2
                    exact SplitPost.no X.out (own_empty _ _ BB.out.size) (BB.out.alloc BB.out.size _)
                  · obtain ⟨m, hmm⟩ : ∃ m : Nat, (pVal ((s.data.toList.drop i).take (k - i))).1 = m := ⟨(pVal ((s.data.toList.drop i).take (k - i))).1.toNat, by omega⟩
                    have X := Lib.hid (R.out.step L.out (fieldStep_ok hcc h2 hmm (by omega)))
                    rw [hmm] at C0
                    have C := Lib.hid C0
                    have hm4 : (m : Int) ≤ (s.size : Int) - (k : Int) - 1 := by omega
                    have E := Lib.hid (piece_text s (k + 1) m)
                    clear C0 h2 hcc hno h58 hyl h3 h0 hmm
                    go_wp2_with (first | (go_at_call 22; refine C.out.mono ?_; rintro e w' ⟨rfl, rfl⟩) | (at_builtin; refine wpList_append_own _ rfl _ _ 28 rfl w.heap.size 9 i0 (.string ⟨#[]⟩) 1 16 Tryd.underlying28 hi hz0 hz1 hz2 rfl (by decide) _ _ _ rfl (World.ownsRow.alloc OW.out _) ⟨wr.heap.size, 0, none⟩ 1 1 [.string (s.extract (k + 1) (k + 1 + m))] rfl rfl ?c1 ?c2 ?c3 ?c4 ?c5 ?_))
                    case c1 => exact cell_one_new _ _ _
                    case c2 => intro u hu; simp at hu; subst hu; rfl
                    case c3 => unfold maxLen; omega
                    case c4 => omega
                    case c5 => have := BB.out.size; simp; omega
                    intro v' w2 hown' hgrow _
                    rw [← E.out] at hown'
                    have O2 := Lib.hid (OwnStrs.snoc hown')
                    have B2 := Lib.hid ((BB.out.alloc BB.out.size _).grown hgrow (by have := BB.out.size; simp; omega) OW.out.base)
                    clear hown' hgrow
                    go_wp2
                    go_roundw
                    case rel => exact ⟨k + 1 + m, by go_num, by omega, ⟨acc ++ [(s.data.toList.drop (k + 1)).take m], O2.out, by have := X.out; rwa [List.drop_drop] at this, by simp; omega⟩, B2.out⟩
                    case measure => simp [intOf]; omega
          · have hne : (((s[k]'hk1).toNat : Int) != 58) = true := by simp; omega
            by_cases hd : k < i + 10
            · have N := Lib.hid (hno.next hik hk1 h58)
              clear C0 hno
              go_wp2
              go_round
              case rel => exact ⟨k + 1, by go_num, by omega, by omega, by omega, N.out⟩
              case measure => simp [intOf]; omega
            · have X := Lib.hid (R.out.bad L.out (step_far hno (by omega) hk1 h58))
              have hd' : (10 : Int) ≤ (k : Int) - (i : Int) := by omega
              cases h2 : (pVal ((s.data.toList.drop i).take (k - i))).2
              · rw [h2] at C0
                have C := Lib.hid C0
                clear C0 h2 hno h58
                go_wp2_with (go_at_call 22; refine C.out.mono ?_; rintro e w' ⟨rfl, rfl⟩)
                go_ret2
                exact SplitPost.no X.out (own_empty _ _ BB.out.size) (BB.out.alloc BB.out.size _)
              · rw [h2] at C0
                have C := Lib.hid C0
                clear C0 h2 hno h58
                by_cases h0 : (pVal ((s.data.toList.drop i).take (k - i))).1 < 0
                all_goals
                  go_wp2_with (go_at_call 22; refine C.out.mono ?_; rintro e w' ⟨rfl, rfl⟩)
                  go_ret2
                  exact SplitPost.no X.out (own_empty _ _ BB.out.size) (BB.out.alloc BB.out.size _)
        · have X := Lib.hid (R.out.bad L.out (step_none hno hik (by omega)))
          cases h2 : (pVal ((s.data.toList.drop i).take (k - i))).2
          · rw [h2] at C0
            have C := Lib.hid C0
            clear C0 h2 hno
            go_wp2_with (go_at_call 22; refine C.out.mono ?_; rintro e w' ⟨rfl, rfl⟩)
            go_ret2
            exact SplitPost.no X.out (own_empty _ _ BB.out.size) (BB.out.alloc BB.out.size _)
          · rw [h2] at C0
            have C := Lib.hid C0
            clear C0 h2 hno
            by_cases h0 : (pVal ((s.data.toList.drop i).take (k - i))).1 < 0
            all_goals
              go_wp2_with (go_at_call 22; refine C.out.mono ?_; rintro e w' ⟨rfl, rfl⟩)
              go_ret2
              exact SplitPost.no X.out (own_empty _ _ BB.out.size) (BB.out.alloc BB.out.size _)
    · have hi' : i = s.size := by omega
      have X := Lib.hid (R.out.last (by rw [rest_len]; omega))
      go_wp2
      go_ret2
      exact SplitPost.yes X.out OW.out BB.out
end Go.Proofs.YtogkbfafdlbodaaDoor
