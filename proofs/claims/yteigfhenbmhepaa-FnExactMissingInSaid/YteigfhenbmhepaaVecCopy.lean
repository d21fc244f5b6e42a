/- A list of texts copied by append: what lies in the new block. -/
import Derived.Test.YteigfhenbmhepaaRows
import Derived.Test.YteigfhenbmhepaaVecTo
import Derived.Test.YteigfhenbmhepaaVecMk
import Derived.WalkKit
import Derived.OwnWalk
import Derived.Lib.Hide
namespace Go.Proofs.Yteigfhenbmhepaa
open Go.RowKit
set_option maxRecDepth 100000
set_option linter.unusedVariables false

/-- A row of the call's own that holds the texts of l. -/
theorem own_of_row {w : World} {B : Nat} {v : Value} {l : List ByteArray} (hpos : 0 < l.length) (h : w.ownsRow B 9 1 v l.length (l.map Value.string)) :
    ∃ g c, v = .slice (some ⟨g, 0, none⟩) l.length c ∧ OwnTxs w (some ⟨g, 0, none⟩) l [g] ∧ B ≤ g ∧ g < w.heap.size ∧ l.length ≤ c := by
  obtain ⟨_, h⟩ := h
  rcases h with ⟨_, h0⟩ | ⟨g, cap, cur, rfl, hB, hg, hc, _, hs, ht⟩
  · omega
  · refine ⟨g, cap, rfl, .inr ⟨g, cur, rfl, rfl, hg, by omega, fun i hi => ?_⟩, hB, (Array.getElem?_eq_some_iff.1 hg).1, hc⟩
    have h1 : (cur.toList.take (l.length * 1))[i]? = (l.map Value.string)[i]? := by rw [ht]
    rw [List.getElem?_take_of_lt (by omega)] at h1
    rw [← Array.getElem?_toList, h1]
    unfold txtS
    simp [List.getD_eq_getElem?_getD, hi]
theorem news_cells {w : World} {lo hi b off : Nat} {l : List ByteArray} (h : TextsAt lo hi w (some ⟨b, off, none⟩) l) : ∀ j u, (l.map Value.string)[j]? = some u → w.cell? ((⟨b, off, none⟩ : Addr).add j) = some u := by
  intro j u hj
  rw [List.getElem?_map] at hj
  obtain ⟨s, hs, rfl⟩ := Option.map_eq_some_iff.1 hj
  obtain ⟨b', off', e, _, _, c⟩ := h j s hs
  simp only [Option.some.injEq, Addr.mk.injEq, and_true] at e
  obtain ⟨rfl, rfl⟩ := e
  have ea : (⟨b, off, none⟩ : Addr).add j = ⟨b, off + j, none⟩ := by
    unfold Addr.add; split
    · rename_i h; subst h; rfl
    · rfl
  rw [ea]; exact c
theorem texts_some {w : World} {lo hi : Nat} {a : Option Addr} {l : List ByteArray} (h : TextsAt lo hi w a l) (hpos : 0 < l.length) : ∃ b off, a = some ⟨b, off, none⟩ := by
  obtain ⟨b, off, e, _⟩ := h 0 _ (List.getElem?_eq_getElem hpos)
  exact ⟨b, off, e⟩
set_option maxHeartbeats 1000000 in
theorem implCopyStrs (l : List ByteArray) (a : Option Addr) (c lo hi : Nat) (w : World) (h : TextsAt lo hi w a l) (hhi : hi ≤ w.heap.size) (hn : l.length ≤ 1048576) (hpos : 0 < l.length) :
    Calls Try.prog 81 #[.slice a l.length c] w fun e w' => ∃ g c', e = .returned (.slice (some ⟨g, 0, none⟩) l.length c') ∧ OwnTxs w' (some ⟨g, 0, none⟩) l [g] ∧ w.heap.size ≤ g ∧ g < w'.heap.size ∧ l.length ≤ c' ∧ Below w.heap.size w w' := by
  obtain ⟨b, off, rfl⟩ := texts_some h hpos
  have NC := Lib.hid (news_cells h)
  have HO := Lib.hid (fun (W : World) (v : Value) (hr : W.ownsRow w.heap.size 9 1 v l.length (l.map Value.string)) => own_of_row hpos hr)
  have HLn := Lib.hid (show (l.map Value.string).length = l.length * 1 by simp)
  have H1 := Lib.hid (show ∀ u ∈ l.map Value.string, u.oneCell' = true from fun u hu => by obtain ⟨s, _, rfl⟩ := List.mem_map.1 hu; rfl)
  have ON := Lib.hid (show w.ownsRow w.heap.size 9 1 (.slice none 0 0) 0 [] from ⟨rfl, .inl ⟨rfl, rfl⟩⟩)
  obtain ⟨i0, hi0, hz0, hz1, hz2⟩ := info_parts infoStr
  clear h
  obtain ⟨n, hn'⟩ : ∃ n, l.length = n := ⟨_, rfl⟩
  obtain ⟨news, hnews⟩ : ∃ x, l.map Value.string = x := ⟨_, rfl⟩
  rw [hn'] at HO HLn hn hpos ⊢
  rw [hnews] at NC HO HLn H1
  clear hn' hnews
  go_enter Try.func81, Try.ntmps81
  go_wp2_with (at_builtin; refine wpList_append_own _ rfl _ _ 25 rfl w.heap.size 9 i0 (.string ⟨#[]⟩) 1 16 Try.underlying25 hi0 hz0 hz1 hz2 rfl (by decide) (.slice none 0 0) 0 [] rfl ON.out ⟨b, off, none⟩ n c news rfl HLn.out NC.out H1.out ?c1 ?c2 ?c3 ?_)
  case c1 => unfold maxLen; omega
  case c2 => omega
  case c3 => exact Nat.le_refl _
  intro v' w2 hown' hgrow _
  obtain ⟨g, c', rfl, ho, hB, hlt, hc⟩ := HO.out _ _ hown'
  have OO := Lib.hid ho
  have BB := Lib.hid ((Below.refl w.heap.size w).grown hgrow (Nat.le_refl _) (by intro r hr; cases hr))
  clear hown' hgrow ho
  go_wp2
  go_ret
  exact ⟨g, c', rfl, OO.out, hB, hlt, hc, BB.out⟩
end Go.Proofs.Yteigfhenbmhepaa
