/- The implicit class of a vector, both sides. -/
import Derived.Test.YtemkppdinmfaoaaRows
import Derived.Test.YtemkppdinmfaoaaVecCopy
import Derived.Test.YtemkppdinmfaoaaVecCntI
import Derived.WalkKit
import Derived.OwnWalk
import Derived.Lib.Hide
namespace Go.Proofs.Ytemkppdinmfaoaa
open Go.RowKit
set_option maxRecDepth 100000
set_option linter.unusedVariables false

def nameB (k : Int) : ByteArray := if k = 0 then ⟨#[78, 85, 76, 76]⟩ else if k = 1 then ⟨#[108, 111, 103, 105, 99, 97, 108]⟩ else if k = 2 then ⟨#[110, 117, 109, 101, 114, 105, 99]⟩ else if k = 3 then ⟨#[99, 104, 97, 114, 97, 99, 116, 101, 114]⟩ else if k = 4 then ⟨#[108, 105, 115, 116]⟩ else ⟨#[102, 117, 110, 99, 116, 105, 111, 110]⟩
noncomputable def clsV (v : Vec) : List ByteArray := match bB (ValidV v), v with
  | true, .mk k _ _ _ cls _ _ _ => if cls.length = 0 then [nameB k] else cls
  | false, _ => []
theorem cls_no {v : Vec} (h : ¬ ValidV v) : clsV v = [] := by unfold clsV; rw [bB_no h]
theorem cls_own {k : Int} {items : List It} {parts : List Vec} {names cls levels : List ByteArray} {code env : Int} (h : ValidV (.mk k items parts names cls levels code env)) (hc : 0 < cls.length) : clsV (.mk k items parts names cls levels code env) = cls := by
  unfold clsV; rw [bB_yes h]; simp only; rw [if_neg (by omega)]
theorem cls_name {k : Int} {items : List It} {parts : List Vec} {names cls levels : List ByteArray} {code env : Int} (h : ValidV (.mk k items parts names cls levels code env)) (hc : cls.length = 0) : clsV (.mk k items parts names cls levels code env) = [nameB k] := by
  unfold clsV; rw [bB_yes h]; simp only; rw [if_pos hc]
theorem one_own {w : World} {g : Nat} {s : ByteArray} {fr : Nat × Nat} (h : w.heap[g]? = some (.cells #[.string s] 9 (0, 0))) : OwnTxs w (some ⟨g, 0, none⟩) [s] [g] :=
  .inr ⟨g, #[.string s], rfl, rfl, h, Nat.le_refl _, fun i hi => by
    have : i = 0 := by simp at hi; omega
    subst this; rfl⟩
/-- What both sides answer: a list of texts in a block of its own. -/
def ClassAns (v : Vec) (w : World) (e : Ending) (w' : World) : Prop := ∃ a c F, e = .returned (.slice a (clsV v).length c) ∧ OwnTxs w' a (clsV v) F ∧ F.Nodup ∧ (∀ b ∈ F, w.heap.size ≤ b ∧ b < w'.heap.size) ∧ Below w.heap.size w w'
theorem implName (k : Int) (w : World) (h0 : 0 ≤ k) (h5 : k ≤ 5) :
    Calls Try.prog 62 #[.int .i64 k] w fun e w' => e = .returned (.string (nameB k)) ∧ w = w' := by
  rcases (show k = 0 ∨ k = 1 ∨ k = 2 ∨ k = 3 ∨ k = 4 ∨ k = 5 by omega) with rfl | rfl | rfl | rfl | rfl | rfl
  all_goals
    go_enter Try.func62, Try.ntmps62
    go_wp2
    go_ret
    exact ⟨rfl, rfl⟩
set_option maxHeartbeats 2000000 in
theorem implClass (d : Nat) (v : Vec) (val : Value) (lo hi : Nat) (w : World) (hv : VecAt lo hi w d v val) (hhi : hi ≤ w.heap.size) (hsm : Small d v) :
    Calls Try.prog 24 #[val] w (ClassAns v w) := by
  have C1 := Lib.hid (fun (w1 : World) (hb : Below w.heap.size w w1) => implIsVector d v val lo hi w1 (hv.below hb hhi) (Nat.le_trans hhi hb.size) hsm)
  obtain ⟨VV, hVV⟩ : ∃ V, v = V := ⟨_, rfl⟩
  rw [hVV] at C1 ⊢
  obtain ⟨kk, items, parts, names, cls, levels, code, env⟩ := v
  obtain ⟨d', ai, ci, ap, cp, an, cn, ac, cc, al, cl, ed, rfl, hI, hN, hC, hL, hP⟩ := vecAt_open hv
  have lc : cls.length ≤ 1048576 := by subst ed; exact hsm.2.2.2.1
  have CC := Lib.hid (fun (w1 : World) (hb : Below w.heap.size w w1) (hpos : 0 < cls.length) => implCopyStrs cls ac cc lo hi w1 (hC.below hb hhi) (Nat.le_trans hhi hb.size) lc hpos)
  have X1 := Lib.hid (fun (h : ValidV VV) (hc : 0 < cls.length) => (hVV ▸ cls_own (hVV ▸ h) hc : clsV VV = cls))
  have X2 := Lib.hid (fun (h : ValidV VV) (hc : cls.length = 0) => (hVV ▸ cls_name (hVV ▸ h) hc : clsV VV = [nameB kk]))
  have X3 := Lib.hid (fun (h : ValidV VV) => (by have h' : FlatV VV := h.1.flat; rw [← hVV] at h'; exact FlatOk.h_kind h' : 0 ≤ kk ∧ kk ≤ 5))
  clear hv hI hN hC hL hP hsm ed hVV
  go_enter Try.func24, Try.ntmps24
  go_wp2_with fail
  have B0 := Lib.hid (below1 w (.cells #[.int .i64 kk, .slice ai items.length ci, .slice ap parts.length cp, .slice an names.length cn, .slice ac cls.length cc, .slice al levels.length cl, .int .i64 code, .int .i64 env] 32))
  have K0 := Lib.hid (blk_new w (.cells #[.int .i64 kk, .slice ai items.length ci, .slice ap parts.length cp, .slice an names.length cn, .slice ac cls.length cc, .slice al levels.length cl, .int .i64 code, .int .i64 env] 32) rfl)
  with_reducible refine (C1.out _ B0.out).mono ?_
  rintro e w1 ⟨rfl, b⟩
  have B1 := Lib.hid (below_then B0.out b)
  have K1 := Lib.hid (blk_below b K0.out)
  clear b
  obtain ⟨k0, k1, k2, k3, k4, k5, k6, k7⟩ := vec8 K1.out
  by_cases q : ValidV VV
  · rw [bB_yes q]
    by_cases hc : 0 < cls.length
    · have X := Lib.hid (X1.out q hc)
      clear q
      go_wp2_with fail
      with_reducible refine (CC.out _ B1.out hc).mono ?_
      rintro e w2 ⟨g, c', rfl, ho, hB, hlt, _, b⟩
      have OO := Lib.hid ho
      have B2 := Lib.hid (below_then B1.out b)
      have hg : w.heap.size ≤ g := Nat.le_trans B1.out.size hB
      clear b ho
      go_wp2
      go_ret
      refine ⟨some ⟨g, 0, none⟩, c', [g], by rw [X.out]; rfl, by rw [X.out]; exact OO.out, by simp, fun b hb => ?_, B2.out⟩
      obtain rfl := List.mem_singleton.1 hb
      exact ⟨hg, hlt⟩
    · have hc0 : cls.length = 0 := by omega
      have X := Lib.hid (X2.out q hc0)
      obtain ⟨j0, j5⟩ := X3.out q
      have CN := Lib.hid (fun W => implName kk W j0 j5)
      clear q hc0
      go_wp2_with fail
      with_reducible refine (CN.out _).mono ?_
      rintro e w' ⟨rfl, rfl⟩
      obtain ⟨s, hs⟩ : ∃ s, nameB kk = s := ⟨_, rfl⟩
      rw [hs] at X ⊢
      clear hs
      go_wp2
      go_ret
      refine ⟨some ⟨w1.heap.size, 0, none⟩, 1, [w1.heap.size], by rw [X.out]; rfl, by rw [X.out]; exact one_own (fr := (0, 0)) (blk_new w1 _ rfl), by simp, fun b hb => ?_, B1.out.alloc B1.out.size _⟩
      obtain rfl := List.mem_singleton.1 hb
      exact ⟨B1.out.size, by simp⟩
  · have X := Lib.hid (cls_no q)
    rw [bB_no q]
    clear q
    go_wp2
    go_ret
    exact ⟨none, 0, [], by rw [X.out]; rfl, by rw [X.out]; exact .inl ⟨rfl, rfl⟩, List.nodup_nil, fun b hb => (by cases hb), B1.out⟩
set_option maxHeartbeats 2000000 in
theorem specClass (d : Nat) (v : Vec) (val : Value) (lo hi : Nat) (w : World) (hv : VecAt lo hi w d v val) (hhi : hi ≤ w.heap.size) (hsm : Small d v) :
    Calls Try.prog 23 #[val] w (ClassAns v w) := by
  have C1 := Lib.hid (fun (w1 : World) (hb : Below w.heap.size w w1) => specIsVector d v val lo hi w1 (hv.below hb hhi) (Nat.le_trans hhi hb.size) hsm)
  obtain ⟨VV, hVV⟩ : ∃ V, v = V := ⟨_, rfl⟩
  rw [hVV] at C1 ⊢
  obtain ⟨kk, items, parts, names, cls, levels, code, env⟩ := v
  obtain ⟨d', ai, ci, ap, cp, an, cn, ac, cc, al, cl, ed, rfl, hI, hN, hC, hL, hP⟩ := vecAt_open hv
  have lc : cls.length ≤ 1048576 := by subst ed; exact hsm.2.2.2.1
  have HCt := Lib.hid (fun (w1 : World) (hb : Below w.heap.size w w1) => hC.below hb hhi)
  have X1 := Lib.hid (fun (h : ValidV VV) (hc : 0 < cls.length) => (hVV ▸ cls_own (hVV ▸ h) hc : clsV VV = cls))
  have X2 := Lib.hid (fun (h : ValidV VV) (hc : cls.length = 0) => (hVV ▸ cls_name (hVV ▸ h) hc : clsV VV = [nameB kk]))
  have X3 := Lib.hid (fun (h : ValidV VV) => (by have h' : FlatV VV := h.1.flat; rw [← hVV] at h'; exact FlatOk.h_kind h' : 0 ≤ kk ∧ kk ≤ 5))
  clear hv hI hN hC hL hP hsm ed hVV
  go_enter Try.func23, Try.ntmps23
  go_wp2_with fail
  have B0 := Lib.hid (below1 w (.cells #[.int .i64 kk, .slice ai items.length ci, .slice ap parts.length cp, .slice an names.length cn, .slice ac cls.length cc, .slice al levels.length cl, .int .i64 code, .int .i64 env] 32))
  have K0 := Lib.hid (blk_new w (.cells #[.int .i64 kk, .slice ai items.length ci, .slice ap parts.length cp, .slice an names.length cn, .slice ac cls.length cc, .slice al levels.length cl, .int .i64 code, .int .i64 env] 32) rfl)
  with_reducible refine (C1.out _ B0.out).mono ?_
  rintro e w1 ⟨rfl, b⟩
  have B1 := Lib.hid (below_then B0.out b)
  have K1 := Lib.hid (blk_below b K0.out)
  clear b
  obtain ⟨k0, k1, k2, k3, k4, k5, k6, k7⟩ := vec8 K1.out
  have hz := (Array.getElem?_eq_some_iff.1 K1.out).1
  by_cases q : ValidV VV
  · rw [bB_yes q]
    by_cases hc : 0 < cls.length
    · have X := Lib.hid (X1.out q hc)
      clear q
      obtain ⟨W2, hW2⟩ : ∃ W, w1.alloc (.cells #[] 9) = W := ⟨_, rfl⟩
      have B2 := Lib.hid (show Below w.heap.size w W2 from hW2 ▸ B1.out.alloc B1.out.size _)
      have G2 := Lib.hid (show W2.heap[w1.heap.size]? = some (.cells #[] 9 (0, 0)) from hW2 ▸ blk_new w1 _ rfl)
      have HT := HCt.out _ B2.out
      have hac := texts_some HT hc
      obtain ⟨bx, ox, rfl⟩ := hac
      have NC := Lib.hid (news_cells HT)
      have HO := Lib.hid (fun (W : World) (v : Value) (hr : W.ownsRow w.heap.size 9 1 v cls.length (cls.map Value.string)) => own_of_row hc hr)
      have HLn := Lib.hid (show (cls.map Value.string).length = cls.length * 1 by simp)
      have H1 := Lib.hid (show ∀ u ∈ cls.map Value.string, u.oneCell' = true from fun u hu => by obtain ⟨s, _, rfl⟩ := List.mem_map.1 hu; rfl)
      have ON := Lib.hid (show W2.ownsRow w.heap.size 9 1 (.slice (some ⟨w1.heap.size, 0, none⟩) 0 0) 0 [] from ⟨rfl, .inr ⟨w1.heap.size, 0, #[], rfl, B1.out.size, G2.out, Nat.le_refl _, Nat.zero_le _, rfl, rfl⟩⟩)
      obtain ⟨i0, hi0, hz0, hz1, hz2⟩ := info_parts infoStr
      have EW := Lib.hid hW2
      clear HT hW2
      obtain ⟨n, hn'⟩ : ∃ n, cls.length = n := ⟨_, rfl⟩
      obtain ⟨news, hnews⟩ : ∃ x, cls.map Value.string = x := ⟨_, rfl⟩
      have EN := Lib.hid hn'
      rw [hn'] at HO HLn lc hc k4 ⊢
      rw [hnews] at NC HO HLn H1
      clear hn' hnews
      go_wp2_with (at_builtin; rw [EW.out]; refine wpList_append_own _ rfl _ _ 24 rfl w.heap.size 9 i0 (.string ⟨#[]⟩) 1 16 Try.underlying24 hi0 hz0 hz1 hz2 rfl (by decide) (.slice (some ⟨w1.heap.size, 0, none⟩) 0 0) 0 [] rfl ON.out ⟨bx, ox, none⟩ n cc news rfl HLn.out NC.out H1.out ?c1 ?c2 ?c3 ?_)
      case c1 => unfold maxLen; omega
      case c2 => omega
      case c3 => exact B2.out.size
      intro v' w2 hown' hgrow _
      obtain ⟨g, c', rfl, ho, hB, hlt, hc'⟩ := HO.out _ _ hown'
      have OO := Lib.hid ho
      have BB := Lib.hid (B2.out.grown hgrow B2.out.size (by intro r hr; cases hr; exact B1.out.size))
      clear hown' hgrow ho
      go_wp2
      go_ret
      refine ⟨some ⟨g, 0, none⟩, c', [g], by rw [X.out, EN.out]; rfl, by rw [X.out]; exact OO.out, by simp, fun b hb => ?_, BB.out⟩
      obtain rfl := List.mem_singleton.1 hb
      exact ⟨hB, hlt⟩
    · have hc0 : cls.length = 0 := by omega
      have X := Lib.hid (X2.out q hc0)
      obtain ⟨j0, j5⟩ := X3.out q
      clear q hc0
      rcases (show kk = 0 ∨ kk = 1 ∨ kk = 2 ∨ kk = 3 ∨ kk = 4 ∨ kk = 5 by omega) with rfl | rfl | rfl | rfl | rfl | rfl
      all_goals
        go_wp2
        go_ret
        refine ⟨_, 1, [w1.heap.size + 1], by rw [X.out]; rfl, by rw [X.out]; exact one_own (fr := (0, 0)) (blk_new (w1.alloc _) _ (by simp)), by simp, fun b hb => ?_, (B1.out.alloc B1.out.size _).alloc (by have := B1.out.size; simp; omega) _⟩
        obtain rfl := List.mem_singleton.1 hb
        exact ⟨by have := B1.out.size; omega, by simp⟩
  · have X := Lib.hid (cls_no q)
    rw [bB_no q]
    clear q
    go_wp2
    go_ret
    exact ⟨_, _, [], by rw [X.out]; rfl, by rw [X.out]; exact .inl ⟨rfl, rfl⟩, List.nodup_nil, fun b hb => (by cases hb), B1.out.alloc B1.out.size _⟩
end Go.Proofs.Ytemkppdinmfaoaa
