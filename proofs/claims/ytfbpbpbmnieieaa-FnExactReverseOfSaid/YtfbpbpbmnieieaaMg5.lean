/- Ints reversed in place. -/
import Derived.Test.YtfbpbpbmnieieaaRows
import Derived.Test.YtfbpbpbmnieieaaMg2
import Derived.Test.YtfbpbpbmnieieaaMg3
import Derived.Test.YtfbpbpbmnieieaaMg1
import Derived.Test.YtfbpbpbmnieieaaVecStr
import Derived.Test.YtfbpbpbmnieieaaMg4
import Derived.RegionTactic
import Derived.ChangeAlike
import Derived.IntWalk
import Derived.WalkKit
import Derived.OwnWalk
import Derived.Deep.DeepCutAuto
import Derived.Lib.Hide
import Derived.Deep.MidRow
import Derived.Maps.AppendAt
namespace Go.Proofs.Ytfbpbpbmnieieaa
open Go.RowKit
set_option maxRecDepth 100000
set_option linter.unusedVariables false

/-- The ints of a row of its own: its block. -/
theorem IntZ.parts {w0 w : World} {l : List Int} {v : Value} (h : IntZ w0 w l v) (hl : l.length ≠ 0) : ∃ g c, v = .slice (some ⟨g, 0, none⟩) l.length c ∧ w0.heap.size ≤ g ∧ g < w.heap.size := by
  obtain ⟨_, ⟨_, h0⟩ | ⟨g, cap, cur, e, hB, hg, _⟩⟩ := h.row
  · exact absurd h0 hl
  · exact ⟨g, cap, e, hB, (Array.getElem?_eq_some_iff.1 hg).1⟩
theorem intC_at {l : List Int} {k : Nat} (hk : k < l.length) : (intC l)[k]? = some (.int .i64 (l.getD k 0)) := by
  unfold intC
  simp [List.getD_eq_getElem?_getD, List.getElem?_map, List.getElem?_eq_getElem hk]
theorem IntZ.cell {w0 w : World} {l : List Int} {g n c k : Nat} (h : IntZ w0 w l (.slice (some ⟨g, 0, none⟩) n c)) (hk : k < l.length) : w.cell? ⟨g, k, none⟩ = some (.int .i64 (l.getD k 0)) ∧ w.frozen? ⟨g, k, none⟩ = false := by
  obtain ⟨_, ⟨e, _⟩ | ⟨g', cap, cur, e, hB, hg, hc, hm, hs, ht⟩⟩ := h.row
  · cases e
  · simp only [Value.slice.injEq, Option.some.injEq, Addr.mk.injEq, and_true] at e
    obtain ⟨rfl, _, _⟩ := e
    refine ⟨cellOf hg ?_, freeOf hg⟩
    rw [← Array.getElem?_toList, ← intC_at hk, ← ht, List.getElem?_take, if_pos (by omega)]
theorem IntZ.set {w0 w : World} {l : List Int} {g n c k : Nat} {z : Int} (h : IntZ w0 w l (.slice (some ⟨g, 0, none⟩) n c)) (hk : k < l.length) : IntZ w0 (w.setCell ⟨g, k, none⟩ (.int .i64 z)) (l.set k z) (.slice (some ⟨g, 0, none⟩) n c) := by
  obtain ⟨h1, ⟨e, _⟩ | ⟨g', cap, cur, e, hB, hg, hc, hm, hs, ht⟩⟩ := h.row
  · cases e
  · simp only [Value.slice.injEq, Option.some.injEq, Addr.mk.injEq, and_true] at e
    obtain ⟨rfl, rfl, rfl⟩ := e
    have e1 : (l.set k z).length = l.length := by simp
    refine ⟨⟨by rw [e1]; unfold intC; simp, .inr ⟨g, c, cur.setIfInBounds k (.int .i64 z), by rw [e1], hB, Joins.block_setCell hg _, by rw [e1]; exact hc, hm, by simpa using hs, ?_⟩⟩, h.below.setCell (p := ⟨g, k, none⟩) hB _⟩
    rw [e1, Array.toList_setIfInBounds, List.take_set, ht]
    unfold intC
    rw [List.map_set]
theorem IntZ.drew {w0 w : World} {l : List Int} {v : Value} (h : IntZ w0 w l v) : IntZ w0 w.drew l v := h.keep (below_drew' (Below.refl _ _))
/-- The first i and the last i of n, exchanged. -/
def rvF (f : Nat → Int) (n i p : Nat) : Int := if p < i ∨ n ≤ p + i then f (n - 1 - p) else f p
def rvL (f : Nat → Int) (n i : Nat) : List Int := (List.range n).map (rvF f n i)
theorem rvL_len (f : Nat → Int) (n i : Nat) : (rvL f n i).length = n := by unfold rvL; simp
theorem rvL_at {f : Nat → Int} {n i p : Nat} (h : p < n) : (rvL f n i).getD p 0 = rvF f n i p := by
  unfold rvL; simp [List.getD_eq_getElem?_getD, h]
theorem rvL_get {f : Nat → Int} {n i p : Nat} (h : p < (rvL f n i).length) : (rvL f n i)[p] = rvF f n i p := by
  have h' : p < ((List.range n).map (rvF f n i)).length := h
  show ((List.range n).map (rvF f n i))[p]'h' = _
  rw [List.getElem_map, List.getElem_range]
theorem rvL_zero (f : Nat → Int) (n : Nat) : rvL f n 0 = (List.range n).map f := by
  unfold rvL
  refine List.map_congr_left (fun p hp => ?_)
  have := List.mem_range.1 hp
  unfold rvF
  rw [if_neg (by omega)]
theorem rvL_end {f : Nat → Int} {n i : Nat} (h : n ≤ 2 * i + 1) : rvL f n i = (List.range n).map (fun p => f (n - 1 - p)) := by
  unfold rvL
  refine List.map_congr_left (fun p hp => ?_)
  have := List.mem_range.1 hp
  unfold rvF
  by_cases q : p < i ∨ n ≤ p + i
  · rw [if_pos q]
  · rw [if_neg q, show n - 1 - p = p by omega]
theorem rvL_step {f : Nat → Int} {n i j : Nat} (hj : j + i + 1 = n) (hij : i < j) : ((rvL f n i).set i (f j)).set j (f i) = rvL f n (i + 1) := by
  apply List.ext_getElem
  · simp [rvL]
  · intro p h1 h2
    have hp : p < n := by rw [rvL_len] at h2; exact h2
    rw [List.getElem_set, List.getElem_set, rvL_get h2, rvL_get (show p < (rvL f n i).length by rw [rvL_len]; exact hp)]
    unfold rvF
    by_cases e1 : j = p
    · subst e1
      rw [if_pos rfl, if_pos (by omega), show n - 1 - j = i by omega]
    · rw [if_neg e1]
      by_cases e2 : i = p
      · subst e2
        rw [if_pos rfl, if_pos (by omega), show n - 1 - i = j by omega]
      · rw [if_neg e2]
        by_cases q : p < i ∨ n ≤ p + i
        · rw [if_pos q, if_pos (by omega)]
        · rw [if_neg q, if_neg (by omega)]
set_option maxHeartbeats 4000000 in
theorem implRev (f : Nat → Int) (n : Nat) (w0 w : World) (v : Value) (h : IntZ w0 w ((List.range n).map f) v) (hn : n ≤ 1048576) :
    Calls Try.prog 61 #[v] w fun e w' => e = .returned (.tuple #[]) ∧ IntZ w0 w' ((List.range n).map (fun p => f (n - 1 - p))) v := by
  have h' : IntZ w0 w (rvL f n 0) v := by rw [rvL_zero]; exact h
  clear h
  by_cases h0 : n = 0
  · subst h0
    obtain ⟨sa, c, e, _⟩ := h'.ints
    rw [rvL_len] at e
    subst e
    have H := Lib.hid h'
    clear h'
    go_enter Try.func61, Try.ntmps61
    go_wp2
    go_loopw [2, 3] (fun a b wr => a = .int .i64 0 ∧ b = .int .i64 (-1) ∧ wr = w) (fun _ _ _ => 0)
    case atStart => exact ⟨rfl, rfl, rfl⟩
    case round =>
      obtain ⟨rfl, rfl, rfl⟩ := hrel
      go_wp2
      go_end0
      exact ⟨rfl, H.out⟩
  · obtain ⟨g, c, e, hB, hg⟩ := h'.parts (by rw [rvL_len]; exact h0)
    subst e
    have H := Lib.hid h'
    have EN := Lib.hid (fun i (h : n ≤ 2 * i + 1) => rvL_end (f := f) h)
    have ES := Lib.hid (fun i j (h : j + i + 1 = n) (h2 : i < j) => rvL_step (f := f) h h2)
    have LL := Lib.hid (fun i => rvL_len f n i)
    have AT := Lib.hid (fun i p (h : p < n) => rvL_at (f := f) (i := i) h)
    have RF := Lib.hid (fun i j (h : j + i + 1 = n) (h2 : i < j) => (by unfold rvF; rw [if_neg (by omega), if_neg (by omega)]; exact ⟨rfl, rfl⟩ : rvF f n i i = f i ∧ rvF f n i j = f j))
    rw [show (rvL f n 0).length = n from rvL_len _ _ _] at H ⊢
    clear h'
    go_enter Try.func61, Try.ntmps61
    go_wp2
    go_loopw [2, 3] (fun a b wr => ∃ i : Nat, 2 * i ≤ n + 1 ∧ a = .int .i64 i ∧ b = .int .i64 ((n : Int) - 1 - i) ∧ IntZ w0 wr (rvL f n i) (.slice (some ⟨g, 0, none⟩) n c)) (fun a _ _ => n - (intOf a).toNat)
    case atStart => exact ⟨0, by omega, rfl, by simp, H.out⟩
    case round =>
      obtain ⟨i, hi, rfl, rfl, hir⟩ := hrel
      by_cases hlt : (i : Int) < (n : Int) - 1 - i
      · obtain ⟨j, hj⟩ : ∃ j : Nat, j + i + 1 = n := ⟨n - 1 - i, by omega⟩
        have hij : i < j := by omega
        have ej : (n : Int) - 1 - i = (j : Int) := by omega
        rw [ej]
        obtain ⟨ci, fi⟩ := hir.cell (k := i) (by rw [LL.out]; omega)
        obtain ⟨cj, fj⟩ := hir.cell (k := j) (by rw [LL.out]; omega)
        rw [AT.out i i (by omega), (RF.out i j hj hij).1] at ci
        rw [AT.out i j (by omega), (RF.out i j hj hij).2] at cj
        have hin : i < n := by omega
        have hjn : j < n := by omega
        have IN := Lib.hid (show IntZ w0 _ (rvL f n (i + 1)) _ from ES.out i j hj hij ▸ ((hir.set (k := i) (z := f j) (by rw [LL.out]; omega)).set (k := j) (z := f i) (by rw [List.length_set, LL.out]; omega)).drew)
        clear hir
        go_wp2
        go_region
        go_wp2
        go_roundw
        case rel => exact ⟨i + 1, by omega, by go_num, by first | go_num | (congr 1; omega), IN.out⟩
        case measure => simp [intOf]; omega
      · have FN := Lib.hid (show IntZ w0 _ ((List.range n).map (fun p => f (n - 1 - p))) _ from EN.out i (by omega) ▸ hir)
        clear hir
        go_wp2
        go_end0
        exact ⟨rfl, FN.out⟩
end Go.Proofs.Ytfbpbpbmnieieaa

/- Parts appended to a vector under way; all parts of a valid vector, however deep, are vectors. -/
namespace Go.Proofs.Ytfbpbpbmnieieaa
open Go.RowKit
set_option maxRecDepth 100000
set_option linter.unusedVariables false

theorem isV_up : ∀ (n : Nat) (v : Vec), IsV n v → IsV (n + 1) v
  | 0, v, h => ⟨h.1, fun i hi => by have := h.2; omega⟩
  | n + 1, v, h => ⟨h.1, fun i hi => isV_up n _ (h.2 i hi)⟩
theorem isV_three {n : Nat} {v : Vec} (hn : n ≤ 3) (h : IsV n v) : IsV 3 v := by
  rcases (show n = 0 ∨ n = 1 ∨ n = 2 ∨ n = 3 by omega) with rfl | rfl | rfl | rfl
  · exact isV_up _ _ (isV_up _ _ (isV_up _ _ h))
  · exact isV_up _ _ (isV_up _ _ h)
  · exact isV_up _ _ h
  · exact h
theorem allIs_of : ∀ (d n : Nat) (v : Vec), n ≤ 3 → IsV n v → AllIs d v
  | 0, _, _, _, _ => trivial
  | d + 1, 0, v, _, h => fun i hi => by have := h.2; omega
  | d + 1, n + 1, v, hn, h => fun i hi => ⟨isV_three (by omega) (h.2 i hi), allIs_of d n _ (by omega) (h.2 i hi)⟩
theorem part_is {v : Vec} (h : IsV 3 v) (d i : Nat) (hi : i < (partsV v).length) : AllIs d ((partsV v).getD i noV) ∧ (partsV ((partsV v).getD i noV)).length ≤ 41 ∧ IsV 2 ((partsV v).getD i noV) := by
  have h2 := h.2 i hi
  exact ⟨allIs_of d 2 _ (by omega) h2, by have := h2.flat.parts; omega, h2⟩
theorem RowX.snocX {lo : Nat} {w w' : World} {d : Nat} {parts : List Vec} {v' : Value} {F : List Nat} {p : Vec} {c0 c1 c2 c3 c4 c5 c6 c7 : Value} {vals : List Value} {Fs : List (List Nat)} (h1 : vals.length = parts.length) (h2 : Fs.length = parts.length)
    (h4 : ∀ i, i < parts.length → OwnVec w d (parts.getD i noV) (vals.getD i undef) (Fs.getD i [])) (ho : OwnVec w' d p (.agg #[c0, c1, c2, c3, c4, c5, c6, c7]) F)
    (hr : w'.ownsRow lo 31 8 v' (parts.length + 1) (vals.flatMap cl8 ++ [c0, c1, c2, c3, c4, c5, c6, c7])) (hX : ∀ g ∈ Fs.flatten, w'.heap[g]? = w.heap[g]?) : RowX lo w' d (parts ++ [p]) v' (Fs.flatten ++ F) := by
  have hl : (parts ++ [p]).length = parts.length + 1 := by simp
  refine ⟨vals ++ [Value.agg #[c0, c1, c2, c3, c4, c5, c6, c7]], Fs ++ [F], by simp [h1], by simp [h2], ?_, fun i hi => ?_, by simp⟩
  · rw [hl, List.flatMap_append]
    exact hr
  · rw [hl] at hi
    by_cases e : i = parts.length
    · subst e
      have e0 : (parts ++ [p]).getD parts.length noV = p := by rw [List.getD_eq_getElem?_getD, List.getElem?_append_right (by omega)]; simp
      have e1 : (vals ++ [Value.agg #[c0, c1, c2, c3, c4, c5, c6, c7]]).getD parts.length undef = .agg #[c0, c1, c2, c3, c4, c5, c6, c7] := by rw [List.getD_eq_getElem?_getD, List.getElem?_append_right (by omega)]; simp [h1]
      have e2 : (Fs ++ [F]).getD parts.length [] = F := by rw [List.getD_eq_getElem?_getD, List.getElem?_append_right (by omega)]; simp [h2]
      rw [e0, e1, e2]
      exact ho
    · have e0 : (parts ++ [p]).getD i noV = parts.getD i noV := by rw [List.getD_eq_getElem?_getD, List.getD_eq_getElem?_getD, List.getElem?_append_left (by omega)]
      have e1 : (vals ++ [Value.agg #[c0, c1, c2, c3, c4, c5, c6, c7]]).getD i undef = vals.getD i undef := by rw [List.getD_eq_getElem?_getD, List.getD_eq_getElem?_getD, List.getElem?_append_left (by omega)]
      have e2 : (Fs ++ [F]).getD i [] = Fs.getD i [] := by rw [List.getD_eq_getElem?_getD, List.getD_eq_getElem?_getD, List.getElem?_append_left (by omega)]
      rw [e0, e1, e2]
      exact (h4 i (by omega)).kept _ _ _ _ (fun b hb => hX b (mem_flat (by omega) hb))
theorem Und.snocP {lo : Nat} {w0 w1 w2 : World} {d : Nat} {items : List It} {parts : List Vec} {names cls lev : List ByteArray} {vi vp vn vc vl v' : Value} {X : List Nat} {p : Vec} {c0 c1 c2 c3 c4 c5 c6 c7 : Value} {vals : List Value} {Fs : List (List Nat)} (h : Und lo w0 d items parts names cls lev vi vp vn vc vl X) (hb : Below w0.heap.size w0 w1)
    (h1 : vals.length = parts.length) (h2 : Fs.length = parts.length) (h4 : ∀ i, i < parts.length → OwnVec w1 d (parts.getD i noV) (vals.getD i undef) (Fs.getD i [])) (h5 : Fs.flatten = X) (ho : Own d p (.agg #[c0, c1, c2, c3, c4, c5, c6, c7]) w0.heap.size w1.heap.size w1)
    (hr : w2.ownsRow lo 31 8 v' (parts.length + 1) (vals.flatMap cl8 ++ [c0, c1, c2, c3, c4, c5, c6, c7])) (hm : Moved w1 vp v') (hG : ∀ g, lo ≤ g → g < w1.heap.size → vp.ownBlock ≠ some g → w2.heap[g]? = w1.heap[g]?) (hs : w1.heap.size ≤ w2.heap.size) (hlo : lo ≤ w0.heap.size) :
    ∃ X', Und lo w2 d items (parts ++ [p]) names cls lev vi v' vn vc vl X' := by
  subst h5
  obtain ⟨F, ho1, ho2, ho3⟩ := ho.out
  have hpb := h.pb
  have h01 := hb.size
  have hF : ∀ g ∈ F, vp.ownBlock ≠ some g := fun g hg e => by have := hpb.1 g e; have := ho3 g hg; omega
  have hXk : ∀ g ∈ Fs.flatten, w2.heap[g]? = w1.heap[g]? := fun g hg => by
    have hr := h.rg g hg
    exact hG g hr.1 (by omega) (fun e => h.off.2.1 g e hg)
  have hR := RowX.snocX h1 h2 h4 (ho1.kept _ _ _ _ (fun g hg => by have := ho3 g hg; exact hG g (by omega) (by omega) (hF g hg))) hr hXk
  have hm0 : Moved w0 vp v' := by
    rcases hm with e | ⟨g, e, hg⟩
    · exact .inl e
    · exact .inr ⟨g, e, by omega⟩
  refine ⟨Fs.flatten ++ F, h.setP hR hm0 (fun g hg hlt hne => (hG g hg (by omega) hne).trans (hb.block g hlt)) (by omega) ?_ (fun g hg => ?_) hlo ?_⟩
  · rw [List.nodup_append]
    refine ⟨h.nd, ho2, fun a ha b hb' e => ?_⟩
    have := (h.rg a ha).2
    have := (ho3 b hb').1
    omega
  · rcases List.mem_append.1 hg with h' | h'
    · have := (h.rg g h').2; exact ⟨.inl h', by omega⟩
    · have := ho3 g h'; exact ⟨.inr this.1, by omega⟩
  · intro g hg hx
    rcases hm with e | ⟨g', e, hge⟩
    · rcases List.mem_append.1 hx with h' | h'
      · exact h.off.2.1 g (e ▸ hg) h'
      · exact hF g h' (e ▸ hg)
    · rw [e] at hg
      obtain rfl := Option.some.inj hg
      rcases List.mem_append.1 hx with h' | h'
      · have := (h.rg _ h').2; omega
      · have := (ho3 _ h').2; omega
section
variable {ops : Array Oper} {Q : Exit → Act → World → Prop} {S : World → Prop} {w0 : World} {L : List (Nat × TypeId × Array Value)}
variable {r : List (Nat × Bool)} {a : Act} {e : List (Nat × Value)} {w : World} {i d : Nat} {g : Option (Nat × Bool)} {v : Value}
theorem run_idx8 {x y : Operand} {b off n c k : Nat} (ho : opAt ops i = some (some d, .indexAddr 29 x y, g)) (hd : Nat.blt d a.tmps.size = true) (hw : wantE ops a e g = some true)
    (hx : lookO a e x = .slice (some ⟨b, off, none⟩) n c) (hy : lookO a e y = .int .i64 (k : Int)) (hk : k < n)
    (h : RunE Try.prog ops Q S r a ((d, .pointer (some ⟨b, off + k * 8, none⟩)) :: e) w) : RunE Try.prog ops Q S ((i, true) :: r) a e w :=
  run_yield ho hd hw (fun o w' h1 _ => by
    unfold execOp; rw [h1]; simp only [hx, hy]
    refine run_v ?_
    obtain ⟨ie, hie, _, hsz, _⟩ := info_parts infoVec8
    have he : Try.prog.elem 29 = 31 := by kernel_rfl
    rw [← he] at hie
    rw [run_indexAt_slice (h := Try.underlying29), if_pos ⟨Int.natCast_nonneg k, by omega⟩]
    simp [sizeOf, typeInfo, hie, hsz, addr_add]) h
/-- A vector that lay there at the outset, among others. -/
theorem runC_oldV {x : Operand} {b j : Nat} {c0 c1 c2 c3 c4 c5 c6 c7 : Value} (ho : opAt ops i = some (some d, .load 31 x, g)) (hd : Nat.blt d a.tmps.size = true) (hw : wantE ops a e g = some true)
    (hx : lookO a e x = .pointer (some ⟨b, j, none⟩)) (hb : b < w0.heap.size) (h0 : w0.cell? ⟨b, j, none⟩ = some c0) (h1 : w0.cell? ⟨b, j + 1, none⟩ = some c1) (h2 : w0.cell? ⟨b, j + 2, none⟩ = some c2) (h3 : w0.cell? ⟨b, j + 3, none⟩ = some c3) (h4 : w0.cell? ⟨b, j + 4, none⟩ = some c4) (h5 : w0.cell? ⟨b, j + 5, none⟩ = some c5) (h6 : w0.cell? ⟨b, j + 6, none⟩ = some c6) (h7 : w0.cell? ⟨b, j + 7, none⟩ = some c7)
    (h : RunE Try.prog ops Q (fun w' => HeldC w0 w' L) r a ((d, .agg #[c0, c1, c2, c3, c4, c5, c6, c7]) :: e) w) : RunE Try.prog ops Q (fun w' => HeldC w0 w' L) ((i, true) :: r) a e w :=
  run_load ho hd hw hx (fun w' hS => run_loadVar_mid w' b j 31 [c0, c1, c2, c3, c4, c5, c6, c7] _ (fun k v hv => by
    have hlt : k < 8 := by have := (List.getElem?_eq_some_iff.1 hv).1; simpa using this
    rw [hS.1.cell (p := ⟨b, j + k, none⟩) hb, ← hv]
    rcases (show k = 0 ∨ k = 1 ∨ k = 2 ∨ k = 3 ∨ k = 4 ∨ k = 5 ∨ k = 6 ∨ k = 7 by omega) with rfl | rfl | rfl | rfl | rfl | rfl | rfl | rfl
    · exact h0
    · exact h1
    · exact h2
    · exact h3
    · exact h4
    · exact h5
    · exact h6
    · exact h7) Try.underlying31 rfl infoVec) h
end
end Go.Proofs.Ytfbpbpbmnieieaa

/- The reference's l4Pick: parts of a list at positions within its length. -/
namespace Go.Proofs.Ytfbpbpbmnieieaa
open Go.RowKit
set_option maxRecDepth 100000
set_option linter.unusedVariables false

set_option maxHeartbeats 8000000 in
theorem specPickP (d : Nat) (items : List It) (parts : List Vec) (names cls levels : List ByteArray) (code env : Int) (ai ap an ac al xi : Option Addr) (ci cp cn cc cl xc lo hi B : Nat) (idx : List Nat) (w : World) (hP : VecsAt lo hi w d ap parts) (hN : TextsAt lo hi w an names) (hhi : hi ≤ w.heap.size)
    (li : items.length = 0) (lp : parts.length ≤ 1048576) (ln : names.length ≤ 1048576) (ll : levels.length = 0) (hsm : ∀ p ∈ parts, Small d p) (hall : ∀ i, i < parts.length → AllIs d (parts.getD i noV) ∧ (partsV (parts.getD i noV)).length ≤ 41) (hs : IntsAt B w xi idx.length (fun i => ixF idx i + 1)) (hB : B ≤ w.heap.size) (hn : idx.length ≤ 1048576)
    (hin : ∀ i, i < idx.length → idx.getD i 0 < parts.length) (hnm : names.length ≠ 0 → names.length = parts.length) :
    Calls Try.prog 43 #[.agg #[.int .i64 4, .slice ai items.length ci, .slice ap parts.length cp, .slice an names.length cn, .slice ac cls.length cc, .slice al levels.length cl, .int .i64 code, .int .i64 env], .slice xi idx.length xc] w (ResV (d + 1) (selV 4 items parts names cls levels idx) w) := by
  have AI := Lib.hid (fun (k : Nat) (hk : k < parts.length) => hP.at_ hk)
  have CP := Lib.hid (fun (k : Nat) (w1 : World) (x : Value) (hk : k < parts.length) (hb : Below w.heap.size w w1) (hv : VecAt lo hi w d (parts.getD k noV) x) => (scvAll d).out _ x lo hi w1 (hv.below hb hhi) (Nat.le_trans hhi hb.size) (hsm _ (by rw [List.getD_eq_getElem?_getD, List.getElem?_eq_getElem hk]; exact List.getElem_mem hk)) (hall k hk).1 (hall k hk).2)
  have AN := Lib.hid (fun (k : Nat) (w1 : World) (hk : k < names.length) (hb : Below w.heap.size w w1) => (show ∃ b off, an = some ⟨b, off, none⟩ ∧ b < hi ∧ w1.cell? ⟨b, off + k, none⟩ = some (.string (names.getD k ⟨#[]⟩)) from (by obtain ⟨b, off, e, _, h1, h2⟩ := (hN.below hb hhi) k (names.getD k ⟨#[]⟩) (by simp [List.getD_eq_getElem?_getD, hk]); exact ⟨b, off, e, h1, h2⟩)))
  have SA := Lib.hid hs
  have IN := Lib.hid hin
  have LE := Lib.hid (fun W => (by have h := specLen 4 ai ap an ac al items.length ci parts.length cp names.length cn cls.length cc levels.length cl code env W (by omega) lp; rw [show lenV 4 items.length parts.length = parts.length by unfold lenV; rw [if_neg (by decide)]; omega] at h; exact h : Calls Try.prog 41 #[.agg #[.int .i64 4, .slice ai items.length ci, .slice ap parts.length cp, .slice an names.length cn, .slice ac cls.length cc, .slice al levels.length cl, .int .i64 code, .int .i64 env]] W (fun e w' => e = .returned (.int .i64 (parts.length : Nat)) ∧ Below W.heap.size W w')))
  have PI := Lib.hid (fun k (h : parts.length ≠ 0) (hk : k < idx.length) => pkT_succ (z := noV) (l := parts) h hk)
  have PN := Lib.hid (fun k (h : names.length ≠ 0) (hk : k < idx.length) => pkT_succ (z := ⟨#[]⟩) (l := names) h hk)
  have P0 := Lib.hid (fun (h : names.length = 0) k => (pkT_nil (z := ⟨#[]⟩) h (idx.take k) : pkL ⟨#[]⟩ names (idx.take k) = []))
  have EV := Lib.hid (show selV 4 items parts names cls levels idx = .mk 4 [] (pkL noV parts (idx.take idx.length)) (clnN (pkL ⟨#[]⟩ names (idx.take idx.length))) (kpC levels cls) levels 0 0 by rw [pkT_full, pkT_full]; unfold selV; rw [pkT_nil (z := noI) li])
  have LI := Lib.hid (pkT_len noV parts idx)
  have LM := Lib.hid (pkT_len ⟨#[]⟩ names idx)
  have EK0 := Lib.hid (fun (h : levels.length = 0) => (by rw [List.eq_nil_of_length_eq_zero h]; exact ⟨rfl, rfl⟩ : levels = [] ∧ kpC levels cls = []))
  have UST := Lib.hid (fun W => Und.start (w.heap.size + 1 + 1 + 1) W d)
  obtain ⟨V, hV⟩ : ∃ V, selV 4 items parts names cls levels idx = V := ⟨_, rfl⟩
  rw [hV] at EV ⊢
  obtain ⟨m, hm⟩ : ∃ m, idx.length = m := ⟨_, rfl⟩
  rw [hm] at SA IN PI PN EV hn ⊢
  obtain ⟨n, hn'⟩ : ∃ n, parts.length = n := ⟨_, rfl⟩
  rw [hn'] at AI CP IN LE PI lp hnm ⊢
  obtain ⟨nn, hnn⟩ : ∃ n, names.length = n := ⟨_, rfl⟩
  rw [hnn] at AN LE PN P0 ln hnm ⊢
  have LI0 := Lib.hid li
  have LL0 := Lib.hid ll
  clear hV hm hn' hnn hP hN hs hin li ll hsm hall
  go_enter Try.func43, Try.ntmps43
  go_upto_region 2 with (fail)
  obtain ⟨w1, hw1⟩ : ∃ W, ((w.alloc (.cells #[.int .i64 4, .slice ai items.length ci, .slice ap n cp, .slice an nn cn, .slice ac cls.length cc, .slice al levels.length cl, .int .i64 code, .int .i64 env] 31)).alloc (.cells #[.int .i64 0, .slice none 0 0, .slice none 0 0, .slice none 0 0, .slice none 0 0, .slice none 0 0, .int .i64 0, .int .i64 0] 31)).alloc (.cells #[.int .i64 4, .slice none 0 0, .slice none 0 0, .slice none 0 0, .slice none 0 0, .slice none 0 0, .int .i64 0, .int .i64 0] 31) = W := ⟨_, rfl⟩
  have hsz : (w.alloc (.cells #[.int .i64 4, .slice ai items.length ci, .slice ap n cp, .slice an nn cn, .slice ac cls.length cc, .slice al levels.length cl, .int .i64 code, .int .i64 env] 31)).heap.size = w.heap.size + 1 := by simp
  have hsz2 : ((w.alloc (.cells #[.int .i64 4, .slice ai items.length ci, .slice ap n cp, .slice an nn cn, .slice ac cls.length cc, .slice al levels.length cl, .int .i64 code, .int .i64 env] 31)).alloc (.cells #[.int .i64 0, .slice none 0 0, .slice none 0 0, .slice none 0 0, .slice none 0 0, .slice none 0 0, .int .i64 0, .int .i64 0] 31)).heap.size = w.heap.size + 1 + 1 := by simp
  have BW := Lib.hid (show Below w.heap.size w w1 from hw1 ▸ ((below1 w _).alloc (by simp) _).alloc (by simp; omega) _)
  have KA := Lib.hid (show w1.heap[w.heap.size]? = some (.cells #[.int .i64 4, .slice ai items.length ci, .slice ap n cp, .slice an nn cn, .slice ac cls.length cc, .slice al levels.length cl, .int .i64 code, .int .i64 env] 31 (0, 0)) from hw1 ▸ blk_old (blk_old (blk_new w _ rfl)))
  have KR := Lib.hid (show w1.heap[w.heap.size + 1]? = some (.cells #[.int .i64 0, .slice none 0 0, .slice none 0 0, .slice none 0 0, .slice none 0 0, .slice none 0 0, .int .i64 0, .int .i64 0] 31 (0, 0)) from hw1 ▸ blk_old (hsz ▸ blk_new (w.alloc (.cells #[.int .i64 4, .slice ai items.length ci, .slice ap n cp, .slice an nn cn, .slice ac cls.length cc, .slice al levels.length cl, .int .i64 code, .int .i64 env] 31)) (.cells #[.int .i64 0, .slice none 0 0, .slice none 0 0, .slice none 0 0, .slice none 0 0, .slice none 0 0, .int .i64 0, .int .i64 0] 31) rfl))
  have KB := Lib.hid (show w1.heap[w.heap.size + 1 + 1]? = some (.cells #[.int .i64 4, .slice none 0 0, .slice none 0 0, .slice none 0 0, .slice none 0 0, .slice none 0 0, .int .i64 0, .int .i64 0] 31 (0, 0)) from hw1 ▸ hsz2 ▸ blk_new ((w.alloc (.cells #[.int .i64 4, .slice ai items.length ci, .slice ap n cp, .slice an nn cn, .slice ac cls.length cc, .slice al levels.length cl, .int .i64 code, .int .i64 env] 31)).alloc (.cells #[.int .i64 0, .slice none 0 0, .slice none 0 0, .slice none 0 0, .slice none 0 0, .slice none 0 0, .int .i64 0, .int .i64 0] 31)) (.cells #[.int .i64 4, .slice none 0 0, .slice none 0 0, .slice none 0 0, .slice none 0 0, .slice none 0 0, .int .i64 0, .int .i64 0] 31) rfl)
  rw [hw1]
  clear hw1 hsz hsz2
  have hrb : w.heap.size + 1 < w.heap.size + 1 + 1 := Nat.lt_succ_self _
  have hbw : w.heap.size < w.heap.size + 1 + 1 := by omega
  obtain ⟨b, hb⟩ : ∃ b, w.heap.size + 1 + 1 = b := ⟨_, rfl⟩
  rw [hb] at KB UST hrb hbw ⊢
  clear hb
  have hl0 : ((levels.length : Nat) : Int) ≤ 0 := by have := LL0.out; omega
  have U := Lib.hid (show Und (b + 1) w1 d [] [] [] (kpC levels cls) levels _ _ _ _ _ [] from by obtain ⟨e1, e2⟩ := EK0.out LL0.out; rw [e2, e1]; exact UST.out w1)
  obtain ⟨a0, a1, a2, a3, a4, a5, a6, a7⟩ := vec8 KA.out
  go_wp2
  clear a0 a1 a2 a3 a4 a5 a6 a7 hl0
  obtain ⟨dv, hdv⟩ : ∃ dv, decide (0 < levels.length) = dv := ⟨_, rfl⟩
  try rw [hdv]
  clear hdv
  have W0 := Lib.hid (show w.heap.size ≤ b + 1 by omega)
  have B0' := Lib.hid (show w.heap.size ≤ b by omega)
  go_loopw [6] (fun i wr => ∃ (k : Nat) (vp vn : Value) (X : List Nat), k ≤ m ∧ i = .int .i64 k ∧ Below w.heap.size w wr ∧ wr.heap[w.heap.size]? = some (.cells #[.int .i64 4, .slice ai items.length ci, .slice ap n cp, .slice an nn cn, .slice ac cls.length cc, .slice al levels.length cl, .int .i64 code, .int .i64 env] 31 (0, 0)) ∧ wr.heap[w.heap.size + 1]? = some (.cells #[.int .i64 0, .slice none 0 0, .slice none 0 0, .slice none 0 0, .slice none 0 0, .slice none 0 0, .int .i64 0, .int .i64 0] 31 (0, 0)) ∧ wr.heap[b]? = some (.cells #[.int .i64 4, .slice none 0 0, vp, vn, .slice none 0 0, .slice none 0 0, .int .i64 0, .int .i64 0] 31 (0, 0)) ∧ Und (b + 1) wr d [] (pkL noV parts (idx.take k)) (pkL ⟨#[]⟩ names (idx.take k)) (kpC levels cls) levels (.slice none 0 0) vp vn (.slice none 0 0) (.slice none 0 0) X) (fun i _ => m - (intOf i).toNat)
  case atStart => exact ⟨0, .slice none 0 0, .slice none 0 0, [], Nat.zero_le _, rfl, BW.out, KA.out, KR.out, KB.out, by rw [pkT_zero, pkT_zero]; exact U.out⟩
  case round =>
    obtain ⟨k, vp, vn, X, hk, rfl, hbw', hka, hkr, hkb, hu⟩ := hrel
    have BW := Lib.hid hbw'
    have KA := Lib.hid hka
    have KR := Lib.hid hkr
    have KB := Lib.hid hkb
    have U := Lib.hid hu
    clear hbw' hka hkr hkb hu
    by_cases hlt : k < m
    · obtain ⟨bi, oi, rfl, hbi, cx⟩ := (SA.out.below (BW.out.mono hB)) k hlt
      have hq := IN.out k hlt
      have NXI := Lib.hid (PI.out k (by omega) hlt)
      replace cx := (show wr.cell? ⟨bi, oi + k, none⟩ = some (.int .i64 (((idx.getD k 0 : Nat) : Int) + 1)) from cx)
      have PNk := Lib.hid (fun h => PN.out k h hlt)
      obtain ⟨q, hq'⟩ : ∃ q, idx.getD k 0 = q := ⟨_, rfl⟩
      rw [hq'] at cx hq NXI PNk
      clear hq'
      have IY := Lib.hid (fun W => inYes (q : Int) 0 ((n : Int) - 1) W (by omega) (by omega))
      obtain ⟨bp, offp, u0, u1, u2, u3, u4, u5, u6, u7, rfl, hbP, hvp, p0, p1, p2, p3, p4, p5, p6, p7⟩ := AI.out q hq
      have hbpw : bp < w.heap.size := Nat.lt_of_lt_of_le hbP hhi
      have CC := Lib.hid (fun (W : World) (hb : Below w.heap.size w W) => CP.out q W _ hq hb hvp)
      obtain ⟨x, hx⟩ : ∃ x, parts.getD q noV = x := ⟨_, rfl⟩
      rw [hx] at CC NXI
      clear hx hvp
      obtain ⟨a0, a1, a2, a3, a4, a5, a6, a7⟩ := vec8 KA.out
      go_wp2_with fail
      with_reducible refine (LE.out _).mono ?_
      rintro e wl ⟨rfl, b'⟩
      have BW := Lib.hid (below_then BW.out b')
      have KA := Lib.hid (blk_below b' KA.out)
      have KR := Lib.hid (blk_below b' KR.out)
      have KB := Lib.hid (blk_below b' KB.out)
      have U := Lib.hid (U.out.below b')
      clear b' a0 a1 a2 a3 a4 a5 a6 a7
      go_wp2_with fail
      with_reducible refine (IY.out _).mono ?_
      rintro e w' ⟨rfl, rfl⟩
      obtain ⟨a0, a1, a2, a3, a4, a5, a6, a7⟩ := vec8 KA.out
      have hbl := (Array.getElem?_eq_some_iff.1 KB.out).1
      by_cases h0 : nn = 0
      · have e0 := P0.out h0 (k + 1)
        have e1 := P0.out h0 k
        have hn0 : (nn : Int) ≤ 0 := by omega
        have H0 := Lib.hid h0
        clear h0
        have LN := Lib.hid (show (pkL noV parts (idx.take k)).length ≤ 1048576 by have := LI.out k; omega)
        have FAR := Lib.hid U.out.pb.2
        have H := Lib.hid (show HeldC w wl ([(w.heap.size, 31, #[.int .i64 4, .slice ai items.length ci, .slice (some ⟨bp, offp, none⟩) n cp, .slice an nn cn, .slice ac cls.length cc, .slice al levels.length cl, .int .i64 code, .int .i64 env]), (b, 31, #[.int .i64 4, .slice none 0 0, vp, vn, .slice none 0 0, .slice none 0 0, .int .i64 0, .int .i64 0])]) from heldC_cons (heldC_cons ⟨BW.out, (fun _ h => by cases h)⟩ KB.out) KA.out)
        have KRW := KR
        go_upto_region 11 with (fail)
        clear a0 a1 a2 a3 a4 a5 a6 a7
        refine run_region (ops := (opsOf Try.f43 11)) (S := fun w' => HeldC w w' ([(w.heap.size, 31, #[.int .i64 4, .slice ai items.length ci, .slice (some ⟨bp, offp, none⟩) n cp, .slice an nn cn, .slice ac cls.length cc, .slice al levels.length cl, .int .i64 code, .int .i64 env]), (b, 31, #[.int .i64 4, .slice none 0 0, vp, vn, .slice none 0 0, .slice none 0 0, .int .i64 0, .int .i64 0])])) [(0, true), (1, true), (2, true), (3, true), (4, true), (5, true), (6, true), (7, false), (8, false), (9, false), (10, true), (11, false)] (by kernel_rfl) (by kernel_rfl) (by kernel_rfl) (by kernel_rfl) (by kernel_rfl) (fun _ _ _ _ _ h => h) (heldC_drew H.out) ?_
        have H := Lib.hid (heldC_drew H.out)
        have U := Lib.hid (U.out.keep (below_drew' (Below.refl _ _)))
        refine runC_partV (b := b) (by kernel_rfl) (show opAt (opsOf Try.f43 11) 0 = some (some 48, .fieldAddr 31 (.tmp 5) 2, none) from by kernel_rfl) (by kernel_rfl) (by kernel_rfl) (by kernel_rfl) ?_
        refine runC_cell (b := b) (j := 2) (v := vp) load_vecs (show opAt (opsOf Try.f43 11) 1 = some (some 49, .load 29 (.tmp 48), none) from by kernel_rfl) (by kernel_rfl) (by kernel_rfl) (by kernel_rfl) (List.Mem.tail _ (List.Mem.head _)) rfl ?_
        refine runC_partV (b := w.heap.size) (by kernel_rfl) (show opAt (opsOf Try.f43 11) 2 = some (some 50, .fieldAddr 31 (.tmp 2) 2, none) from by kernel_rfl) (by kernel_rfl) (by kernel_rfl) (by kernel_rfl) ?_
        refine runC_cell (b := w.heap.size) (j := 2) (v := .slice (some ⟨bp, offp, none⟩) n cp) load_vecs (show opAt (opsOf Try.f43 11) 3 = some (some 51, .load 29 (.tmp 50), none) from by kernel_rfl) (by kernel_rfl) (by kernel_rfl) (by kernel_rfl) (List.Mem.head _) rfl ?_
        refine run_mov (v := .int .i64 ((q : Int))) (show opAt (opsOf Try.f43 11) 4 = some (some 52, .move (.tmp 7), none) from by kernel_rfl) (by kernel_rfl) (by kernel_rfl) (by kernel_rfl) ?_
        refine run_idx8 (n := n) (c := cp) (b := bp) (off := offp) (k := q) (show opAt (opsOf Try.f43 11) 5 = some (some 53, .indexAddr 29 (.tmp 51) (.tmp 52), none) from by kernel_rfl) (by kernel_rfl) (by kernel_rfl) (by kernel_rfl) (by kernel_rfl) hq ?_
        refine runC_oldV (b := bp) (j := offp + q * 8) (show opAt (opsOf Try.f43 11) 6 = some (some 54, .load 31 (.tmp 53), none) from by kernel_rfl) (by kernel_rfl) (by kernel_rfl) (by kernel_rfl) hbpw p0 p1 p2 p3 p4 p5 p6 p7 ?_
        refine run_call (args := [.agg #[u0, u1, u2, u3, u4, u5, u6, u7]]) (show opAt (opsOf Try.f43 11) 7 = some (some 55, .call { callee := .value (.func 84), args := [(.tmp 54)].toArray, argTypes := [31].toArray }, none) from by kernel_rfl) (by kernel_rfl) (by kernel_rfl) (by kernel_rfl) (by kernel_rfl) ?_
        refine (CC.out _ H.out.1).mono ?_
        have HLO := Lib.hid (Nat.succ_le_of_lt (Array.getElem?_eq_some_iff.1 (heldC_at H.out (List.Mem.tail _ (List.Mem.head _)))).1)
        rintro en rv1 ⟨y, rfl, ho, hb⟩
        obtain ⟨yk, ya1, yn1, ym1, ya2, yn2, ym2, ya3, yn3, ym3, ya4, yn4, ym4, ya5, yn5, ym5, yc, ye, rfl⟩ := ho.agg
        refine ⟨_, rfl, heldC_call H.out hb, ?_⟩
        have HO := Lib.hid ho
        have H := Lib.hid (heldC_call H.out hb)
        have HB := Lib.hid hb
        have KRW := Lib.hid (blk_below hb KRW.out)
        obtain ⟨vals, Fs, v1, v2, v3, v4, v5⟩ := (U.out.below hb).p.ex
        clear ho hb
        refine tail_vec3 (c0 := .int .i64 yk) (c1 := .slice ya1 yn1 ym1) (c2 := .slice ya2 yn2 ym2) (c3 := .slice ya3 yn3 ym3) (c4 := .slice ya4 yn4 ym4) (c5 := .slice ya5 yn5 ym5) (c6 := .int .i64 yc) (c7 := .int .i64 ye) (by intro u hu; simp only [List.mem_cons, List.not_mem_nil, or_false] at hu; rcases hu with rfl | rfl | rfl | rfl | rfl | rfl | rfl | rfl <;> rfl) (show opAt (opsOf Try.f43 11) 8 = some (some 56, .buildSlice 29 1 #[(0, (.tmp 55))], none) from by kernel_rfl) (by kernel_rfl) (by kernel_rfl) (show opAt (opsOf Try.f43 11) 9 = some (some 57, .call { callee := .builtin .append, args := [(.tmp 49), (.tmp 56)].toArray, argTypes := [29, 29].toArray }, none) from by kernel_rfl) (by kernel_rfl) (fun _ => by kernel_rfl) (show opAt (opsOf Try.f43 11) 10 = some (some 58, .fieldAddr 31 (.tmp 5) 2, none) from by kernel_rfl) (by kernel_rfl) (by kernel_rfl) (fun _ _ => by kernel_rfl) (show opAt (opsOf Try.f43 11) 11 = some (none, .store 29 (.tmp 58) (.tmp 57), none) from by kernel_rfl) (by kernel_rfl) (by kernel_rfl) H.out v3 LN.out (Nat.succ_le_of_lt (Array.getElem?_eq_some_iff.1 (heldC_at H.out (List.Mem.tail _ (List.Mem.head _)))).1) W0.out (List.Mem.tail _ (List.Mem.head _)) rfl (Nat.lt_succ_self _) B0'.out (fun q hq => far_two FAR.out (Nat.lt_succ_of_lt hbw) (Nat.lt_succ_self _) hq) ?_
        rintro v' w2 ⟨sa, sn, sc2, rfl⟩ hK hO hB hZ hR hG
        simp only [putAll, Act.put, List.setIfInBounds_toArray, List.set_cons_zero, List.set_cons_succ]
        have KA1 := heldC_at H.out (List.Mem.head _)
        have hwa := (Array.getElem?_eq_some_iff.1 KA1).1
        have hKR := (Array.getElem?_eq_some_iff.1 KRW.out).1
        obtain ⟨X2, hu2⟩ := U.out.snocP HB.out v1 v2 v4 v5 HO.out hO hR (fun g hlo hg hne => hG g hg (by omega) hne) hZ HLO.out
        have U := Lib.hid hu2
        have KA := Lib.hid (show w2.heap[w.heap.size]? = some (.cells #[.int .i64 4, .slice ai items.length ci, .slice (some ⟨bp, offp, none⟩) n cp, .slice an nn cn, .slice ac cls.length cc, .slice al levels.length cl, .int .i64 code, .int .i64 env] 31 (0, 0)) from (hG _ hwa (by omega) (fun e => by have := FAR.out _ e; omega)).trans KA1)
        have KR := Lib.hid (show w2.heap[w.heap.size + 1]? = some (.cells #[.int .i64 0, .slice none 0 0, .slice none 0 0, .slice none 0 0, .slice none 0 0, .slice none 0 0, .int .i64 0, .int .i64 0] 31 (0, 0)) from (hG _ hKR (by omega) (fun e => by have := FAR.out _ e; omega)).trans KRW.out)
        have KB := Lib.hid (show w2.heap[b]? = some (.cells #[.int .i64 4, .slice none 0 0, .slice sa sn sc2, vn, .slice none 0 0, .slice none 0 0, .int .i64 0, .int .i64 0] 31 (0, 0)) from hK)
        have BW := Lib.hid hB
        clear hu2 hK hO hB hR hG hZ H FAR LN KA1 hKR hwa v1 v2 v3 v4 v5 HO HB HLO
        obtain ⟨a0, a1, a2, a3, a4, a5, a6, a7⟩ := vec8 KA.out
        go_wp2
        go_roundw
        case rel => first | exact ⟨k + 1, _, vn, X2, by omega, by go_num, BW.out, KA.out, KR.out, KB.out, by rw [NXI.out, e0]; rw [e1] at U; exact U.out⟩ | ((repeat apply Exists.intro); exact ⟨⟨k + 1, _, vn, X2, by omega, by go_num, BW.out, KA.out, KR.out, KB.out, by rw [NXI.out, e0]; rw [e1] at U; exact U.out⟩, rfl⟩)
        case measure => simp [intOf]; omega
      · have hqn : q < nn := by have := hnm h0; omega
        have hn0 : 0 < (nn : Int) := by omega
        have NXN := Lib.hid (PNk.out h0)
        obtain ⟨bn, offn, rfl, hbN, cn0⟩ := AN.out q w hqn (Below.refl _ _)
        have hbnw : bn < w.heap.size := Nat.lt_of_lt_of_le hbN hhi
        obtain ⟨s, hs⟩ : ∃ s, names.getD q ⟨#[]⟩ = s := ⟨_, rfl⟩
        rw [hs] at cn0 NXN
        clear hs
        have LN := Lib.hid (show (pkL noV parts (idx.take k)).length ≤ 1048576 by have := LI.out k; omega)
        have FAR := Lib.hid U.out.pb.2
        have H := Lib.hid (show HeldC w wl ([(w.heap.size, 31, #[.int .i64 4, .slice ai items.length ci, .slice (some ⟨bp, offp, none⟩) n cp, .slice (some ⟨bn, offn, none⟩) nn cn, .slice ac cls.length cc, .slice al levels.length cl, .int .i64 code, .int .i64 env]), (b, 31, #[.int .i64 4, .slice none 0 0, vp, vn, .slice none 0 0, .slice none 0 0, .int .i64 0, .int .i64 0])]) from heldC_cons (heldC_cons ⟨BW.out, (fun _ h => by cases h)⟩ KB.out) KA.out)
        have KRW := KR
        go_upto_region 11 with (fail)
        clear a0 a1 a2 a3 a4 a5 a6 a7
        refine run_region (ops := (opsOf Try.f43 11)) (S := fun w' => HeldC w w' ([(w.heap.size, 31, #[.int .i64 4, .slice ai items.length ci, .slice (some ⟨bp, offp, none⟩) n cp, .slice (some ⟨bn, offn, none⟩) nn cn, .slice ac cls.length cc, .slice al levels.length cl, .int .i64 code, .int .i64 env]), (b, 31, #[.int .i64 4, .slice none 0 0, vp, vn, .slice none 0 0, .slice none 0 0, .int .i64 0, .int .i64 0])])) [(0, true), (1, true), (2, true), (3, true), (4, true), (5, true), (6, true), (7, false), (8, false), (9, false), (10, true), (11, false)] (by kernel_rfl) (by kernel_rfl) (by kernel_rfl) (by kernel_rfl) (by kernel_rfl) (fun _ _ _ _ _ h => h) (heldC_drew H.out) ?_
        have H := Lib.hid (heldC_drew H.out)
        have U := Lib.hid (U.out.keep (below_drew' (Below.refl _ _)))
        refine runC_partV (b := b) (by kernel_rfl) (show opAt (opsOf Try.f43 11) 0 = some (some 48, .fieldAddr 31 (.tmp 5) 2, none) from by kernel_rfl) (by kernel_rfl) (by kernel_rfl) (by kernel_rfl) ?_
        refine runC_cell (b := b) (j := 2) (v := vp) load_vecs (show opAt (opsOf Try.f43 11) 1 = some (some 49, .load 29 (.tmp 48), none) from by kernel_rfl) (by kernel_rfl) (by kernel_rfl) (by kernel_rfl) (List.Mem.tail _ (List.Mem.head _)) rfl ?_
        refine runC_partV (b := w.heap.size) (by kernel_rfl) (show opAt (opsOf Try.f43 11) 2 = some (some 50, .fieldAddr 31 (.tmp 2) 2, none) from by kernel_rfl) (by kernel_rfl) (by kernel_rfl) (by kernel_rfl) ?_
        refine runC_cell (b := w.heap.size) (j := 2) (v := .slice (some ⟨bp, offp, none⟩) n cp) load_vecs (show opAt (opsOf Try.f43 11) 3 = some (some 51, .load 29 (.tmp 50), none) from by kernel_rfl) (by kernel_rfl) (by kernel_rfl) (by kernel_rfl) (List.Mem.head _) rfl ?_
        refine run_mov (v := .int .i64 ((q : Int))) (show opAt (opsOf Try.f43 11) 4 = some (some 52, .move (.tmp 7), none) from by kernel_rfl) (by kernel_rfl) (by kernel_rfl) (by kernel_rfl) ?_
        refine run_idx8 (n := n) (c := cp) (b := bp) (off := offp) (k := q) (show opAt (opsOf Try.f43 11) 5 = some (some 53, .indexAddr 29 (.tmp 51) (.tmp 52), none) from by kernel_rfl) (by kernel_rfl) (by kernel_rfl) (by kernel_rfl) (by kernel_rfl) hq ?_
        refine runC_oldV (b := bp) (j := offp + q * 8) (show opAt (opsOf Try.f43 11) 6 = some (some 54, .load 31 (.tmp 53), none) from by kernel_rfl) (by kernel_rfl) (by kernel_rfl) (by kernel_rfl) hbpw p0 p1 p2 p3 p4 p5 p6 p7 ?_
        refine run_call (args := [.agg #[u0, u1, u2, u3, u4, u5, u6, u7]]) (show opAt (opsOf Try.f43 11) 7 = some (some 55, .call { callee := .value (.func 84), args := [(.tmp 54)].toArray, argTypes := [31].toArray }, none) from by kernel_rfl) (by kernel_rfl) (by kernel_rfl) (by kernel_rfl) (by kernel_rfl) ?_
        refine (CC.out _ H.out.1).mono ?_
        have HLO := Lib.hid (Nat.succ_le_of_lt (Array.getElem?_eq_some_iff.1 (heldC_at H.out (List.Mem.tail _ (List.Mem.head _)))).1)
        rintro en rv1 ⟨y, rfl, ho, hb⟩
        obtain ⟨yk, ya1, yn1, ym1, ya2, yn2, ym2, ya3, yn3, ym3, ya4, yn4, ym4, ya5, yn5, ym5, yc, ye, rfl⟩ := ho.agg
        refine ⟨_, rfl, heldC_call H.out hb, ?_⟩
        have HO := Lib.hid ho
        have H := Lib.hid (heldC_call H.out hb)
        have HB := Lib.hid hb
        have KRW := Lib.hid (blk_below hb KRW.out)
        obtain ⟨vals, Fs, v1, v2, v3, v4, v5⟩ := (U.out.below hb).p.ex
        clear ho hb
        refine tail_vec3 (c0 := .int .i64 yk) (c1 := .slice ya1 yn1 ym1) (c2 := .slice ya2 yn2 ym2) (c3 := .slice ya3 yn3 ym3) (c4 := .slice ya4 yn4 ym4) (c5 := .slice ya5 yn5 ym5) (c6 := .int .i64 yc) (c7 := .int .i64 ye) (by intro u hu; simp only [List.mem_cons, List.not_mem_nil, or_false] at hu; rcases hu with rfl | rfl | rfl | rfl | rfl | rfl | rfl | rfl <;> rfl) (show opAt (opsOf Try.f43 11) 8 = some (some 56, .buildSlice 29 1 #[(0, (.tmp 55))], none) from by kernel_rfl) (by kernel_rfl) (by kernel_rfl) (show opAt (opsOf Try.f43 11) 9 = some (some 57, .call { callee := .builtin .append, args := [(.tmp 49), (.tmp 56)].toArray, argTypes := [29, 29].toArray }, none) from by kernel_rfl) (by kernel_rfl) (fun _ => by kernel_rfl) (show opAt (opsOf Try.f43 11) 10 = some (some 58, .fieldAddr 31 (.tmp 5) 2, none) from by kernel_rfl) (by kernel_rfl) (by kernel_rfl) (fun _ _ => by kernel_rfl) (show opAt (opsOf Try.f43 11) 11 = some (none, .store 29 (.tmp 58) (.tmp 57), none) from by kernel_rfl) (by kernel_rfl) (by kernel_rfl) H.out v3 LN.out (Nat.succ_le_of_lt (Array.getElem?_eq_some_iff.1 (heldC_at H.out (List.Mem.tail _ (List.Mem.head _)))).1) W0.out (List.Mem.tail _ (List.Mem.head _)) rfl (Nat.lt_succ_self _) B0'.out (fun q hq => far_two FAR.out (Nat.lt_succ_of_lt hbw) (Nat.lt_succ_self _) hq) ?_
        rintro v' w2 ⟨sa, sn, sc2, rfl⟩ hK hO hB hZ hR hG
        simp only [putAll, Act.put, List.setIfInBounds_toArray, List.set_cons_zero, List.set_cons_succ]
        have KA1 := heldC_at H.out (List.Mem.head _)
        have hwa := (Array.getElem?_eq_some_iff.1 KA1).1
        have hKR := (Array.getElem?_eq_some_iff.1 KRW.out).1
        obtain ⟨X2, hu2⟩ := U.out.snocP HB.out v1 v2 v4 v5 HO.out hO hR (fun g hlo hg hne => hG g hg (by omega) hne) hZ HLO.out
        have U := Lib.hid hu2
        have KA := Lib.hid (show w2.heap[w.heap.size]? = some (.cells #[.int .i64 4, .slice ai items.length ci, .slice (some ⟨bp, offp, none⟩) n cp, .slice (some ⟨bn, offn, none⟩) nn cn, .slice ac cls.length cc, .slice al levels.length cl, .int .i64 code, .int .i64 env] 31 (0, 0)) from (hG _ hwa (by omega) (fun e => by have := FAR.out _ e; omega)).trans KA1)
        have KR := Lib.hid (show w2.heap[w.heap.size + 1]? = some (.cells #[.int .i64 0, .slice none 0 0, .slice none 0 0, .slice none 0 0, .slice none 0 0, .slice none 0 0, .int .i64 0, .int .i64 0] 31 (0, 0)) from (hG _ hKR (by omega) (fun e => by have := FAR.out _ e; omega)).trans KRW.out)
        have KB := Lib.hid (show w2.heap[b]? = some (.cells #[.int .i64 4, .slice none 0 0, .slice sa sn sc2, vn, .slice none 0 0, .slice none 0 0, .int .i64 0, .int .i64 0] 31 (0, 0)) from hK)
        have BW := Lib.hid hB
        clear hu2 hK hO hB hR hG hZ H FAR LN KA1 hKR hwa v1 v2 v3 v4 v5 HO HB HLO
        obtain ⟨a0, a1, a2, a3, a4, a5, a6, a7⟩ := vec8 KA.out
        have LN := Lib.hid (show (pkL ⟨#[]⟩ names (idx.take k)).length ≤ 1048576 by have := LM.out k; omega)
        have FAR := Lib.hid (fun g hg => (U.out.n.lt g hg).1)
        have H := Lib.hid (show HeldC w w2 ([(w.heap.size, 31, #[.int .i64 4, .slice ai items.length ci, .slice (some ⟨bp, offp, none⟩) n cp, .slice (some ⟨bn, offn, none⟩) nn cn, .slice ac cls.length cc, .slice al levels.length cl, .int .i64 code, .int .i64 env]), (b, 31, #[.int .i64 4, .slice none 0 0, .slice sa sn sc2, vn, .slice none 0 0, .slice none 0 0, .int .i64 0, .int .i64 0])]) from heldC_cons (heldC_cons ⟨BW.out, (fun _ h => by cases h)⟩ KB.out) KA.out)
        have hKR := (Array.getElem?_eq_some_iff.1 KR.out).1
        have KRW := KR
        go_upto_region 18 with (fail)
        clear a0 a1 a2 a3 a4 a5 a6 a7
        refine run_region (ops := (opsOf Try.f43 18)) (S := fun w' => HeldC w w' ([(w.heap.size, 31, #[.int .i64 4, .slice ai items.length ci, .slice (some ⟨bp, offp, none⟩) n cp, .slice (some ⟨bn, offn, none⟩) nn cn, .slice ac cls.length cc, .slice al levels.length cl, .int .i64 code, .int .i64 env]), (b, 31, #[.int .i64 4, .slice none 0 0, (.slice sa sn sc2), vn, .slice none 0 0, .slice none 0 0, .int .i64 0, .int .i64 0])])) [(0, true), (1, true), (2, true), (3, true), (4, true), (5, true), (6, true), (7, false), (8, false), (9, true), (10, false)] (by kernel_rfl) (by kernel_rfl) (by kernel_rfl) (by kernel_rfl) (by kernel_rfl) (fun _ _ _ _ _ h => h) (heldC_drew H.out) ?_
        have H := Lib.hid (heldC_drew H.out)
        have U := Lib.hid (U.out.keep (below_drew' (Below.refl _ _)))
        refine runC_partV (b := b) (by kernel_rfl) (show opAt (opsOf Try.f43 18) 0 = some (some 92, .fieldAddr 31 (.tmp 5) 3, none) from by kernel_rfl) (by kernel_rfl) (by kernel_rfl) (by kernel_rfl) ?_
        refine runC_cell (b := b) (j := 3) (v := vn) load_strs (show opAt (opsOf Try.f43 18) 1 = some (some 93, .load 24 (.tmp 92), none) from by kernel_rfl) (by kernel_rfl) (by kernel_rfl) (by kernel_rfl) (List.Mem.tail _ (List.Mem.head _)) rfl ?_
        refine runC_partV (b := w.heap.size) (by kernel_rfl) (show opAt (opsOf Try.f43 18) 2 = some (some 94, .fieldAddr 31 (.tmp 2) 3, none) from by kernel_rfl) (by kernel_rfl) (by kernel_rfl) (by kernel_rfl) ?_
        refine runC_cell (b := w.heap.size) (j := 3) (v := .slice (some ⟨bn, offn, none⟩) nn cn) load_strs (show opAt (opsOf Try.f43 18) 3 = some (some 95, .load 24 (.tmp 94), none) from by kernel_rfl) (by kernel_rfl) (by kernel_rfl) (by kernel_rfl) (List.Mem.head _) rfl ?_
        refine run_mov (v := .int .i64 ((q : Int))) (show opAt (opsOf Try.f43 18) 4 = some (some 96, .move (.tmp 7), none) from by kernel_rfl) (by kernel_rfl) (by kernel_rfl) (by kernel_rfl) ?_
        refine run_idx1 (n := nn) (c := cn) (b := bn) (off := offn) (k := q) (show opAt (opsOf Try.f43 18) 5 = some (some 97, .indexAddr 24 (.tmp 95) (.tmp 96), none) from by kernel_rfl) (by kernel_rfl) (by kernel_rfl) (by kernel_rfl) (by kernel_rfl) hqn Try.underlying24 (by kernel_rfl) infoStr ?_
        refine runC_old (b := bn) (j := offn + q) (v := .string s) load_text (show opAt (opsOf Try.f43 18) 6 = some (some 98, .load 9 (.tmp 97), none) from by kernel_rfl) (by kernel_rfl) (by kernel_rfl) (by kernel_rfl) hbnw cn0 ?_
        refine tail_txs3 s (show opAt (opsOf Try.f43 18) 7 = some (some 99, .buildSlice 24 1 #[(0, (.tmp 98))], none) from by kernel_rfl) (by kernel_rfl) (by kernel_rfl) (show opAt (opsOf Try.f43 18) 8 = some (some 100, .call { callee := .builtin .append, args := [(.tmp 93), (.tmp 99)].toArray, argTypes := [24, 24].toArray }, none) from by kernel_rfl) (by kernel_rfl) (fun _ => by kernel_rfl) (show opAt (opsOf Try.f43 18) 9 = some (some 101, .fieldAddr 31 (.tmp 5) 3, none) from by kernel_rfl) (by kernel_rfl) (by kernel_rfl) (fun _ _ => by kernel_rfl) (show opAt (opsOf Try.f43 18) 10 = some (none, .store 24 (.tmp 101) (.tmp 100), none) from by kernel_rfl) (by kernel_rfl) (by kernel_rfl) H.out U.out.n LN.out (Nat.succ_le_of_lt (Array.getElem?_eq_some_iff.1 (heldC_at H.out (List.Mem.tail _ (List.Mem.head _)))).1) W0.out (List.Mem.tail _ (List.Mem.head _)) rfl (Nat.lt_succ_self _) B0'.out (fun q hq => far_two FAR.out (Nat.lt_succ_of_lt hbw) (Nat.lt_succ_self _) hq) ?_
        rintro v' w3 ⟨sa3, sn3, sc3, rfl⟩ hK hO hB hZ hR hG
        simp only [putAll, Act.put, List.setIfInBounds_toArray, List.set_cons_zero, List.set_cons_succ]
        have KA1 := heldC_at H.out (List.Mem.head _)
        have hwa := (Array.getElem?_eq_some_iff.1 KA1).1
        have U := Lib.hid (U.out.setN hO hR (fun g hlo hg hne => hG g hg (by omega) hne) hZ)
        have KA := Lib.hid (show w3.heap[w.heap.size]? = some (.cells #[.int .i64 4, .slice ai items.length ci, .slice (some ⟨bp, offp, none⟩) n cp, .slice (some ⟨bn, offn, none⟩) nn cn, .slice ac cls.length cc, .slice al levels.length cl, .int .i64 code, .int .i64 env] 31 (0, 0)) from (hG _ hwa (by omega) (fun e => by have := FAR.out _ e; omega)).trans KA1)
        have KR := Lib.hid (show w3.heap[w.heap.size + 1]? = some (.cells #[.int .i64 0, .slice none 0 0, .slice none 0 0, .slice none 0 0, .slice none 0 0, .slice none 0 0, .int .i64 0, .int .i64 0] 31 (0, 0)) from (hG _ hKR (by omega) (fun e => by have := FAR.out _ e; omega)).trans KRW.out)
        have KB := Lib.hid (show w3.heap[b]? = some (.cells #[.int .i64 4, .slice none 0 0, .slice sa sn sc2, .slice sa3 sn3 sc3, .slice none 0 0, .slice none 0 0, .int .i64 0, .int .i64 0] 31 (0, 0)) from hK)
        have BW := Lib.hid hB
        clear hK hO hB hR hG hZ H FAR LN KA1 hwa
        go_wp2
        go_roundw
        case rel => first | exact ⟨k + 1, _, _, X2, by omega, by go_num, BW.out, KA.out, KR.out, KB.out, by rw [NXI.out, NXN.out]; exact U.out⟩ | ((repeat apply Exists.intro); exact ⟨⟨k + 1, _, _, X2, by omega, by go_num, BW.out, KA.out, KR.out, KB.out, by rw [NXI.out, NXN.out]; exact U.out⟩, rfl⟩)
        case measure => simp [intOf]; omega
    · obtain rfl : k = m := by omega
      obtain ⟨xs, hxs⟩ := U.out.p.row
      obtain ⟨sp, qp, rfl⟩ := row_form hxs
      obtain ⟨sn, qn, Fn, rfl, hot, _, hrt, _⟩ := txs_of_row U.out.n
      have CLN := Lib.hid (fun (W : World) (hb : Below wr.heap.size wr W) => specCleanN 4 0 0 none sp sn none none 0 0 (pkL noV parts (idx.take k)).length qp qn 0 0 0 0 (pkL ⟨#[]⟩ names (idx.take k)) (b + 1) wr.heap.size W ((hot.at_ hrt).below hb (Nat.le_refl _)) hb.size (Nat.le_trans (LM.out k) hn))
      clear hot hrt hxs
      obtain ⟨k0, k1, k2, k3, k4, k5, k6, k7⟩ := vec8 KB.out
      have hKR := (Array.getElem?_eq_some_iff.1 KR.out).1
      go_wp2_with fail
      refine (CLN.out _ (Below.refl _ _)).mono ?_
      rintro e w5 ⟨b', hor⟩
      have BW := Lib.hid (below_then BW.out b')
      have KR := Lib.hid (blk_below b' KR.out)
      have O := Lib.hid ((U.out.below b').own 4)
      have hL1 : w.heap.size + 1 < b + 1 := by omega
      clear b' k0 k1 k2 k3 k4 k5 k6 k7
      obtain ⟨z0, z1, z2, z3, z4, z5, z6, z7⟩ := vec8 KR.out
      obtain ⟨f0, f1, f2, f3, f4, f5, f6, f7⟩ := free8 KR.out
      rcases hor with ⟨hex, rfl⟩ | ⟨hem, g, hg, rfl⟩
      · have EN := Lib.hid (clnN_yes (l := pkL ⟨#[]⟩ names (idx.take k)) (by obtain ⟨i, h1, h2⟩ := hex; exact ⟨i, h1, fun h => h2 (empty_of_size h)⟩))
        rw [EN.out] at EV
        rw [← EV.out] at O
        clear EV EN hex
        go_wp2
        exact vec_end rfl rfl rfl KR.out ⟨_, rfl, (O.out.put8 hL1 _ _ _ _ _ _ _ _).wide (by omega) (by rw [put8_size]; exact Nat.le_refl _), put8_below BW.out (Nat.le_succ _)⟩
      · have EN := Lib.hid (clnN_no (l := pkL ⟨#[]⟩ names (idx.take k)) (fun ⟨i, h1, h2⟩ => h2 (show (txtS _ i).size = 0 by rw [hem i h1]; rfl)))
        rw [EN.out] at EV
        have O := Lib.hid (O.out.noNames (some ⟨g, 0, none⟩) 0)
        rw [← EV.out] at O
        clear EV EN hem hg
        go_wp2
        exact vec_end rfl rfl rfl KR.out ⟨_, rfl, (O.out.put8 hL1 _ _ _ _ _ _ _ _).wide (by omega) (by rw [put8_size]; exact Nat.le_refl _), put8_below BW.out (Nat.le_succ _)⟩
end Go.Proofs.Ytfbpbpbmnieieaa

/- ReverseOf: data, both sides. -/
namespace Go.Proofs.Ytfbpbpbmnieieaa
open Go.RowKit
set_option maxRecDepth 100000
set_option linter.unusedVariables false

/-- The indexes backwards. -/
def rvI (n : Nat) : List Nat := (List.range n).map (fun p => n - 1 - p)
theorem rvI_len (n : Nat) : (rvI n).length = n := by unfold rvI; simp
theorem rvI_at {n i : Nat} (h : i < n) : (rvI n).getD i 0 = n - 1 - i := by unfold rvI; simp [List.getD_eq_getElem?_getD, h]
noncomputable def revS (v : Vec) : ByteArray := match bB (ValidV v), bB (kindV v = 5) with | false, _ => badB | true, true => nelB | true, false => ⟨#[]⟩
noncomputable def revV (v : Vec) : Vec := match bB (ValidV v ∧ ¬ kindV v = 5), v with
  | true, .mk kk items parts names cls levels _ _ => selV kk items parts names cls levels (rvI (items.length + parts.length))
  | false, _ => noV
theorem revS_bad {v : Vec} (h : ¬ ValidV v) : revS v = badB := by unfold revS; rw [bB_no h]
theorem revS_fun {v : Vec} (h : ValidV v) (hk : kindV v = 5) : revS v = nelB := by unfold revS; rw [bB_yes h, bB_yes hk]
theorem revS_yes {v : Vec} (h : ValidV v) (hk : ¬ kindV v = 5) : revS v = ⟨#[]⟩ := by unfold revS; rw [bB_yes h, bB_no hk]
theorem revV_yes {kk : Int} {items : List It} {parts : List Vec} {names cls levels : List ByteArray} {code env : Int} (h : ValidV (.mk kk items parts names cls levels code env)) (hk : ¬ kk = 5) : revV (.mk kk items parts names cls levels code env) = selV kk items parts names cls levels (rvI (items.length + parts.length)) := by
  unfold revV; rw [bB_yes ⟨h, hk⟩]
theorem revV_no {v : Vec} (h : ¬ (ValidV v ∧ ¬ kindV v = 5)) : revV v = noV := by unfold revV; rw [bB_no h]
/-- The reference's l4Pick, of any valid vector but a function. -/
theorem specPickV (d : Nat) (kk : Int) (items : List It) (parts : List Vec) (names cls levels : List ByteArray) (code env : Int) (ai ap an ac al xi : Option Addr) (ci cp cn cc cl xc lo hi B : Nat) (idx : List Nat) (w : World) (hI : ItemsAt lo hi w ai items) (hP : VecsAt lo hi w d ap parts) (hN : TextsAt lo hi w an names) (hC : TextsAt lo hi w ac cls) (hL : TextsAt lo hi w al levels) (hhi : hi ≤ w.heap.size)
    (hsm : Small (d + 1) (.mk kk items parts names cls levels code env)) (hv : ValidV (.mk kk items parts names cls levels code env)) (h5 : ¬ kk = 5) (hs : IntsAt B w xi idx.length (fun i => ixF idx i + 1)) (hB : B ≤ w.heap.size) (hn : idx.length ≤ 1048576) (hin : ∀ i, i < idx.length → idx.getD i 0 < items.length + parts.length) :
    Calls Try.prog 43 #[.agg #[.int .i64 kk, .slice ai items.length ci, .slice ap parts.length cp, .slice an names.length cn, .slice ac cls.length cc, .slice al levels.length cl, .int .i64 code, .int .i64 env], .slice xi idx.length xc] w (ResV (d + 1) (selV kk items parts names cls levels idx) w) := by
  have hf : FlatOk kk items parts.length names cls levels code env := hv.1.flat
  have hnm : names.length ≠ 0 → names.length = items.length + parts.length := fun h => by
    rcases hf.h_names with e | e
    · exact absurd e h
    · unfold lenV at e; rw [if_neg h5] at e; exact e
  obtain ⟨li, lp, ln, lc, ll, _, _, _, _, hsp⟩ := hsm
  by_cases h4 : kk = 4
  · subst h4
    have l0 := hf.h_list rfl
    exact specPickP d items parts names cls levels code env ai ap an ac al xi ci cp cn cc cl xc lo hi B idx w hP hN hhi l0 lp ln (hf.h_noLevels (by decide)) hsp (fun i hi => ⟨(part_is hv.1 d i hi).1, (part_is hv.1 d i hi).2.1⟩) hs hB hn (fun i hi => by have := hin i hi; omega) (fun h => by have := hnm h; omega)
  · have lp0 := hf.h_noParts h4
    exact specPickA d kk items parts names cls levels code env ai ap an ac al xi ci cp cn cc cl xc lo hi B idx w hI hN hC hL hhi li lp0 ln lc ll hs hB hn h4 h5 (fun i hi => by have := hin i hi; omega) (fun h => by have := hnm h; omega)
def upL (k : Nat) : List Int := (List.range k).map (fun (i : Nat) => (i : Int))
theorem upL_succ (k : Nat) : upL (k + 1) = upL k ++ [(k : Int)] := by unfold upL; rw [List.range_succ, List.map_append]; rfl
theorem upL_len (k : Nat) : (upL k).length = k := by unfold upL; simp
set_option maxHeartbeats 1000000 in
theorem implUpTo (n : Nat) (w : World) (hn : n ≤ 1048576) :
    Calls Try.prog 59 #[.int .i64 (n : Int)] w fun e w' => ∃ v, e = .returned v ∧ IntZ w w' (upL n) v := by
  have NX0 := Lib.hid upL_succ
  have LE := Lib.hid upL_len
  have ST := Lib.hid (IntZ.nil w w (Below.refl _ _))
  go_enter Try.func59, Try.ntmps59
  go_wp2
  go_loopw [3, 6] (fun v i wr => ∃ k : Nat, k ≤ n ∧ i = .int .i64 k ∧ IntZ w wr (upL k) v) (fun _ i _ => n - (intOf i).toNat)
  case atStart => exact ⟨0, Nat.zero_le _, rfl, ST.out⟩
  case round =>
    obtain ⟨k, hk, rfl, hir⟩ := hrel
    have IR := Lib.hid hir
    clear hir
    by_cases hlt : k < n
    · have LN := Lib.hid (show (upL k).length ≤ 1048576 by rw [LE.out]; omega)
      have NX := Lib.hid (NX0.out k)
      go_wp2_with (at_builtin; go_loud (refine wpList_appInt rfl _ _ rfl (k : Int) (upL k) _ _ rfl rfl (IR.out.keep (below1 _ _)) (blk_new _ _ rfl) LN.out ?_))
      intro v' w3 hir
      have IN := Lib.hid (NX.out ▸ hir)
      clear hir
      go_wp2
      go_roundw
      case rel => exact ⟨k + 1, by omega, by go_num, IN.out⟩
      case measure => simp [intOf]; omega
    · obtain rfl : k = n := by omega
      go_wp2
      go_ret
      exact ⟨_, rfl, IR.out⟩
set_option maxHeartbeats 4000000 in
theorem implReverse (d : Nat) (v : Vec) (val : Value) (lo hi : Nat) (w : World) (hv : VecAt lo hi w d v val) (hhi : hi ≤ w.heap.size) (hsm : Small d v) :
    Calls Try.prog 28 #[val] w (ResVS d (revV v) (revS v) w) := by
  have C1 := Lib.hid (fun (w1 : World) (hb : Below w.heap.size w w1) => implIsVector d v val lo hi w1 (hv.below hb hhi) (Nat.le_trans hhi hb.size) hsm)
  obtain ⟨VV, hVV⟩ : ∃ V, v = V := ⟨_, rfl⟩
  rw [hVV] at C1 ⊢
  obtain ⟨kk, items, parts, names, cls, levels, code, env⟩ := v
  obtain ⟨d', ai, ci, ap, cp, an, cn, ac, cc, al, cl, ed, rfl, hI, hN, hC, hL, hP⟩ := vecAt_open hv
  subst ed
  have li : items.length ≤ 1048576 := hsm.1
  have lp : parts.length ≤ 1048576 := hsm.2.1
  have ln : names.length ≤ 1048576 := hsm.2.2.1
  have lc : cls.length ≤ 1048576 := hsm.2.2.2.1
  have ll : levels.length ≤ 1048576 := hsm.2.2.2.2.1
  have hsp : ∀ p ∈ parts, Small d' p := hsm.2.2.2.2.2.2.2.2.2
  have XK : kindV VV = kk := by rw [← hVV]; rfl
  have XV := Lib.hid (fun (h : ValidV VV) (h5 : ¬ kk = 5) => (by rw [← hVV] at h ⊢; exact revV_yes h h5 : revV VV = selV kk items parts names cls levels (rvI (items.length + parts.length))))
  have XN := Lib.hid (fun (h5 : ¬ kk = 5) => (by unfold lenV; rw [if_neg h5] : lenV kk items.length parts.length = items.length + parts.length))
  have X40 := Lib.hid (fun (h : ValidV VV) (h5 : ¬ kk = 5) => (by rw [← hVV] at h; have := (show FlatOk kk items parts.length names cls levels code env from h.1.flat).h_len; unfold lenV at this; rw [if_neg h5] at this; exact this : items.length + parts.length ≤ 40))
  have LN := Lib.hid (fun (W : World) => implLen kk ai ap an ac al items.length ci parts.length cp names.length cn cls.length cc levels.length cl code env W li lp)
  have CS := Lib.hid (fun (h : ValidV VV) (h5 : ¬ kk = 5) (xi : Option Addr) (xc : Nat) (W : World) (hb : Below w.heap.size w W) (hs : IntsAt W.heap.size W xi (items.length + parts.length) (fun i => ixF (rvI (items.length + parts.length)) i)) =>
    (by
      rw [← hVV] at h
      have hl := rvI_len (items.length + parts.length)
      have hn : (items.length + parts.length) ≤ 2097152 := by omega
      have h40 : items.length + parts.length ≤ 40 := by have := (show FlatOk kk items parts.length names cls levels code env from h.1.flat).h_len; unfold lenV at this; rw [if_neg h5] at this; exact this
      have e := implSelect d' kk items parts names cls levels code env ai ap an ac al xi ci cp cn cc cl xc lo hi W.heap.size (rvI (items.length + parts.length)) W (hI.below hb hhi) (hP.below hb hhi) (hN.below hb hhi) (hC.below hb hhi) (hL.below hb hhi) (Nat.le_trans hhi hb.size) li lp ln lc ll hsp (by rw [hl]; exact hs) (Nat.le_refl _) (by omega)
        (fun h0 i hi => by rw [hl] at hi; rw [rvI_at hi]; have hf := (show FlatOk kk items parts.length names cls levels code env from h.1.flat); have := hf.h_noParts (fun h4 => by have := hf.h_list h4; omega); omega)
        (fun h0 i hi => by rw [hl] at hi; rw [rvI_at hi]; have hf := (show FlatOk kk items parts.length names cls levels code env from h.1.flat); have := hf.h_list (by apply Classical.byContradiction; intro h4; exact h0 (hf.h_noParts h4)); omega)
        (fun h0 i hi => by rw [hl] at hi; rw [rvI_at hi]; have hf := (show FlatOk kk items parts.length names cls levels code env from h.1.flat); rcases hf.h_names with e | e; exact absurd e h0; unfold lenV at e; rw [if_neg h5] at e; omega)
      rw [hl] at e
      exact e :
    Calls Try.prog 62 #[.agg #[.int .i64 kk, .slice ai items.length ci, .slice ap parts.length cp, .slice an names.length cn, .slice ac cls.length cc, .slice al levels.length cl, .int .i64 code, .int .i64 env], .slice xi (items.length + parts.length) xc] W (ResV (d' + 1) (selV kk items parts names cls levels (rvI (items.length + parts.length))) W)))
  obtain ⟨N, hN'⟩ : ∃ N, items.length + parts.length = N := ⟨_, rfl⟩
  rw [hN'] at XV XN X40 CS
  clear hv hI hN hC hL hP hsm hVV hN' hsp li lp ln lc ll
  go_enter Try.func28, Try.ntmps28
  go_wp2_with fail
  obtain ⟨w1, hw1⟩ : ∃ W, (w.alloc (.cells #[.int .i64 kk, .slice ai items.length ci, .slice ap parts.length cp, .slice an names.length cn, .slice ac cls.length cc, .slice al levels.length cl, .int .i64 code, .int .i64 env] 31)).alloc (.cells #[.int .i64 0, .slice none 0 0, .slice none 0 0, .slice none 0 0, .slice none 0 0, .slice none 0 0, .int .i64 0, .int .i64 0] 31) = W := ⟨_, rfl⟩
  have hsz : (w.alloc (.cells #[.int .i64 kk, .slice ai items.length ci, .slice ap parts.length cp, .slice an names.length cn, .slice ac cls.length cc, .slice al levels.length cl, .int .i64 code, .int .i64 env] 31)).heap.size = w.heap.size + 1 := by simp
  have B1 := Lib.hid (show Below w.heap.size w w1 from hw1 ▸ (below1 w _).alloc (by simp) _)
  have KA := Lib.hid (show w1.heap[w.heap.size]? = some (.cells #[.int .i64 kk, .slice ai items.length ci, .slice ap parts.length cp, .slice an names.length cn, .slice ac cls.length cc, .slice al levels.length cl, .int .i64 code, .int .i64 env] 31 (0, 0)) from hw1 ▸ blk_old (blk_new w _ rfl))
  have KR := Lib.hid (show w1.heap[w.heap.size + 1]? = some (.cells #[.int .i64 0, .slice none 0 0, .slice none 0 0, .slice none 0 0, .slice none 0 0, .slice none 0 0, .int .i64 0, .int .i64 0] 31 (0, 0)) from hw1 ▸ hsz ▸ blk_new (w.alloc (.cells #[.int .i64 kk, .slice ai items.length ci, .slice ap parts.length cp, .slice an names.length cn, .slice ac cls.length cc, .slice al levels.length cl, .int .i64 code, .int .i64 env] 31)) (.cells #[.int .i64 0, .slice none 0 0, .slice none 0 0, .slice none 0 0, .slice none 0 0, .slice none 0 0, .int .i64 0, .int .i64 0] 31) rfl)
  rw [hw1]
  clear hw1 hsz
  with_reducible refine (C1.out _ B1.out).mono ?_
  rintro e w2 ⟨rfl, b⟩
  have B2 := Lib.hid (below_then B1.out b)
  have KA := Lib.hid (blk_below b KA.out)
  have KR := Lib.hid (blk_below b KR.out)
  clear b
  by_cases q : ValidV VV
  · rw [bB_yes q]
    by_cases h5 : kk = 5
    · have XV1 := Lib.hid (revV_no (fun h : ValidV VV ∧ ¬ kindV VV = 5 => h.2 (XK.trans h5)))
      have XS1 := Lib.hid (revS_fun q (XK.trans h5))
      subst h5
      clear q XK XV XN X40 LN CS
      obtain ⟨k0, k1, k2, k3, k4, k5, k6, k7⟩ := vec8 KA.out
      obtain ⟨z0, z1, z2, z3, z4, z5, z6, z7⟩ := vec8 KR.out
      obtain ⟨f0, f1, f2, f3, f4, f5, f6, f7⟩ := free8 KR.out
      go_wp2
      rw [XV1.out, XS1.out]
      exact vec_endS rfl rfl rfl rfl KR.out (zeroSD _ _ w _ (put8_below B2.out (Nat.le_succ _)))
    · have XV1 := Lib.hid (XV.out q h5)
      have XS1 := Lib.hid (revS_yes q (fun h => h5 (XK ▸ h)))
      have hl := X40.out q h5
      have CS := Lib.hid (CS.out q h5)
      have LN := Lib.hid (fun W => by have h := LN.out W; rw [XN.out h5] at h; exact h)
      have h5b : (kk == 5) = false := beq_eq_false_iff_ne.2 h5
      clear q XK XV XN X40 h5

      have UP := Lib.hid (fun W => implUpTo N W (by omega))
      have RV := Lib.hid (fun W0 W v (h : IntZ W0 W (upL N) v) => implRev (fun i => (i : Int)) N W0 W v h (by omega))
      have RL := Lib.hid (show ((List.range N).map (fun p => ((N - 1 - p : Nat) : Int))).length = N by simp)
      have RA := Lib.hid (fun i (hi : i < N) => (by unfold ixF; rw [rvI_at hi]; simp [List.getD_eq_getElem?_getD, hi] : ((List.range N).map (fun p => ((N - 1 - p : Nat) : Int))).getD i 0 = ixF (rvI N) i))
      obtain ⟨k0, k1, k2, k3, k4, k5, k6, k7⟩ := vec8 KA.out
      go_wp2_with fail
      refine (LN.out _).mono ?_
      rintro e w3 ⟨rfl, b⟩
      have B3 := Lib.hid (below_then B2.out b)
      have KA := Lib.hid (blk_below b KA.out)
      have KR := Lib.hid (blk_below b KR.out)
      clear b k0 k1 k2 k3 k4 k5 k6 k7
      go_wp2_with fail
      refine (UP.out _).mono ?_
      rintro e w4 ⟨v4, rfl, hz⟩
      have HZ := Lib.hid hz
      clear hz
      go_wp2_with fail
      refine (RV.out _ _ _ HZ.out).mono ?_
      rintro e w5 ⟨rfl, hz⟩
      obtain ⟨sa, c, rfl, hi'⟩ := hz.ints
      have HI := Lib.hid (by rw [RL.out] at hi'; exact hi'.congr RA.out : IntsAt w5.heap.size w5 sa N (ixF (rvI N)))
      have B5 := Lib.hid (below_then B3.out hz.below)
      have KA := Lib.hid (blk_below hz.below KA.out)
      have KR := Lib.hid (blk_below hz.below KR.out)
      have RL2 := RL.out
      clear hi' hz
      rw [RL2]
      clear RL2 HZ
      obtain ⟨k0, k1, k2, k3, k4, k5, k6, k7⟩ := vec8 KA.out
      go_wp2_with fail
      refine (CS.out _ _ _ B5.out HI.out).mono ?_
      rintro e w6 ⟨y, rfl, ho, hb⟩
      obtain ⟨yk, ya1, yn1, ym1, ya2, yn2, ym2, ya3, yn3, ym3, ya4, yn4, ym4, ya5, yn5, ym5, yc, ye, rfl⟩ := ho.agg
      have hr5 := (Array.getElem?_eq_some_iff.1 KR.out).1
      have B6 := Lib.hid (below_then B5.out hb)
      have KR := Lib.hid (blk_below hb KR.out)
      have HO := Lib.hid ho
      clear ho hb k0 k1 k2 k3 k4 k5 k6 k7
      obtain ⟨z0, z1, z2, z3, z4, z5, z6, z7⟩ := vec8 KR.out
      obtain ⟨f0, f1, f2, f3, f4, f5, f6, f7⟩ := free8 KR.out
      go_wp2
      rw [XV1.out, XS1.out]
      exact vec_endS rfl rfl rfl rfl KR.out ⟨_, rfl, (HO.out.put8 (by omega) _ _ _ _ _ _ _ _).wide (by omega) (by rw [put8_size]; exact Nat.le_refl _), put8_below B6.out (Nat.le_succ _)⟩
  · rw [bB_no q]
    have XV1 := Lib.hid (revV_no (fun h : ValidV VV ∧ ¬ kindV VV = 5 => q h.1))
    have XS1 := Lib.hid (revS_bad q)
    clear q XK XV XN X40 LN CS
    obtain ⟨z0, z1, z2, z3, z4, z5, z6, z7⟩ := vec8 KR.out
    obtain ⟨f0, f1, f2, f3, f4, f5, f6, f7⟩ := free8 KR.out
    go_wp2
    rw [XV1.out, XS1.out]
    exact vec_endS rfl rfl rfl rfl KR.out (zeroSD _ _ w _ (put8_below B2.out (Nat.le_succ _)))
def dnL (n k : Nat) : List Int := (List.range k).map (fun (i : Nat) => (n : Int) - i)
theorem dnL_succ (n k : Nat) : dnL n (k + 1) = dnL n k ++ [(n : Int) - k] := by unfold dnL; rw [List.range_succ, List.map_append]; rfl
theorem dnL_len (n k : Nat) : (dnL n k).length = k := by unfold dnL; simp
set_option maxHeartbeats 4000000 in
theorem specReverse (d : Nat) (v : Vec) (val : Value) (lo hi : Nat) (w : World) (hv : VecAt lo hi w d v val) (hhi : hi ≤ w.heap.size) (hsm : Small d v) :
    Calls Try.prog 27 #[val] w (ResVS d (revV v) (revS v) w) := by
  have C1 := Lib.hid (fun (w1 : World) (hb : Below w.heap.size w w1) => specIsVector d v val lo hi w1 (hv.below hb hhi) (Nat.le_trans hhi hb.size) hsm)
  obtain ⟨VV, hVV⟩ : ∃ V, v = V := ⟨_, rfl⟩
  rw [hVV] at C1 ⊢
  obtain ⟨kk, items, parts, names, cls, levels, code, env⟩ := v
  obtain ⟨d', ai, ci, ap, cp, an, cn, ac, cc, al, cl, ed, rfl, hI, hN, hC, hL, hP⟩ := vecAt_open hv
  subst ed
  have li : items.length ≤ 1048576 := hsm.1
  have lp : parts.length ≤ 1048576 := hsm.2.1
  have ln : names.length ≤ 1048576 := hsm.2.2.1
  have lc : cls.length ≤ 1048576 := hsm.2.2.2.1
  have ll : levels.length ≤ 1048576 := hsm.2.2.2.2.1
  have hsp : ∀ p ∈ parts, Small d' p := hsm.2.2.2.2.2.2.2.2.2
  have XK : kindV VV = kk := by rw [← hVV]; rfl
  have XV := Lib.hid (fun (h : ValidV VV) (h5 : ¬ kk = 5) => (by rw [← hVV] at h ⊢; exact revV_yes h h5 : revV VV = selV kk items parts names cls levels (rvI (items.length + parts.length))))
  have XN := Lib.hid (fun (h5 : ¬ kk = 5) => (by unfold lenV; rw [if_neg h5] : lenV kk items.length parts.length = items.length + parts.length))
  have X40 := Lib.hid (fun (h : ValidV VV) (h5 : ¬ kk = 5) => (by rw [← hVV] at h; have := (show FlatOk kk items parts.length names cls levels code env from h.1.flat).h_len; unfold lenV at this; rw [if_neg h5] at this; exact this : items.length + parts.length ≤ 40))
  have LN := Lib.hid (fun (W : World) => specLen kk ai ap an ac al items.length ci parts.length cp names.length cn cls.length cc levels.length cl code env W li lp)
  have CS := Lib.hid (fun (h : ValidV VV) (h5 : ¬ kk = 5) (xi : Option Addr) (xc : Nat) (W : World) (hb : Below w.heap.size w W) (hs : IntsAt W.heap.size W xi (items.length + parts.length) (fun i => ixF (rvI (items.length + parts.length)) i + 1)) =>
    (by
      rw [← hVV] at h
      have hl := rvI_len (items.length + parts.length)
      have hn : (items.length + parts.length) ≤ 2097152 := by omega
      have h40 : items.length + parts.length ≤ 40 := by have := (show FlatOk kk items parts.length names cls levels code env from h.1.flat).h_len; unfold lenV at this; rw [if_neg h5] at this; exact this
      have e := specPickV d' kk items parts names cls levels code env ai ap an ac al xi ci cp cn cc cl xc lo hi W.heap.size (rvI (items.length + parts.length)) W (hI.below hb hhi) (hP.below hb hhi) (hN.below hb hhi) (hC.below hb hhi) (hL.below hb hhi) (Nat.le_trans hhi hb.size) hsm h h5 (by rw [hl]; exact hs) (Nat.le_refl _) (by omega) (fun i hi => by rw [hl] at hi; rw [rvI_at hi]; omega)
      rw [hl] at e
      exact e :
    Calls Try.prog 43 #[.agg #[.int .i64 kk, .slice ai items.length ci, .slice ap parts.length cp, .slice an names.length cn, .slice ac cls.length cc, .slice al levels.length cl, .int .i64 code, .int .i64 env], .slice xi (items.length + parts.length) xc] W (ResV (d' + 1) (selV kk items parts names cls levels (rvI (items.length + parts.length))) W)))
  obtain ⟨N, hN'⟩ : ∃ N, items.length + parts.length = N := ⟨_, rfl⟩
  rw [hN'] at XV XN X40 CS
  clear hv hI hN hC hL hP hsm hVV hN' hsp li lp ln lc ll
  go_enter Try.func27, Try.ntmps27
  go_wp2_with fail
  obtain ⟨w1, hw1⟩ : ∃ W, (w.alloc (.cells #[.int .i64 kk, .slice ai items.length ci, .slice ap parts.length cp, .slice an names.length cn, .slice ac cls.length cc, .slice al levels.length cl, .int .i64 code, .int .i64 env] 31)).alloc (.cells #[.int .i64 0, .slice none 0 0, .slice none 0 0, .slice none 0 0, .slice none 0 0, .slice none 0 0, .int .i64 0, .int .i64 0] 31) = W := ⟨_, rfl⟩
  have hsz : (w.alloc (.cells #[.int .i64 kk, .slice ai items.length ci, .slice ap parts.length cp, .slice an names.length cn, .slice ac cls.length cc, .slice al levels.length cl, .int .i64 code, .int .i64 env] 31)).heap.size = w.heap.size + 1 := by simp
  have B1 := Lib.hid (show Below w.heap.size w w1 from hw1 ▸ (below1 w _).alloc (by simp) _)
  have KA := Lib.hid (show w1.heap[w.heap.size]? = some (.cells #[.int .i64 kk, .slice ai items.length ci, .slice ap parts.length cp, .slice an names.length cn, .slice ac cls.length cc, .slice al levels.length cl, .int .i64 code, .int .i64 env] 31 (0, 0)) from hw1 ▸ blk_old (blk_new w _ rfl))
  have KR := Lib.hid (show w1.heap[w.heap.size + 1]? = some (.cells #[.int .i64 0, .slice none 0 0, .slice none 0 0, .slice none 0 0, .slice none 0 0, .slice none 0 0, .int .i64 0, .int .i64 0] 31 (0, 0)) from hw1 ▸ hsz ▸ blk_new (w.alloc (.cells #[.int .i64 kk, .slice ai items.length ci, .slice ap parts.length cp, .slice an names.length cn, .slice ac cls.length cc, .slice al levels.length cl, .int .i64 code, .int .i64 env] 31)) (.cells #[.int .i64 0, .slice none 0 0, .slice none 0 0, .slice none 0 0, .slice none 0 0, .slice none 0 0, .int .i64 0, .int .i64 0] 31) rfl)
  rw [hw1]
  clear hw1 hsz
  with_reducible refine (C1.out _ B1.out).mono ?_
  rintro e w2 ⟨rfl, b⟩
  have B2 := Lib.hid (below_then B1.out b)
  have KA := Lib.hid (blk_below b KA.out)
  have KR := Lib.hid (blk_below b KR.out)
  clear b
  by_cases q : ValidV VV
  · rw [bB_yes q]
    by_cases h5 : kk = 5
    · have XV1 := Lib.hid (revV_no (fun h : ValidV VV ∧ ¬ kindV VV = 5 => h.2 (XK.trans h5)))
      have XS1 := Lib.hid (revS_fun q (XK.trans h5))
      subst h5
      clear q XK XV XN X40 LN CS
      obtain ⟨k0, k1, k2, k3, k4, k5, k6, k7⟩ := vec8 KA.out
      obtain ⟨z0, z1, z2, z3, z4, z5, z6, z7⟩ := vec8 KR.out
      obtain ⟨f0, f1, f2, f3, f4, f5, f6, f7⟩ := free8 KR.out
      go_wp2
      rw [XV1.out, XS1.out]
      exact vec_endS rfl rfl rfl rfl KR.out (zeroSD _ _ w _ (put8_below B2.out (Nat.le_succ _)))
    · have XV1 := Lib.hid (XV.out q h5)
      have XS1 := Lib.hid (revS_yes q (fun h => h5 (XK ▸ h)))
      have hl := X40.out q h5
      have CS := Lib.hid (CS.out q h5)
      have LN := Lib.hid (fun W => by have h := LN.out W; rw [XN.out h5] at h; exact h)
      have h5b : (kk == 5) = false := beq_eq_false_iff_ne.2 h5
      clear q XK XV XN X40 h5

      have RA := Lib.hid (fun i (hi : i < N) => (by unfold ixF dnL; rw [rvI_at hi]; simp [List.getD_eq_getElem?_getD, hi]; omega : (dnL N N).getD i 0 = ixF (rvI N) i + 1))
      have RL := Lib.hid (dnL_len N)
      have NX0 := Lib.hid (dnL_succ N)
      obtain ⟨w3, hw3⟩ : ∃ W, w2.alloc (.cells #[] 3) = W := ⟨_, rfl⟩
      have ST := Lib.hid (show IntZ w2 w3 (dnL N 0) (.slice (some ⟨w2.heap.size, 0, none⟩) 0 0) from hw3 ▸ IntZ.nil0 w2 w2 (Below.refl _ _))
      have B3 := Lib.hid (show Below w2.heap.size w2 w3 from hw3 ▸ below1 w2 _)
      have KA3 := Lib.hid (blk_below B3.out KA.out)
      obtain ⟨k0, k1, k2, k3, k4, k5, k6, k7⟩ := vec8 KA.out
      have EW := Lib.hid hw3
      clear hw3
      go_upto_region 6 with (fail)
      rw [EW.out]
      clear EW k0 k1 k2 k3 k4 k5 k6 k7
      obtain ⟨k0, k1, k2, k3, k4, k5, k6, k7⟩ := vec8 KA3.out
      go_wp2_with fail
      refine (LN.out _).mono ?_
      rintro e w4 ⟨rfl, b⟩
      have ST := Lib.hid (ST.out.keep b)
      clear b k0 k1 k2 k3 k4 k5 k6 k7
      go_wp2
      go_loopw [4, 5] (fun v i wr => ∃ k : Nat, k ≤ N ∧ i = .int .i64 ((N : Int) - k) ∧ IntZ w2 wr (dnL N k) v) (fun _ i _ => (intOf i).toNat)
      case atStart => exact ⟨0, Nat.zero_le _, by simp, ST.out⟩
      case round =>
        obtain ⟨k, hk, rfl, hir⟩ := hrel
        have IR := Lib.hid hir
        clear hir
        by_cases hlt : k < N
        · have LN2 := Lib.hid (show (dnL N k).length ≤ 1048576 by rw [RL.out]; omega)
          have NX := Lib.hid (NX0.out k)
          have hgt : 0 < (N : Int) - k := by omega
          go_wp2_with (at_builtin; go_loud (refine wpList_appInt rfl _ _ rfl ((N : Int) - k) (dnL N k) _ _ rfl rfl (IR.out.keep (below1 _ _)) (blk_new _ _ rfl) LN2.out ?_))
          intro v' w3 hir
          have IN := Lib.hid (NX.out ▸ hir)
          clear hir
          go_wp2
          go_roundw
          case rel => exact ⟨k + 1, by omega, by first | go_num | (congr 1; omega), IN.out⟩
          case measure => simp [intOf]; omega
        · obtain rfl : k = N := by omega
          have hle : (k : Int) - k ≤ 0 := by omega
          obtain ⟨sa, c, rfl, hi'⟩ := IR.out.ints
          have HI := Lib.hid (by rw [RL.out] at hi'; exact hi'.congr RA.out : IntsAt wr.heap.size wr sa k (fun i => ixF (rvI k) i + 1))
          have B5 := Lib.hid (below_then B2.out IR.out.below)
          have KA := Lib.hid (blk_below IR.out.below KA.out)
          have KR := Lib.hid (blk_below IR.out.below KR.out)
          have RL2 := RL.out k
          clear hi'
          rw [RL2]
          clear RL2
          obtain ⟨k0, k1, k2, k3, k4, k5, k6, k7⟩ := vec8 KA.out
          go_wp2_with fail
          refine (CS.out _ _ _ B5.out HI.out).mono ?_
          rintro e w6 ⟨y, rfl, ho, hb⟩
          obtain ⟨yk, ya1, yn1, ym1, ya2, yn2, ym2, ya3, yn3, ym3, ya4, yn4, ym4, ya5, yn5, ym5, yc, ye, rfl⟩ := ho.agg
          have hr5 := (Array.getElem?_eq_some_iff.1 KR.out).1
          have B6 := Lib.hid (below_then B5.out hb)
          have KR := Lib.hid (blk_below hb KR.out)
          have HO := Lib.hid ho
          clear ho hb k0 k1 k2 k3 k4 k5 k6 k7
          obtain ⟨z0, z1, z2, z3, z4, z5, z6, z7⟩ := vec8 KR.out
          obtain ⟨f0, f1, f2, f3, f4, f5, f6, f7⟩ := free8 KR.out
          go_wp2
          rw [XV1.out, XS1.out]
          exact vec_endS rfl rfl rfl rfl KR.out ⟨_, rfl, (HO.out.put8 (by omega) _ _ _ _ _ _ _ _).wide (by omega) (by rw [put8_size]; exact Nat.le_refl _), put8_below B6.out (Nat.le_succ _)⟩
  · rw [bB_no q]
    have XV1 := Lib.hid (revV_no (fun h : ValidV VV ∧ ¬ kindV VV = 5 => q h.1))
    have XS1 := Lib.hid (revS_bad q)
    clear q XK XV XN X40 LN CS
    go_wp2_with fail
    with_reducible refine (specBad _).mono ?_
    rintro e w3 ⟨rfl, b⟩
    have B2 := Lib.hid (below_then B2.out b)
    have KR := Lib.hid (blk_below b KR.out)
    clear b
    obtain ⟨z0, z1, z2, z3, z4, z5, z6, z7⟩ := vec8 KR.out
    obtain ⟨f0, f1, f2, f3, f4, f5, f6, f7⟩ := free8 KR.out
    go_wp2
    rw [XV1.out, XS1.out]
    exact vec_endS rfl rfl rfl rfl KR.out (zeroSD _ _ w _ (put8_below B2.out (Nat.le_succ _)))
end Go.Proofs.Ytfbpbpbmnieieaa
