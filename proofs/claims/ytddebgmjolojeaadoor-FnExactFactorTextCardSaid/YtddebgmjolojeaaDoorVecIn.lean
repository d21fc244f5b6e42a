/- Vectors that come in as arguments of the laws. -/
import Derived.Test.YtddebgmjolojeaaDoorRows
import Derived.Test.YtddebgmjolojeaaDoorVec
import Derived.Test.YtddebgmjolojeaaDoorNumIn
import Derived.Deep.Slices
import Derived.Deep.Fields
import Derived.ChangeSame
namespace Go.Proofs.YtddebgmjolojeaaDoor
open Go.ChangeShapes Go.WideShapes Go.RowKit Go.Deep
open Go.ChangeMaps (open_string shut_string)
set_option maxRecDepth 100000
set_option linter.unusedVariables false

theorem list_of {α : Type} (P : Nat → α → Prop) : ∀ n, (∀ i, i < n → ∃ v, P i v) → ∃ l : List α, l.length = n ∧ ∀ i v, l[i]? = some v → P i v
  | 0, _ => ⟨[], rfl, fun i v h => by simp at h⟩
  | n + 1, h => by
    obtain ⟨l, hl, hp⟩ := list_of P n (fun i hi => h i (by omega))
    obtain ⟨v, hv⟩ := h n (by omega)
    refine ⟨l ++ [v], by simp [hl], fun i x hx => ?_⟩
    by_cases hi : i < n
    · rw [List.getElem?_append_left (by omega)] at hx; exact hp i x hx
    · rw [List.getElem?_append_right (by omega)] at hx
      have : i - l.length = 0 := by
        rcases Nat.eq_zero_or_pos (i - l.length) with e | e
        · exact e
        · rw [List.getElem?_eq_none (by simp; omega)] at hx; cases hx
      rw [this] at hx
      simp at hx
      subst hx
      have : i = n := by omega
      subst this; exact hv
theorem cell_ltV {w : World} {p : Addr} {v : Value} (h : w.cell? p = some v) : p.block < w.heap.size := by
  unfold World.cell? at h
  rcases Nat.lt_or_ge p.block w.heap.size with h' | h'
  · exact h'
  · rw [Array.getElem?_eq_none h'] at h; cases h
theorem add_off {b o j : Nat} : (⟨b, o, none⟩ : Addr).add j = ⟨b, o + j, none⟩ := by
  unfold Addr.add; split
  · rename_i h; subst h; rfl
  · rfl

section
variable {H : Type} {enc : TypeId × Value → H} {P : Program} {w : World} {base : Nat} {spare : Nat → Bool} {held : Bool}
/-- A slice of structs of one-cell fields, opened: the cells of each element and what each reads as. -/
theorem open_structs {t e : TypeId} {fs : Array Field} {fuel : Nat} {a : Option Addr} {len cap : Nat} {x : DataW H × List MemPlace} (ht : P.underlying t = some (.slice e)) (he : P.underlying e = some (.struct fs))
    (hone : oneCellFields P fs = true) (hC : P.cellsOf e = fs.size) (hpos : 0 < fs.size) (h : DataW.trod enc P w base spare held fuel t [.slice a len cap] = some x) :
    len ≤ maxLen ∧ ∀ i, i < len → ∃ b o n, n < fuel ∧ a = some ⟨b, o, none⟩ ∧ b < w.heap.size ∧
        ∀ (j : Nat) (f : Field), fs[j]? = some f → ∃ (v : Value) (y : DataW H × List MemPlace), w.cell? ⟨b, o + i * fs.size + j, none⟩ = some v ∧ DataW.trod enc P w base spare held n f.type [v] = some y := by
  rcases DataW.trod_slice ht h with ⟨h0, _⟩ | ⟨ad, len', cap', elems, rest, n, hn, hcs, _, hb, hl, hm, hlen, hel, _, _⟩
  · simp only [List.cons.injEq, Value.slice.injEq, and_true] at h0
    obtain ⟨rfl, rfl, rfl⟩ := h0
    exact ⟨Nat.zero_le _, fun i hi => absurd hi (Nat.not_lt_zero _)⟩
  · simp only [List.cons.injEq, Value.slice.injEq, and_true] at hcs
    obtain ⟨rfl, rfl, rfl⟩ := hcs
    refine ⟨Nat.le_trans hl hm, fun i hi => ?_⟩
    obtain ⟨b, o, spot⟩ := ad
    have hspot : spot = none := by
      have key := hel 0 (by omega)
      rw [List.getElem?_eq_getElem (by omega)] at key
      obtain ⟨cs', hc, ht'⟩ := Option.bind_eq_some_iff.1 key
      rw [hC] at hc
      obtain ⟨ys, n', hn', hy, hlen', hyl, hf⟩ := DataW.trod_struct he ht'
      obtain ⟨_, hcl, hat⟩ := World.cells?_some hc
      have h00 := hat 0 hpos
      rw [List.getElem?_eq_getElem (by omega)] at h00
      simpa [Addr.add] using World.cell?_spot h00
    subst hspot
    have key := hel i hi
    rw [List.getElem?_eq_getElem (by omega)] at key
    obtain ⟨cs', hc, ht'⟩ := Option.bind_eq_some_iff.1 key
    rw [hC] at hc
    obtain ⟨ys, n', hn', hy, hlen', hyl, hf⟩ := DataW.trod_struct he ht'
    obtain ⟨_, hcl, hat⟩ := World.cells?_some hc
    have h00 := hat 0 hpos
    rw [List.getElem?_eq_getElem (by omega)] at h00
    rw [add_off, add_off] at h00
    refine ⟨b, o, n', by omega, rfl, cell_ltV h00, fun j f hj => ?_⟩
    obtain ⟨ho, hk⟩ := hone_of hone j f hj
    have hjl : j < fs.size := (Array.getElem?_eq_some_iff.1 hj).1
    have hcell := hat j hjl
    have hv : cs'[j]? = some (cs'[j]'(by omega)) := List.getElem?_eq_getElem (by omega)
    have h1 := hf j f hj
    rw [ho, hk] at h1
    have hone' : (cs'.drop j).take 1 = [cs'[j]'(by omega)] := by
      rw [List.drop_eq_getElem_cons (by omega)]
      rfl
    rw [hone'] at h1
    have hys : ys[j]? = some (ys[j]'(by omega)) := List.getElem?_eq_getElem (by omega)
    refine ⟨_, _, ?_, h1.trans hys⟩
    rw [add_off, add_off] at hcell
    rw [hcell, hv]
/-- A struct of one-cell fields by its cells. -/
theorem open_cells {e : TypeId} {fs : Array Field} {fuel : Nat} {cs : List Value} {x : DataW H × List MemPlace} (he : P.underlying e = some (.struct fs))
    (hone : oneCellFields P fs = true) (hC : P.cellsOf e = fs.size) (h : DataW.trod enc P w base spare held fuel e cs = some x) :
    cs.length = fs.size ∧ ∃ n, n < fuel ∧ ∀ (j : Nat) (f : Field), fs[j]? = some f → ∃ (v : Value) (y : DataW H × List MemPlace), cs[j]? = some v ∧ DataW.trod enc P w base spare held n f.type [v] = some y := by
  obtain ⟨ys, n', hn', hy, hlen', hyl, hf⟩ := DataW.trod_struct he h
  rw [hC] at hlen'
  refine ⟨hlen', n', by omega, fun j f hj => ?_⟩
  obtain ⟨ho, hk⟩ := hone_of hone j f hj
  have hjl : j < fs.size := (Array.getElem?_eq_some_iff.1 hj).1
  have h1 := hf j f hj
  rw [ho, hk] at h1
  have hone' : (cs.drop j).take 1 = [cs[j]'(by omega)] := by
    rw [List.drop_eq_getElem_cons (by omega)]
    rfl
  rw [hone'] at h1
  have hys : ys[j]? = some (ys[j]'(by omega)) := List.getElem?_eq_getElem (by omega)
  exact ⟨_, _, List.getElem?_eq_getElem (by omega), h1.trans hys⟩
end
theorem VecAt.le {lo hi : Nat} {w : World} {d d' : Nat} (h : d ≤ d') {v : Vec} {val : Value} (hv : VecAt lo hi w d v val) : VecAt lo hi w d' v val := by
  induction h with
  | refl => exact hv
  | step _ ih => exact VecAt.more _ _ _ ih
theorem Fits.more : ∀ (d : Nat) (v : Vec), Fits d v → Fits (d + 1) v
  | 0, _, h => h.elim
  | d + 1, .mk _ _ _ _ _ _ _ _, h => by
    unfold Fits at h ⊢
    obtain ⟨h1, h2, h3, h4, h5, h6, h7, h8, h9, h10, h11, h12, h13⟩ := h
    exact ⟨h1, h2, h3, h4, h5, h6, h7, h8, h9, h10, h11, h12, fun p hp => Fits.more d p (h13 p hp)⟩
theorem Fits.le {d d' : Nat} (h : d ≤ d') {v : Vec} (hv : Fits d v) : Fits d' v := by
  induction h with
  | refl => exact hv
  | step _ ih => exact Fits.more _ _ ih

section
variable {H : Type} {enc : TypeId × Value → H} {W : World} {base : Nat} {sp : Nat → Bool} {held : Bool}
theorem slice_form {P : Program} {t e : TypeId} {fuel : Nat} {v : Value} {x : DataW H × List MemPlace} (ht : P.underlying t = some (.slice e)) (h : DataW.trod enc P W base sp held fuel t [v] = some x) : ∃ a n cap, v = .slice a n cap ∧ n ≤ cap := by
  rcases DataW.trod_slice ht h with ⟨h0, _⟩ | ⟨ad, len', cap', elems, rest, n, hn, hcs, _, hb, hl, _⟩
  · simp only [List.cons.injEq, and_true] at h0; exact ⟨_, _, _, h0, Nat.le_refl _⟩
  · simp only [List.cons.injEq, and_true] at hcs; exact ⟨_, _, _, hcs, hl⟩
theorem texts_in {fuel : Nat} {v : Value} {x : DataW H × List MemPlace} (h : DataW.trod enc Tryd.prog W base sp held fuel 24 [v] = some x) :
    ∃ (l : List ByteArray) (a : Option Addr) (cap : Nat), v = .slice a l.length cap ∧ TextsAt 0 W.heap.size W a l ∧ l.length ≤ maxLen ∧ (∀ s ∈ l, s.size ≤ maxLen) ∧ l.length ≤ cap := by
  obtain ⟨a, n, cap, rfl, hcap⟩ := slice_form Tryd.underlying24 h
  obtain ⟨f, hf, hn, hs⟩ := strs_in (a := a) (n := n) (cap := cap) h
  refine ⟨(List.range n).map f, a, cap, by simp, fun i x hx => ?_, by simpa using hn, fun s hs' => ?_, by simpa using hcap⟩
  · obtain ⟨hi, rfl⟩ := List.getElem?_eq_some_iff.1 hx
    obtain ⟨b, off, e, hb, hc⟩ := hf i (by simpa using hi)
    exact ⟨b, off, e, Nat.zero_le _, hb, by simpa using hc⟩
  · obtain ⟨i, _, rfl⟩ := List.mem_map.1 hs'
    exact hs i
theorem items_in {fuel : Nat} {v : Value} {x : DataW H × List MemPlace} (h : DataW.trod enc Tryd.prog W base sp held fuel 22 [v] = some x) :
    ∃ (l : List It) (a : Option Addr) (cap : Nat), v = .slice a l.length cap ∧ ItemsAt 0 W.heap.size W a l ∧ l.length ≤ maxLen ∧ (∀ x ∈ l, (-9223372036854775808 ≤ x.n ∧ x.n ≤ 9223372036854775807) ∧ (-9223372036854775808 ≤ x.d ∧ x.d ≤ 9223372036854775807) ∧ x.t.size ≤ maxLen) ∧ l.length ≤ cap := by
  obtain ⟨a, n, cap, rfl, hcap⟩ := slice_form Tryd.underlying22 h
  obtain ⟨hn, hi⟩ := open_structs Tryd.underlying22 Tryd.underlying66 (by kernel_rfl) (by kernel_rfl) (by decide) h
  obtain ⟨l, hl, hp⟩ := list_of (fun i (x : It) => ∃ b off, a = some ⟨b, off, none⟩ ∧ b < W.heap.size ∧ W.cell? ⟨b, off + i * 3, none⟩ = some (.int .i64 x.n) ∧ W.cell? ⟨b, off + i * 3 + 1, none⟩ = some (.int .i64 x.d) ∧ W.cell? ⟨b, off + i * 3 + 2, none⟩ = some (.string x.t) ∧ InB x) n (by
    intro i hin
    obtain ⟨b, o, m, hm, ha, hb, hf⟩ := hi i hin
    obtain ⟨v0, y0, c0, t0⟩ := hf 0 _ rfl
    obtain ⟨v1, y1, c1, t1⟩ := hf 1 _ rfl
    obtain ⟨v2, y2, c2, t2⟩ := hf 2 _ rfl
    obtain ⟨n0, e0, _, b0⟩ := DataW.trod_int Tryd.underlying3 t0
    obtain ⟨n1, e1, _, b1⟩ := DataW.trod_int Tryd.underlying3 t1
    obtain ⟨s, e2, _, b2⟩ := DataW.trod_string Tryd.underlying9 t2
    simp at e0 e1 e2
    subst e0 e1 e2
    exact ⟨⟨n0, n1, s⟩, b, o, ha, hb, c0, c1, c2, bounds_i64 b0, bounds_i64 b1, b2⟩)
  subst hl
  refine ⟨l, a, cap, rfl, fun i x hx => ?_, hn, fun x hx => ?_, hcap⟩
  · obtain ⟨b, off, e, hb, c0, c1, c2, _⟩ := hp i x hx
    exact ⟨b, off, e, Nat.zero_le _, hb, c0, c1, c2⟩
  · obtain ⟨i, hi'⟩ := List.getElem?_of_mem hx
    obtain ⟨_, _, _, _, _, _, _, hb⟩ := hp i x hi'
    exact hb
/-- A vector that came in, by its fields. -/
theorem vec_fields : ∀ (fuel : Nat) (c0 c1 c2 c3 c4 c5 c6 c7 : Value) (y0 y1 y2 y3 y4 y5 y6 y7 : DataW H × List MemPlace), DataW.trod enc Tryd.prog W base sp held fuel 3 [c0] = some y0 → DataW.trod enc Tryd.prog W base sp held fuel 22 [c1] = some y1 →
    DataW.trod enc Tryd.prog W base sp held fuel 23 [c2] = some y2 → DataW.trod enc Tryd.prog W base sp held fuel 24 [c3] = some y3 → DataW.trod enc Tryd.prog W base sp held fuel 24 [c4] = some y4 → DataW.trod enc Tryd.prog W base sp held fuel 24 [c5] = some y5 →
    DataW.trod enc Tryd.prog W base sp held fuel 3 [c6] = some y6 → DataW.trod enc Tryd.prog W base sp held fuel 3 [c7] = some y7 →
    ∃ v, VecAt 0 W.heap.size W (fuel + 1) v (.agg #[c0, c1, c2, c3, c4, c5, c6, c7]) ∧ Fits (fuel + 1) v := by
  intro fuel
  induction fuel using Nat.strongRecOn with
  | ind fuel IH =>
    intro c0 c1 c2 c3 c4 c5 c6 c7 y0 y1 y2 y3 y4 y5 y6 y7 t0 t1 t2 t3 t4 t5 t6 t7
    obtain ⟨kk, e0, _, b0⟩ := DataW.trod_int Tryd.underlying3 t0
    obtain ⟨code, e6, _, b6⟩ := DataW.trod_int Tryd.underlying3 t6
    obtain ⟨env, e7, _, b7⟩ := DataW.trod_int Tryd.underlying3 t7
    simp at e0 e6 e7
    subst e0 e6 e7
    obtain ⟨items, ai, ci, rfl, hI, hIn, hIb, qI⟩ := items_in t1
    obtain ⟨names, an, cn, rfl, hN, hNn, hNb, qN⟩ := texts_in t3
    obtain ⟨cls, ac, cc, rfl, hC, hCn, hCb, qC⟩ := texts_in t4
    obtain ⟨levels, al, cl, rfl, hL, hLn, hLb, qL⟩ := texts_in t5
    obtain ⟨ap, n, cp, rfl, qP⟩ := slice_form Tryd.underlying23 t2
    obtain ⟨hn, hi⟩ := open_structs Tryd.underlying23 Tryd.underlying26 (by kernel_rfl) (by kernel_rfl) (by decide) t2
    obtain ⟨parts, hl, hp⟩ := list_of (fun i (p : Vec) => (∃ b off u0 u1 u2 u3 u4 u5 u6 u7, ap = some ⟨b, off, none⟩ ∧ 0 ≤ b ∧ b < W.heap.size ∧ VecAt 0 W.heap.size W fuel p (.agg #[u0, u1, u2, u3, u4, u5, u6, u7]) ∧
        W.cell? ⟨b, off + i * 8, none⟩ = some u0 ∧ W.cell? ⟨b, off + i * 8 + 1, none⟩ = some u1 ∧ W.cell? ⟨b, off + i * 8 + 2, none⟩ = some u2 ∧ W.cell? ⟨b, off + i * 8 + 3, none⟩ = some u3 ∧ W.cell? ⟨b, off + i * 8 + 4, none⟩ = some u4 ∧ W.cell? ⟨b, off + i * 8 + 5, none⟩ = some u5 ∧ W.cell? ⟨b, off + i * 8 + 6, none⟩ = some u6 ∧ W.cell? ⟨b, off + i * 8 + 7, none⟩ = some u7) ∧ Fits fuel p) n (by
      intro i hin
      obtain ⟨b, o, m, hm, ha, hb, hf⟩ := hi i hin
      obtain ⟨v0, z0, q0, s0⟩ := hf 0 _ rfl
      obtain ⟨v1, z1, q1, s1⟩ := hf 1 _ rfl
      obtain ⟨v2, z2, q2, s2⟩ := hf 2 _ rfl
      obtain ⟨v3, z3, q3, s3⟩ := hf 3 _ rfl
      obtain ⟨v4, z4, q4, s4⟩ := hf 4 _ rfl
      obtain ⟨v5, z5, q5, s5⟩ := hf 5 _ rfl
      obtain ⟨v6, z6, q6, s6⟩ := hf 6 _ rfl
      obtain ⟨v7, z7, q7, s7⟩ := hf 7 _ rfl
      obtain ⟨v, hv, hfit⟩ := IH m hm v0 v1 v2 v3 v4 v5 v6 v7 _ _ _ _ _ _ _ _ s0 s1 s2 s3 s4 s5 s6 s7
      exact ⟨v, ⟨b, o, v0, v1, v2, v3, v4, v5, v6, v7, ha, Nat.zero_le _, hb, hv.le (by omega), q0, q1, q2, q3, q4, q5, q6, q7⟩, hfit.le (by omega)⟩)
    subst hl
    refine ⟨.mk kk items parts names cls levels code env, vecAt_mk hI hN hC hL (fun i p hp' => (hp i p hp').1) ⟨qI, qP, qN, qC, qL⟩, ?_⟩
    unfold Fits
    refine ⟨bounds_i64 b0, bounds_i64 b6, bounds_i64 b7, hIn, hn, hNn, hCn, hLn, hIb, hNb, hCb, hLb, fun p hp' => ?_⟩
    obtain ⟨i, hi'⟩ := List.getElem?_of_mem hp'
    exact (hp i p hi').2
/-- A vector that came in. -/
theorem vec_in {b0 : Nat} {r : Reach} {v : Value} {dt : DataW H} {p : List MemPlace} (hv : Value.okWide Tryd.prog W r b0 26 v) (h : DataW.Trod enc Tryd.prog W base sp held 26 v dt p) :
    ∃ (d : Nat) (x : Vec), VecAt 0 W.heap.size W d x v ∧ Fits d x := by
  obtain ⟨cs, rfl, hsz⟩ := okWide_struct Tryd.underlying26 hv
  obtain ⟨fuel, hf⟩ := h
  obtain ⟨hlen, n, hn, hg⟩ := open_cells Tryd.underlying26 (by kernel_rfl) (by kernel_rfl) hf
  obtain ⟨l⟩ := cs
  match l, hlen with
  | [c0, c1, c2, c3, c4, c5, c6, c7], _ =>
    obtain ⟨v0, z0, q0, s0⟩ := hg 0 _ rfl
    obtain ⟨v1, z1, q1, s1⟩ := hg 1 _ rfl
    obtain ⟨v2, z2, q2, s2⟩ := hg 2 _ rfl
    obtain ⟨v3, z3, q3, s3⟩ := hg 3 _ rfl
    obtain ⟨v4, z4, q4, s4⟩ := hg 4 _ rfl
    obtain ⟨v5, z5, q5, s5⟩ := hg 5 _ rfl
    obtain ⟨v6, z6, q6, s6⟩ := hg 6 _ rfl
    obtain ⟨v7, z7, q7, s7⟩ := hg 7 _ rfl
    simp only [Value.cells, List.getElem?_cons_zero, List.getElem?_cons_succ, Option.some.injEq] at q0 q1 q2 q3 q4 q5 q6 q7
    subst q0 q1 q2 q3 q4 q5 q6 q7
    obtain ⟨x, hx, hfit⟩ := vec_fields n _ _ _ _ _ _ _ _ _ _ _ _ _ _ _ _ s0 s1 s2 s3 s4 s5 s6 s7
    exact ⟨_, x, hx, hfit⟩
end
end Go.Proofs.YtddebgmjolojeaaDoor
