/- Vectors that come in as arguments of the laws. -/
import Derived.Test.YtddebgmjolojeaaDoorRows
import Derived.Test.YtddebgmjolojeaaDoorVec
import Derived.Test.YtddebgmjolojeaaDoorNumIn
import Derived.Test.YtddebgmjolojeaaDoorMc2
import Derived.Test.YtddebgmjolojeaaDoorMc1
import Derived.Test.YtddebgmjolojeaaDoorVecStr
import Derived.Test.YtddebgmjolojeaaDoorVecSz
import Derived.Deep.Slices
import Derived.Deep.Fields
import Derived.ChangeSame
import Derived.WalkKit
import Derived.Maps.AppendAt
import Derived.OwnWalk
import Derived.Deep.DeepCutAuto
import Derived.Lib.Hide
import Derived.Deep.MidRow
namespace Go.Proofs.YtddebgmjolojeaaDoor
open Go.ChangeShapes Go.WideShapes Go.RowKit Go.Deep
open Go.ChangeMaps (open_string shut_string)
set_option maxRecDepth 100000
set_option linter.unusedVariables false

theorem list_of {α : Type} (P : Nat → α → Prop) : ∀ n, (∀ i, i < n → ∃ v, P i v) → ∃ l : List α, l.length = n ∧ ∀ i v, l[i]? = some v → P i v
  | 0, _ => ⟨[], rfl, fun i v h => by simp at h⟩
  | n + 1, h => by
    obtain ⟨l, hl, hp⟩ := list_of P n (fun i hi => h i (by omega))
    obtain ⟨v, hv⟩ := h n (by omega)
    refine ⟨l ++ [v], by simp [hl], fun i x hx => ?_⟩
    by_cases hi : i < n
    · rw [List.getElem?_append_left (by omega)] at hx; exact hp i x hx
    · rw [List.getElem?_append_right (by omega)] at hx
      have : i - l.length = 0 := by
        rcases Nat.eq_zero_or_pos (i - l.length) with e | e
        · exact e
        · rw [List.getElem?_eq_none (by simp; omega)] at hx; cases hx
      rw [this] at hx
      simp at hx
      subst hx
      have : i = n := by omega
      subst this; exact hv
theorem cell_ltV {w : World} {p : Addr} {v : Value} (h : w.cell? p = some v) : p.block < w.heap.size := by
  unfold World.cell? at h
  rcases Nat.lt_or_ge p.block w.heap.size with h' | h'
  · exact h'
  · rw [Array.getElem?_eq_none h'] at h; cases h
theorem add_off {b o j : Nat} : (⟨b, o, none⟩ : Addr).add j = ⟨b, o + j, none⟩ := by
  unfold Addr.add; split
  · rename_i h; subst h; rfl
  · rfl

section
variable {H : Type} {enc : TypeId × Value → H} {P : Program} {w : World} {base : Nat} {spare : Nat → Bool} {held : Bool}
/-- A slice of structs of one-cell fields, opened: the cells of each element and what each reads as. -/
theorem open_structs {t e : TypeId} {fs : Array Field} {fuel : Nat} {a : Option Addr} {len cap : Nat} {x : DataW H × List MemPlace} (ht : P.underlying t = some (.slice e)) (he : P.underlying e = some (.struct fs))
    (hone : oneCellFields P fs = true) (hC : P.cellsOf e = fs.size) (hpos : 0 < fs.size) (h : DataW.trod enc P w base spare held fuel t [.slice a len cap] = some x) :
    len ≤ maxLen ∧ ∀ i, i < len → ∃ b o n, n < fuel ∧ a = some ⟨b, o, none⟩ ∧ b < w.heap.size ∧
        ∀ (j : Nat) (f : Field), fs[j]? = some f → ∃ (v : Value) (y : DataW H × List MemPlace), w.cell? ⟨b, o + i * fs.size + j, none⟩ = some v ∧ DataW.trod enc P w base spare held n f.type [v] = some y := by
  rcases DataW.trod_slice ht h with ⟨h0, _⟩ | ⟨ad, len', cap', elems, rest, n, hn, hcs, _, hb, hl, hm, hlen, hel, _, _⟩
  · simp only [List.cons.injEq, Value.slice.injEq, and_true] at h0
    obtain ⟨rfl, rfl, rfl⟩ := h0
    exact ⟨Nat.zero_le _, fun i hi => absurd hi (Nat.not_lt_zero _)⟩
  · simp only [List.cons.injEq, Value.slice.injEq, and_true] at hcs
    obtain ⟨rfl, rfl, rfl⟩ := hcs
    refine ⟨Nat.le_trans hl hm, fun i hi => ?_⟩
    obtain ⟨b, o, spot⟩ := ad
    have hspot : spot = none := by
      have key := hel 0 (by omega)
      rw [List.getElem?_eq_getElem (by omega)] at key
      obtain ⟨cs', hc, ht'⟩ := Option.bind_eq_some_iff.1 key
      rw [hC] at hc
      obtain ⟨ys, n', hn', hy, hlen', hyl, hf⟩ := DataW.trod_struct he ht'
      obtain ⟨_, hcl, hat⟩ := World.cells?_some hc
      have h00 := hat 0 hpos
      rw [List.getElem?_eq_getElem (by omega)] at h00
      simpa [Addr.add] using World.cell?_spot h00
    subst hspot
    have key := hel i hi
    rw [List.getElem?_eq_getElem (by omega)] at key
    obtain ⟨cs', hc, ht'⟩ := Option.bind_eq_some_iff.1 key
    rw [hC] at hc
    obtain ⟨ys, n', hn', hy, hlen', hyl, hf⟩ := DataW.trod_struct he ht'
    obtain ⟨_, hcl, hat⟩ := World.cells?_some hc
    have h00 := hat 0 hpos
    rw [List.getElem?_eq_getElem (by omega)] at h00
    rw [add_off, add_off] at h00
    refine ⟨b, o, n', by omega, rfl, cell_ltV h00, fun j f hj => ?_⟩
    obtain ⟨ho, hk⟩ := hone_of hone j f hj
    have hjl : j < fs.size := (Array.getElem?_eq_some_iff.1 hj).1
    have hcell := hat j hjl
    have hv : cs'[j]? = some (cs'[j]'(by omega)) := List.getElem?_eq_getElem (by omega)
    have h1 := hf j f hj
    rw [ho, hk] at h1
    have hone' : (cs'.drop j).take 1 = [cs'[j]'(by omega)] := by
      rw [List.drop_eq_getElem_cons (by omega)]
      rfl
    rw [hone'] at h1
    have hys : ys[j]? = some (ys[j]'(by omega)) := List.getElem?_eq_getElem (by omega)
    refine ⟨_, _, ?_, h1.trans hys⟩
    rw [add_off, add_off] at hcell
    rw [hcell, hv]
end
theorem VecAt.le {lo hi : Nat} {w : World} {d d' : Nat} (h : d ≤ d') {v : Vec} {val : Value} (hv : VecAt lo hi w d v val) : VecAt lo hi w d' v val := by
  induction h with
  | refl => exact hv
  | step _ ih => exact VecAt.more _ _ _ ih
theorem Fits.more : ∀ (d : Nat) (v : Vec), Fits d v → Fits (d + 1) v
  | 0, _, h => h.elim
  | d + 1, .mk _ _ _ _ _ _ _ _, h => by
    unfold Fits at h ⊢
    obtain ⟨h1, h2, h3, h4, h5, h6, h7, h8, h9, h10, h11, h12, h13⟩ := h
    exact ⟨h1, h2, h3, h4, h5, h6, h7, h8, h9, h10, h11, h12, fun p hp => Fits.more d p (h13 p hp)⟩
theorem Fits.le {d d' : Nat} (h : d ≤ d') {v : Vec} (hv : Fits d v) : Fits d' v := by
  induction h with
  | refl => exact hv
  | step _ ih => exact Fits.more _ _ ih

section
variable {H : Type} {enc : TypeId × Value → H} {W : World} {base : Nat} {sp : Nat → Bool} {held : Bool}
theorem slice_form {P : Program} {t e : TypeId} {fuel : Nat} {v : Value} {x : DataW H × List MemPlace} (ht : P.underlying t = some (.slice e)) (h : DataW.trod enc P W base sp held fuel t [v] = some x) : ∃ a n cap, v = .slice a n cap ∧ n ≤ cap := by
  rcases DataW.trod_slice ht h with ⟨h0, _⟩ | ⟨ad, len', cap', elems, rest, n, hn, hcs, _, hb, hl, _⟩
  · simp only [List.cons.injEq, and_true] at h0; exact ⟨_, _, _, h0, Nat.le_refl _⟩
  · simp only [List.cons.injEq, and_true] at hcs; exact ⟨_, _, _, hcs, hl⟩
theorem texts_in {fuel : Nat} {v : Value} {x : DataW H × List MemPlace} (h : DataW.trod enc Tryd.prog W base sp held fuel 24 [v] = some x) :
    ∃ (l : List ByteArray) (a : Option Addr) (cap : Nat), v = .slice a l.length cap ∧ TextsAt 0 W.heap.size W a l ∧ l.length ≤ maxLen ∧ (∀ s ∈ l, s.size ≤ maxLen) ∧ l.length ≤ cap := by
  obtain ⟨a, n, cap, rfl, hcap⟩ := slice_form Tryd.underlying24 h
  obtain ⟨f, hf, hn, hs⟩ := strs_in (a := a) (n := n) (cap := cap) h
  refine ⟨(List.range n).map f, a, cap, by simp, fun i x hx => ?_, by simpa using hn, fun s hs' => ?_, by simpa using hcap⟩
  · obtain ⟨hi, rfl⟩ := List.getElem?_eq_some_iff.1 hx
    obtain ⟨b, off, e, hb, hc⟩ := hf i (by simpa using hi)
    exact ⟨b, off, e, Nat.zero_le _, hb, by simpa using hc⟩
  · obtain ⟨i, _, rfl⟩ := List.mem_map.1 hs'
    exact hs i
theorem items_in {fuel : Nat} {v : Value} {x : DataW H × List MemPlace} (h : DataW.trod enc Tryd.prog W base sp held fuel 22 [v] = some x) :
    ∃ (l : List It) (a : Option Addr) (cap : Nat), v = .slice a l.length cap ∧ ItemsAt 0 W.heap.size W a l ∧ l.length ≤ maxLen ∧ (∀ x ∈ l, (-9223372036854775808 ≤ x.n ∧ x.n ≤ 9223372036854775807) ∧ (-9223372036854775808 ≤ x.d ∧ x.d ≤ 9223372036854775807) ∧ x.t.size ≤ maxLen) ∧ l.length ≤ cap := by
  obtain ⟨a, n, cap, rfl, hcap⟩ := slice_form Tryd.underlying22 h
  obtain ⟨hn, hi⟩ := open_structs Tryd.underlying22 Tryd.underlying66 (by kernel_rfl) (by kernel_rfl) (by decide) h
  obtain ⟨l, hl, hp⟩ := list_of (fun i (x : It) => ∃ b off, a = some ⟨b, off, none⟩ ∧ b < W.heap.size ∧ W.cell? ⟨b, off + i * 3, none⟩ = some (.int .i64 x.n) ∧ W.cell? ⟨b, off + i * 3 + 1, none⟩ = some (.int .i64 x.d) ∧ W.cell? ⟨b, off + i * 3 + 2, none⟩ = some (.string x.t) ∧ InB x) n (by
    intro i hin
    obtain ⟨b, o, m, hm, ha, hb, hf⟩ := hi i hin
    obtain ⟨v0, y0, c0, t0⟩ := hf 0 _ rfl
    obtain ⟨v1, y1, c1, t1⟩ := hf 1 _ rfl
    obtain ⟨v2, y2, c2, t2⟩ := hf 2 _ rfl
    obtain ⟨n0, e0, _, b0⟩ := DataW.trod_int Tryd.underlying3 t0
    obtain ⟨n1, e1, _, b1⟩ := DataW.trod_int Tryd.underlying3 t1
    obtain ⟨s, e2, _, b2⟩ := DataW.trod_string Tryd.underlying9 t2
    simp at e0 e1 e2
    subst e0 e1 e2
    exact ⟨⟨n0, n1, s⟩, b, o, ha, hb, c0, c1, c2, bounds_i64 b0, bounds_i64 b1, b2⟩)
  subst hl
  refine ⟨l, a, cap, rfl, fun i x hx => ?_, hn, fun x hx => ?_, hcap⟩
  · obtain ⟨b, off, e, hb, c0, c1, c2, _⟩ := hp i x hx
    exact ⟨b, off, e, Nat.zero_le _, hb, c0, c1, c2⟩
  · obtain ⟨i, hi'⟩ := List.getElem?_of_mem hx
    obtain ⟨_, _, _, _, _, _, _, hb⟩ := hp i x hi'
    exact hb
/-- A vector that came in, by its fields. -/
theorem vec_fields : ∀ (fuel : Nat) (c0 c1 c2 c3 c4 c5 c6 c7 : Value) (y0 y1 y2 y3 y4 y5 y6 y7 : DataW H × List MemPlace), DataW.trod enc Tryd.prog W base sp held fuel 3 [c0] = some y0 → DataW.trod enc Tryd.prog W base sp held fuel 22 [c1] = some y1 →
    DataW.trod enc Tryd.prog W base sp held fuel 23 [c2] = some y2 → DataW.trod enc Tryd.prog W base sp held fuel 24 [c3] = some y3 → DataW.trod enc Tryd.prog W base sp held fuel 24 [c4] = some y4 → DataW.trod enc Tryd.prog W base sp held fuel 24 [c5] = some y5 →
    DataW.trod enc Tryd.prog W base sp held fuel 3 [c6] = some y6 → DataW.trod enc Tryd.prog W base sp held fuel 3 [c7] = some y7 →
    ∃ v, VecAt 0 W.heap.size W (fuel + 1) v (.agg #[c0, c1, c2, c3, c4, c5, c6, c7]) ∧ Fits (fuel + 1) v := by
  intro fuel
  induction fuel using Nat.strongRecOn with
  | ind fuel IH =>
    intro c0 c1 c2 c3 c4 c5 c6 c7 y0 y1 y2 y3 y4 y5 y6 y7 t0 t1 t2 t3 t4 t5 t6 t7
    obtain ⟨kk, e0, _, b0⟩ := DataW.trod_int Tryd.underlying3 t0
    obtain ⟨code, e6, _, b6⟩ := DataW.trod_int Tryd.underlying3 t6
    obtain ⟨env, e7, _, b7⟩ := DataW.trod_int Tryd.underlying3 t7
    simp at e0 e6 e7
    subst e0 e6 e7
    obtain ⟨items, ai, ci, rfl, hI, hIn, hIb, qI⟩ := items_in t1
    obtain ⟨names, an, cn, rfl, hN, hNn, hNb, qN⟩ := texts_in t3
    obtain ⟨cls, ac, cc, rfl, hC, hCn, hCb, qC⟩ := texts_in t4
    obtain ⟨levels, al, cl, rfl, hL, hLn, hLb, qL⟩ := texts_in t5
    obtain ⟨ap, n, cp, rfl, qP⟩ := slice_form Tryd.underlying23 t2
    obtain ⟨hn, hi⟩ := open_structs Tryd.underlying23 Tryd.underlying26 (by kernel_rfl) (by kernel_rfl) (by decide) t2
    obtain ⟨parts, hl, hp⟩ := list_of (fun i (p : Vec) => (∃ b off u0 u1 u2 u3 u4 u5 u6 u7, ap = some ⟨b, off, none⟩ ∧ 0 ≤ b ∧ b < W.heap.size ∧ VecAt 0 W.heap.size W fuel p (.agg #[u0, u1, u2, u3, u4, u5, u6, u7]) ∧
        W.cell? ⟨b, off + i * 8, none⟩ = some u0 ∧ W.cell? ⟨b, off + i * 8 + 1, none⟩ = some u1 ∧ W.cell? ⟨b, off + i * 8 + 2, none⟩ = some u2 ∧ W.cell? ⟨b, off + i * 8 + 3, none⟩ = some u3 ∧ W.cell? ⟨b, off + i * 8 + 4, none⟩ = some u4 ∧ W.cell? ⟨b, off + i * 8 + 5, none⟩ = some u5 ∧ W.cell? ⟨b, off + i * 8 + 6, none⟩ = some u6 ∧ W.cell? ⟨b, off + i * 8 + 7, none⟩ = some u7) ∧ Fits fuel p) n (by
      intro i hin
      obtain ⟨b, o, m, hm, ha, hb, hf⟩ := hi i hin
      obtain ⟨v0, z0, q0, s0⟩ := hf 0 _ rfl
      obtain ⟨v1, z1, q1, s1⟩ := hf 1 _ rfl
      obtain ⟨v2, z2, q2, s2⟩ := hf 2 _ rfl
      obtain ⟨v3, z3, q3, s3⟩ := hf 3 _ rfl
      obtain ⟨v4, z4, q4, s4⟩ := hf 4 _ rfl
      obtain ⟨v5, z5, q5, s5⟩ := hf 5 _ rfl
      obtain ⟨v6, z6, q6, s6⟩ := hf 6 _ rfl
      obtain ⟨v7, z7, q7, s7⟩ := hf 7 _ rfl
      obtain ⟨v, hv, hfit⟩ := IH m hm v0 v1 v2 v3 v4 v5 v6 v7 _ _ _ _ _ _ _ _ s0 s1 s2 s3 s4 s5 s6 s7
      exact ⟨v, ⟨b, o, v0, v1, v2, v3, v4, v5, v6, v7, ha, Nat.zero_le _, hb, hv.le (by omega), q0, q1, q2, q3, q4, q5, q6, q7⟩, hfit.le (by omega)⟩)
    subst hl
    refine ⟨.mk kk items parts names cls levels code env, vecAt_mk hI hN hC hL (fun i p hp' => (hp i p hp').1) ⟨qI, qP, qN, qC, qL⟩, ?_⟩
    unfold Fits
    refine ⟨bounds_i64 b0, bounds_i64 b6, bounds_i64 b7, hIn, hn, hNn, hCn, hLn, hIb, hNb, hCb, hLb, fun p hp' => ?_⟩
    obtain ⟨i, hi'⟩ := List.getElem?_of_mem hp'
    exact (hp i p hi').2
end
end Go.Proofs.YtddebgmjolojeaaDoor

/- What is owned at a depth is owned at every greater one. -/
namespace Go.Proofs.YtddebgmjolojeaaDoor
open Go.RowKit
set_option maxRecDepth 100000
set_option linter.unusedVariables false

/-! What is owned at a depth is owned at every greater one. -/
theorem OwnVec.more : ∀ {w : World} (d : Nat) (v : Vec) (y : Value) (F : List Nat), OwnVec w d v y F → OwnVec w (d + 1) v y F
  | _, 0, _, _, _, h => by unfold OwnVec at h; exact h.elim
  | w, d + 1, .mk k items parts names cls levels code env, y, F, h => by
    unfold OwnVec at h ⊢
    obtain ⟨ai, ci, ap, cp, an, cn, ac, cc, al, cl, Fi, Fp, Fn, Fc, Fl, e, eF, hc, hI, hN, hC, hL, hP⟩ := h
    refine ⟨ai, ci, ap, cp, an, cn, ac, cc, al, cl, Fi, Fp, Fn, Fc, Fl, e, eF, hc, hI, hN, hC, hL, hP.imp id ?_⟩
    rintro ⟨b, C, Fs, e1, e2, e3, hb, hs, hp⟩
    refine ⟨b, C, Fs, e1, e2, e3, hb, hs, fun i hi => ?_⟩
    obtain ⟨val, ho, h8⟩ := hp i hi
    exact ⟨val, OwnVec.more d _ _ _ ho, h8⟩
theorem Own.le {d d' : Nat} (h : d ≤ d') {v : Vec} {y : Value} {lo hi : Nat} {w : World} (ho : Own d v y lo hi w) : Own d' v y lo hi w := by
  induction h with
  | refl => exact ho
  | step _ ih =>
    obtain ⟨F, q1, q2, q3⟩ := ih.out
    exact ⟨F, OwnVec.more _ _ _ _ q1, q2, q3⟩
end Go.Proofs.YtddebgmjolojeaaDoor

/- The reference's copies of vectors. -/
namespace Go.Proofs.YtddebgmjolojeaaDoor
set_option maxRecDepth 100000
open Go.RowKit
set_option linter.unusedVariables false
theorem RowV.start0 (w : World) (d : Nat) (parts : List Vec) : RowV w (w.alloc (.cells #[] 31)) d parts 0 (.slice (some ⟨w.heap.size, 0, none⟩) 0 0) :=
  ⟨⟨[], [], rfl, rfl, ⟨rfl, .inr ⟨w.heap.size, 0, #[], rfl, Nat.le_refl _, blk_new w _ rfl, Nat.le_refl _, Nat.zero_le _, rfl, rfl⟩⟩, fun i h => absurd h (Nat.not_lt_zero _), List.nodup_nil, fun b h => by cases h⟩, below1 w _⟩
set_option maxHeartbeats 4000000 in
theorem scpStep (d : Nat) (IC : SCV d) : SCP d := by
  refine ⟨fun parts a cap lo hi w hs hhi hsm hall hn => ?_⟩
  have A := Lib.hid (fun (k : Nat) (w1 : World) (hk : k < parts.length) (hb : Below w.heap.size w w1) => (hs.below hb hhi).at_ hk)
  have C := Lib.hid (fun (k : Nat) (w1 : World) (x : Value) (hk : k < parts.length) (hb : Below w.heap.size w w1) (hv : VecAt lo hi w1 d (parts.getD k noV) x) => IC.out _ x lo hi w1 hv (Nat.le_trans hhi hb.size) (hsm k hk) (hall k hk).2 (by have := (hall k hk).1.flat.parts; omega))
  have L := Lib.hid (fun (k : Nat) (w1 : World) (x : Value) (hk : k < parts.length) (hb : Below w.heap.size w w1) (hv : VecAt lo hi w1 d (parts.getD k noV) x) => show Calls Tryd.prog 58 #[x, .int .i64 3] w1 (fun e w' => e = .returned (.bool true) ∧ Below w1.heap.size w1 w') from ((sIsAll 3 (Nat.le_refl _)).out d _ x lo hi w1 hv (Nat.le_trans hhi hb.size) (hsm k hk)).mono (fun e w' h => by rw [bB_yes (hall k hk).1] at h; exact h))
  have FIN := Lib.hid (fun (wr : World) (v : Value) (h : RowV w wr d parts parts.length v) => h.parts)
  clear hs hsm IC hall
  obtain ⟨n, hn'⟩ : ∃ n, parts.length = n := ⟨_, rfl⟩
  have HNn := Lib.hid hn'
  rw [hn'] at hn A C L FIN ⊢
  clear hn'
  obtain ⟨i0, hi0, hz0, hz1, hz2⟩ := info_parts infoVec8
  go_enter Tryd.func61, Tryd.ntmps61
  go_wp2
  go_loopw [3, 4] (fun v i wr => ∃ k : Nat, k ≤ n ∧ i = .int .i64 k ∧ RowV w wr d parts k v) (fun _ i _ => n - (intOf i).toNat)
  case atStart => exact ⟨0, Nat.zero_le _, rfl, RowV.start0 w d parts⟩
  case round =>
    obtain ⟨k, hk, rfl, hr⟩ := hrel
    have RV := Lib.hid hr
    clear hr
    by_cases hlt : k < n
    · have h40 : k ≤ 40 := by omega
      obtain ⟨b, off, p0, p1, p2, p3, p4, p5, p6, p7, rfl, hbB, hv, c0, c1, c2, c3, c4, c5, c6, c7⟩ := A.out _ _ hlt RV.out.below
      have HV := Lib.hid hv
      clear hv
      go_wp2_with fail
      refine (L.out _ _ _ hlt RV.out.below HV.out).mono ?_
      rintro e wi ⟨rfl, hbi⟩
      have RV := Lib.hid (RV.out.keep hbi)
      clear hbi HV c0 c1 c2 c3 c4 c5 c6 c7 hbB
      obtain ⟨b', off', u0, u1, u2, u3, u4, u5, u6, u7, e', hbB, hv, c0, c1, c2, c3, c4, c5, c6, c7⟩ := A.out _ _ hlt RV.out.below
      simp only [Option.some.injEq, Addr.mk.injEq, and_true] at e'
      obtain ⟨rfl, rfl⟩ := e'
      have HV := Lib.hid hv
      clear hv
      go_wp2_with fail
      refine (C.out _ _ _ hlt RV.out.below HV.out).mono ?_
      rintro e w2 ⟨y, rfl, ho, hb⟩
      obtain ⟨yk, ya1, yn1, ym1, ya2, yn2, ym2, ya3, yn3, ym3, ya4, yn4, ym4, ya5, yn5, ym5, yc, ye, rfl⟩ := ho.agg
      have HO := Lib.hid ho
      have BW := Lib.hid hb
      obtain ⟨xs, hxs⟩ := RV.out.row
      have XS := Lib.hid hxs
      have OR := Lib.hid (ownsRow_below (ownsRow_below hxs BW.out) (below1 w2 (.cells #[.int .i64 yk, .slice ya1 yn1 ym1, .slice ya2 yn2 ym2, .slice ya3 yn3 ym3, .slice ya4 yn4 ym4, .slice ya5 yn5 ym5, .int .i64 yc, .int .i64 ye] 31)))
      have S1 := Lib.hid (show w.heap.size ≤ w2.heap.size from (below_then RV.out.below BW.out).size)
      clear ho hb hxs c0 c1 c2 c3 c4 c5 c6 c7
      go_wp2_with (at_builtin; refine wpList_append_own_at _ rfl _ _ 29 rfl w.heap.size 31 i0 _ 8 144 Tryd.underlying29 hi0 hz0 hz1 hz2 rfl (by decide) _ k xs rfl OR.out ⟨w2.heap.size, 0, none⟩ 1 1 [.int .i64 yk, .slice ya1 yn1 ym1, .slice ya2 yn2 ym2, .slice ya3 yn3 ym3, .slice ya4 yn4 ym4, .slice ya5 yn5 ym5, .int .i64 yc, .int .i64 ye] rfl rfl ?c1 ?c2 ?c3 ?c4 ?c5 ?_)
      case c1 =>
        intro j u hj
        have hlt : j < 8 := by have := (List.getElem?_eq_some_iff.1 hj).1; simpa using this
        rw [addr_add, Nat.zero_add]
        refine cellOf (blk_new w2 _ rfl) ?_
        rw [← hj]
        rcases (show j = 0 ∨ j = 1 ∨ j = 2 ∨ j = 3 ∨ j = 4 ∨ j = 5 ∨ j = 6 ∨ j = 7 by omega) with rfl | rfl | rfl | rfl | rfl | rfl | rfl | rfl <;> rfl
      case c2 => intro u hu; simp only [List.mem_cons, List.not_mem_nil, or_false] at hu; rcases hu with rfl | rfl | rfl | rfl | rfl | rfl | rfl | rfl <;> rfl
      case c3 => unfold maxLen; omega
      case c4 => omega
      case c5 => have := S1.out; simp; omega
      intro v' w3 hown' hgrow _ hwh
      have NX := Lib.hid (RV.out.next HO.out (by simp) BW.out hgrow (fun ys hy => ownsRow_same XS.out hy ▸ hown') (by simpa using hwh))
      clear hown' hgrow hwh
      go_wp2
      go_roundw
      case rel => exact ⟨k + 1, by omega, by go_num, NX.out⟩
      case measure => simp [intOf]; omega
    · obtain rfl : k = n := by omega
      go_wp2
      obtain ⟨F, h1, h2, h3⟩ := FIN.out _ _ RV.out
      go_ret
      exact ⟨_, F, rfl, h1, h2, h3, RV.out.below, by rw [HNn.out]; exact RV.out.row⟩
theorem scvZero : SCV 0 := ⟨fun _ _ _ _ _ h => h.elim⟩
theorem scvAll : ∀ d, SCV d
  | 0 => scvZero
  | d + 1 => scvStep d (scpStep d (scvAll d))
theorem scpAll (d : Nat) : SCP d := scpStep d (scvAll d)
end Go.Proofs.YtddebgmjolojeaaDoor

/- Parts appended to a vector under way; all parts of a valid vector, however deep, are vectors. -/
namespace Go.Proofs.YtddebgmjolojeaaDoor
open Go.RowKit
set_option maxRecDepth 100000
set_option linter.unusedVariables false

theorem isV_up : ∀ (n : Nat) (v : Vec), IsV n v → IsV (n + 1) v
  | 0, v, h => ⟨h.1, fun i hi => by have := h.2; omega⟩
  | n + 1, v, h => ⟨h.1, fun i hi => isV_up n _ (h.2 i hi)⟩
theorem isV_three {n : Nat} {v : Vec} (hn : n ≤ 3) (h : IsV n v) : IsV 3 v := by
  rcases (show n = 0 ∨ n = 1 ∨ n = 2 ∨ n = 3 by omega) with rfl | rfl | rfl | rfl
  · exact isV_up _ _ (isV_up _ _ (isV_up _ _ h))
  · exact isV_up _ _ (isV_up _ _ h)
  · exact isV_up _ _ h
  · exact h
theorem allIs_of : ∀ (d n : Nat) (v : Vec), n ≤ 3 → IsV n v → AllIs d v
  | 0, _, _, _, _ => trivial
  | d + 1, 0, v, _, h => fun i hi => by have := h.2; omega
  | d + 1, n + 1, v, hn, h => fun i hi => ⟨isV_three (by omega) (h.2 i hi), allIs_of d n _ (by omega) (h.2 i hi)⟩
theorem part_is {v : Vec} (h : IsV 3 v) (d i : Nat) (hi : i < (partsV v).length) : AllIs d ((partsV v).getD i noV) ∧ (partsV ((partsV v).getD i noV)).length ≤ 41 ∧ IsV 2 ((partsV v).getD i noV) := by
  have h2 := h.2 i hi
  exact ⟨allIs_of d 2 _ (by omega) h2, by have := h2.flat.parts; omega, h2⟩
section
variable {ops : Array Oper} {Q : Exit → Act → World → Prop} {S : World → Prop} {w0 : World} {L : List (Nat × TypeId × Array Value)}
variable {r : List (Nat × Bool)} {a : Act} {e : List (Nat × Value)} {w : World} {i d : Nat} {g : Option (Nat × Bool)} {v : Value}
end
end Go.Proofs.YtddebgmjolojeaaDoor

/- The end of a region that appends one element to a field, and where the new slice lies. -/
namespace Go.Proofs.YtddebgmjolojeaaDoor
open Go.RowKit
set_option maxRecDepth 100000
set_option linter.unusedVariables false

section
variable {P : Program} {ops : Array Oper} {Q : Exit → Act → World → Prop} {S : World → Prop}
variable {r : List (Nat × Bool)} {a : Act} {e : List (Nat × Value)} {w : World} {i d : Nat} {g : Option (Nat × Bool)} {v : Value}
/-- An append onto a row of the call's own, and where the new slice lies. -/
theorem run_appAt {t el : TypeId} {x y : Operand} {v0 : Value} (ho : opAt ops i = some (some d, .call { callee := .builtin .append, args := [x, y].toArray, argTypes := [t, t].toArray }, g)) (hd : Nat.blt d a.tmps.size = true) (hw : wantE ops a e g = some true)
    (hx : lookO a e x = v0) (ad : Addr) (m c : Nat) (hy : lookO a e y = .slice (some ad) m c)
    (base : Nat) (ie : TypeInfo) (z : Value) (size bytes : Nat) (ht : P.underlying t = some (.slice el)) (hi : P.info? el = some ie) (hz : ie.zero = some z) (hsize : ie.size = size) (hby : ie.bytes = bytes) (hzs : z.cells.size = size) (hsz : 0 < size)
    (n : Nat) (xs : List Value) (hown : w.ownsRow base el size v0 n xs) (news : List Value) (hl : news.length = m * size) (hnews : ∀ j u, news[j]? = some u → w.cell? (ad.add j) = some u) (h1 : ∀ u ∈ news, u.oneCell' = true)
    (h63 : n + m ≤ maxLen) (hbytes : (n + m) * bytes ≤ 140737488355328) (hbase : base ≤ w.heap.size)
    (h : ∀ v' w', w'.ownsRow base el size v' (n + m) (xs ++ news) → w.grownBy w' v0.ownBlock → (v'.ownBlock = v0.ownBlock ∨ v'.ownBlock = some w.heap.size) → S w' ∧ RunE P ops Q S r a ((d, v') :: e) w') : RunE P ops Q S ((i, false) :: r) a e w := by
  refine ⟨fun hk => ?_⟩
  obtain ⟨o, hi', k1, k2, k3⟩ := opAt_spec ho
  show wpOp P ops Q i (fun a' w' => (lastK ops i = true ∨ S w') ∧ seqH P ops Q S r a' w') (putAll a e) w
  unfold wpOp
  simp only [hi', if_pos (wantE_spec hk (by rw [k3]; exact hw))]
  left
  unfold Oper.wp
  rw [eval_putAll a e hk]
  obtain ⟨v', w', hr, h2, h3, _, h4⟩ := run_append_own_at (P := P) w base t o.type el ie z size bytes ht hi hz hsize hby hzs hsz v0 n xs hown ad m c news hl hnews h1 h63 hbytes hbase
  obtain ⟨hS, hR⟩ := h v' w' h2 h3 h4
  unfold execOp
  simp only [k2, resolve, invoke, builtin, Sem.run_bind, Sem.run_pure, Result.andThen_ok, List.map_toArray, List.map_cons, List.map_nil, hx, hy, hr]
  simp only [Oper.upon]
  rw [k1]
  exact ⟨.inr hS, hR.out (keysIn_cons hd hk)⟩
end
theorem store_strs {w : World} {p : Addr} {s : Option Addr} {n c : Nat} (h : ∃ x, w.cell? p = some x) (hf : w.frozen? p = false) : (Instr.storeAt 24 (.pointer (some p)) (.slice s n c)).run Tryd.prog w = .ok () (w.setCell p (.slice s n c)) := by
  obtain ⟨x, hx⟩ := h
  simp [Instr.storeAt, go_sem, hx, hf]
theorem store_vecs {w : World} {p : Addr} {s : Option Addr} {n c : Nat} (h : ∃ x, w.cell? p = some x) (hf : w.frozen? p = false) : (Instr.storeAt 29 (.pointer (some p)) (.slice s n c)).run Tryd.prog w = .ok () (w.setCell p (.slice s n c)) := by
  obtain ⟨x, hx⟩ := h
  simp [Instr.storeAt, go_sem, hx, hf]
theorem fill_txt (z : ByteArray) : Instr.fill (fun i => some (i * 1, 1)) ((Array.range (1 * 1)).map ((Value.string ⟨#[]⟩).cells[· % (Value.string ⟨#[]⟩).cells.size]!)) [(0, .string z)] = some #[.string z] := by
  have h := Great.fill_whole (s := 1) (by decide) [.string z] ((Array.range (1 * 1)).map ((Value.string ⟨#[]⟩).cells[· % (Value.string ⟨#[]⟩).cells.size]!)) (fun v hv => by obtain rfl := List.mem_singleton.1 hv; rfl) (by simp)
  exact h
theorem fill_vec (c0 c1 c2 c3 c4 c5 c6 c7 : Value) : Instr.fill (fun i => some (i * 8, 8)) ((Array.range (1 * 8)).map ((Value.agg #[.int .i64 0, .slice none 0 0, .slice none 0 0, .slice none 0 0, .slice none 0 0, .slice none 0 0, .int .i64 0, .int .i64 0]).cells[· % (Value.agg #[.int .i64 0, .slice none 0 0, .slice none 0 0, .slice none 0 0, .slice none 0 0, .slice none 0 0, .int .i64 0, .int .i64 0]).cells.size]!)) [(0, .agg #[c0, c1, c2, c3, c4, c5, c6, c7])] = some #[c0, c1, c2, c3, c4, c5, c6, c7] := by
  have h := Great.fill_whole (s := 8) (by decide) [.agg #[c0, c1, c2, c3, c4, c5, c6, c7]] ((Array.range (1 * 8)).map ((Value.agg #[.int .i64 0, .slice none 0 0, .slice none 0 0, .slice none 0 0, .slice none 0 0, .slice none 0 0, .int .i64 0, .int .i64 0]).cells[· % (Value.agg #[.int .i64 0, .slice none 0 0, .slice none 0 0, .slice none 0 0, .slice none 0 0, .slice none 0 0, .int .i64 0, .int .i64 0]).cells.size]!)) (fun v hv => by obtain rfl := List.mem_singleton.1 hv; rfl) (by simp)
  exact h
theorem tail_txs3 {ops : Array Oper} {Q : Exit → Act → World → Prop} {a : Act} {e : List (Nat × Value)} {w0 w1 : World} {L : List (Nat × TypeId × Array Value)} {i1 i2 i3 i4 d1 d2 d4 b j base : Nat} {x s p : Operand} {v0 c : Value} {C : Array Value} {tt : TypeId} (z : ByteArray) {l : List ByteArray}
    (ho1 : opAt ops i1 = some (some d1, .buildSlice 24 1 #[(0, x)], none)) (hd1 : Nat.blt d1 a.tmps.size = true) (hx : lookO a e x = .string z)
    (ho2 : opAt ops i2 = some (some d2, .call { callee := .builtin .append, args := [s, .tmp d1].toArray, argTypes := [24, 24].toArray }, none)) (hd2 : Nat.blt d2 a.tmps.size = true) (hs : ∀ u, lookO a ((d1, u) :: e) s = v0)
    (ho4 : opAt ops i4 = some (some d4, .fieldAddr 31 p j, none)) (hd4 : Nat.blt d4 a.tmps.size = true) (hf : Nat.blt j 8 = true) (hp : ∀ u u', lookO a ((d2, u') :: (d1, u) :: e) p = .pointer (some ⟨b, 0, none⟩))
    (ho3 : opAt ops i3 = some (none, .store 24 (.tmp d4) (.tmp d2), none)) (hl : lastK ops i3 = true) (hne : Nat.beq d4 d2 = false)
    (H : HeldC w0 w1 L) (hown : w1.ownsRow base 9 1 v0 l.length (l.map Value.string)) (hn : l.length ≤ 1048576) (hbase : base ≤ w1.heap.size) (hw0 : w0.heap.size ≤ base) (m : (b, tt, C) ∈ L) (hj : C[j]? = some c) (hb : b < base) (hb0 : w0.heap.size ≤ b)
    (hL : ∀ q ∈ L, ∀ k, v0.ownBlock = some k → q.1 ≠ k)
    (h : ∀ v' W, (∃ sa n c, v' = .slice sa n c) → W.heap[b]? = some (.cells (C.setIfInBounds j v') tt (0, 0)) → W.ownsRow base 9 1 v' (l ++ [z]).length ((l ++ [z]).map Value.string) → Below w0.heap.size w0 W → w1.heap.size ≤ W.heap.size →
      Moved w1 v0 v' → (∀ g, g < w1.heap.size → g ≠ b → v0.ownBlock ≠ some g → W.heap[g]? = w1.heap[g]?) → Q .normal (putAll a ((d4, .pointer (some ⟨b, j, none⟩)) :: (d2, v') :: (d1, .slice (some ⟨w1.heap.size, 0, none⟩) 1 1) :: e)) W) :
    RunE Tryd.prog ops Q (fun w' => HeldC w0 w' L) [(i1, false), (i2, false), (i4, true), (i3, false)] a e w1 := by
  obtain ⟨ie, hie, hz, hsz, hby⟩ := info_parts infoStr
  obtain ⟨W1, hW1⟩ : ∃ W, w1.alloc (.cells #[.string z] 9) = W := ⟨_, rfl⟩
  have H1 : HeldC w0 W1 L := hW1 ▸ heldC_alloc H _
  have hK : W1.heap[w1.heap.size]? = some (.cells #[.string z] 9 (0, 0)) := hW1 ▸ blk_new w1 _ rfl
  have hO : W1.ownsRow base 9 1 v0 l.length (l.map Value.string) := hW1 ▸ ownsRow_below hown (below1 w1 _)
  have hS1 : w1.heap.size + 1 = W1.heap.size := by rw [← hW1]; simp
  have hE : ∀ g, g < w1.heap.size → W1.heap[g]? = w1.heap[g]? := fun g hg => hW1 ▸ (below1 w1 _).block g hg
  refine run_build ho1 hd1 rfl hx Tryd.underlying24 hie hz (by rw [hsz]; decide) (by rw [hsz]; decide) (by rw [hsz]; exact fill_txt z) (by rw [hW1]; exact H1) ?_
  rw [hW1]
  refine run_appAt ho2 hd2 rfl (hs _) ⟨w1.heap.size, 0, none⟩ 1 1 (look_new _ _) base ie _ 1 16 Tryd.underlying24 hie hz hsz hby rfl (by decide) (l.length) (l.map Value.string) hO [.string z] rfl (fun q u hq => ?_) (fun u hu => ?_) (by unfold maxLen; omega) (by omega) (by omega) (fun v' W2 hO2 hg2 hwh => ?_)
  · rw [addr_add, Nat.zero_add]
    refine cellOf hK ?_
    rw [← hq]
    have hlt : q < 1 := by have := (List.getElem?_eq_some_iff.1 hq).1; simpa using this
    obtain rfl : q = 0 := by omega
    rfl
  · simp only [List.mem_cons, List.not_mem_nil, or_false] at hu
    rcases hu with rfl <;> rfl
  have H2 : HeldC w0 W2 L := heldC_grown H1 hg2 (fun k hk => ⟨by have := (hO.lt k hk).1; omega, fun q hq => hL q hq k hk⟩)
  have hv : ∃ sa n c, v' = .slice sa n c := by
    obtain ⟨_, h | ⟨g, cap, cur, e, _⟩⟩ := hO2
    · exact ⟨_, _, _, h.1⟩
    · exact ⟨_, _, _, e⟩
  obtain ⟨sa, n, c', rfl⟩ := hv
  refine ⟨H2, runC_partV hf ho4 hd4 rfl (hp _ _) (run_last_field hl ho3 rfl store_strs (look_new _ _) (look_next hne) (heldC_at H2 m) hj (fun W3 hW3 => run_done (h _ W3 ⟨_, _, _, rfl⟩ ?_ ?_ ?_ ?_ ?_ ?_)))⟩
  · subst hW3; exact Joins.block_setCell (heldC_at H2 m) _
  · subst hW3; have h5 := ownsRow_set (j := j) (u := .slice sa n c') hO2 hb; rw [show (l ++ [z]).length = l.length + 1 by simp, List.map_append]; exact h5
  · subst hW3; exact H2.1.setCell (p := ⟨b, j, none⟩) hb0 _
  · subst hW3; have := hg2.size; simp; omega
  · rcases hwh with e | e
    · exact .inl e
    · exact .inr ⟨_, e, by omega⟩
  · intro g hg hne hk; subst hW3; rw [Below.heap_setCell _ _ _ _ hne, hg2.block g (by omega) (fun e => hk (by rw [← e])), hE g hg]
theorem tail_vec3 {ops : Array Oper} {Q : Exit → Act → World → Prop} {a : Act} {e : List (Nat × Value)} {w0 w1 : World} {L : List (Nat × TypeId × Array Value)} {i1 i2 i3 i4 d1 d2 d4 b j base : Nat} {x s p : Operand} {v0 c : Value} {C : Array Value} {tt : TypeId} {c0 c1 c2 c3 c4 c5 c6 c7 : Value} (HC : ∀ u ∈ [c0, c1, c2, c3, c4, c5, c6, c7], u.oneCell' = true) {n : Nat} {xs : List Value}
    (ho1 : opAt ops i1 = some (some d1, .buildSlice 29 1 #[(0, x)], none)) (hd1 : Nat.blt d1 a.tmps.size = true) (hx : lookO a e x = .agg #[c0, c1, c2, c3, c4, c5, c6, c7])
    (ho2 : opAt ops i2 = some (some d2, .call { callee := .builtin .append, args := [s, .tmp d1].toArray, argTypes := [29, 29].toArray }, none)) (hd2 : Nat.blt d2 a.tmps.size = true) (hs : ∀ u, lookO a ((d1, u) :: e) s = v0)
    (ho4 : opAt ops i4 = some (some d4, .fieldAddr 31 p j, none)) (hd4 : Nat.blt d4 a.tmps.size = true) (hf : Nat.blt j 8 = true) (hp : ∀ u u', lookO a ((d2, u') :: (d1, u) :: e) p = .pointer (some ⟨b, 0, none⟩))
    (ho3 : opAt ops i3 = some (none, .store 29 (.tmp d4) (.tmp d2), none)) (hl : lastK ops i3 = true) (hne : Nat.beq d4 d2 = false)
    (H : HeldC w0 w1 L) (hown : w1.ownsRow base 31 8 v0 n (xs)) (hn : n ≤ 1048576) (hbase : base ≤ w1.heap.size) (hw0 : w0.heap.size ≤ base) (m : (b, tt, C) ∈ L) (hj : C[j]? = some c) (hb : b < base) (hb0 : w0.heap.size ≤ b)
    (hL : ∀ q ∈ L, ∀ k, v0.ownBlock = some k → q.1 ≠ k)
    (h : ∀ v' W, (∃ sa n c, v' = .slice sa n c) → W.heap[b]? = some (.cells (C.setIfInBounds j v') tt (0, 0)) → W.ownsRow base 31 8 v' (n + 1) (xs ++ [c0, c1, c2, c3, c4, c5, c6, c7]) → Below w0.heap.size w0 W → w1.heap.size ≤ W.heap.size →
      Moved w1 v0 v' → (∀ g, g < w1.heap.size → g ≠ b → v0.ownBlock ≠ some g → W.heap[g]? = w1.heap[g]?) → Q .normal (putAll a ((d4, .pointer (some ⟨b, j, none⟩)) :: (d2, v') :: (d1, .slice (some ⟨w1.heap.size, 0, none⟩) 1 1) :: e)) W) :
    RunE Tryd.prog ops Q (fun w' => HeldC w0 w' L) [(i1, false), (i2, false), (i4, true), (i3, false)] a e w1 := by
  obtain ⟨ie, hie, hz, hsz, hby⟩ := info_parts infoVec8
  obtain ⟨W1, hW1⟩ : ∃ W, w1.alloc (.cells #[c0, c1, c2, c3, c4, c5, c6, c7] 31) = W := ⟨_, rfl⟩
  have H1 : HeldC w0 W1 L := hW1 ▸ heldC_alloc H _
  have hK : W1.heap[w1.heap.size]? = some (.cells #[c0, c1, c2, c3, c4, c5, c6, c7] 31 (0, 0)) := hW1 ▸ blk_new w1 _ rfl
  have hO : W1.ownsRow base 31 8 v0 n (xs) := hW1 ▸ ownsRow_below hown (below1 w1 _)
  have hS1 : w1.heap.size + 1 = W1.heap.size := by rw [← hW1]; simp
  have hE : ∀ g, g < w1.heap.size → W1.heap[g]? = w1.heap[g]? := fun g hg => hW1 ▸ (below1 w1 _).block g hg
  refine run_build ho1 hd1 rfl hx Tryd.underlying29 hie hz (by rw [hsz]; decide) (by rw [hsz]; decide) (by rw [hsz]; exact fill_vec _ _ _ _ _ _ _ _) (by rw [hW1]; exact H1) ?_
  rw [hW1]
  refine run_appAt ho2 hd2 rfl (hs _) ⟨w1.heap.size, 0, none⟩ 1 1 (look_new _ _) base ie _ 8 144 Tryd.underlying29 hie hz hsz hby rfl (by decide) (n) (xs) hO [c0, c1, c2, c3, c4, c5, c6, c7] rfl (fun q u hq => ?_) (fun u hu => ?_) (by unfold maxLen; omega) (by omega) (by omega) (fun v' W2 hO2 hg2 hwh => ?_)
  · rw [addr_add, Nat.zero_add]
    refine cellOf hK ?_
    rw [← hq]
    have hlt : q < 8 := by have := (List.getElem?_eq_some_iff.1 hq).1; simpa using this
    rcases (show q = 0 ∨ q = 1 ∨ q = 2 ∨ q = 3 ∨ q = 4 ∨ q = 5 ∨ q = 6 ∨ q = 7 by omega) with rfl | rfl | rfl | rfl | rfl | rfl | rfl | rfl <;> rfl
  · simp only [List.mem_cons, List.not_mem_nil, or_false] at hu
    rcases hu with rfl | rfl | rfl | rfl | rfl | rfl | rfl | rfl <;> exact HC _ (by simp)
  have H2 : HeldC w0 W2 L := heldC_grown H1 hg2 (fun k hk => ⟨by have := (hO.lt k hk).1; omega, fun q hq => hL q hq k hk⟩)
  have hv : ∃ sa n c, v' = .slice sa n c := by
    obtain ⟨_, h | ⟨g, cap, cur, e, _⟩⟩ := hO2
    · exact ⟨_, _, _, h.1⟩
    · exact ⟨_, _, _, e⟩
  obtain ⟨sa, n, c', rfl⟩ := hv
  refine ⟨H2, runC_partV hf ho4 hd4 rfl (hp _ _) (run_last_field hl ho3 rfl store_vecs (look_new _ _) (look_next hne) (heldC_at H2 m) hj (fun W3 hW3 => run_done (h _ W3 ⟨_, _, _, rfl⟩ ?_ ?_ ?_ ?_ ?_ ?_)))⟩
  · subst hW3; exact Joins.block_setCell (heldC_at H2 m) _
  · subst hW3; have h5 := ownsRow_set (j := j) (u := .slice sa n c') hO2 hb; exact h5
  · subst hW3; exact H2.1.setCell (p := ⟨b, j, none⟩) hb0 _
  · subst hW3; have := hg2.size; simp; omega
  · rcases hwh with e | e
    · exact .inl e
    · exact .inr ⟨_, e, by omega⟩
  · intro g hg hne hk; subst hW3; rw [Below.heap_setCell _ _ _ _ hne, hg2.block g (by omega) (fun e => hk (by rw [← e])), hE g hg]
end Go.Proofs.YtddebgmjolojeaaDoor

/- Many elements appended; parts onto a vector under way. -/
namespace Go.Proofs.YtddebgmjolojeaaDoor
open Go.RowKit
set_option maxRecDepth 100000
set_option linter.unusedVariables false

theorem grownM (w : World) (r : Option Nat) : w.grownBy w r := ⟨rfl, rfl, rfl, Nat.le_refl _, fun _ _ _ => rfl⟩
theorem own_oneM {w : World} {d : Nat} {v : Vec} {val : Value} {F : List Nat} (h : OwnVec w d v val F) : ∀ u ∈ cl8 val, u.oneCell' = true := by
  cases d with
  | zero => exact h.elim
  | succ d =>
    obtain ⟨k, items, parts, names, cls, levels, code, env⟩ := v
    unfold OwnVec at h
    obtain ⟨ai, ci, ap, cp, an, cn, ac, cc, al, cl, Fi, Fp, Fn, Fc, Fl, rfl, _, _⟩ := h
    intro u hu
    have hu' : u ∈ ([.int .i64 k, .slice ai items.length ci, .slice ap parts.length cp, .slice an names.length cn, .slice ac cls.length cc, .slice al levels.length cl, .int .i64 code, .int .i64 env] : List Value) := hu
    simp only [List.mem_cons, List.not_mem_nil, or_false] at hu'
    rcases hu' with rfl | rfl | rfl | rfl | rfl | rfl | rfl | rfl <;> rfl
theorem flat_oneM {w : World} {d : Nat} {Q : List Vec} {vals : List Value} {Fs : List (List Nat)} (g1 : vals.length = Q.length) (g4 : ∀ i, i < Q.length → OwnVec w d (Q.getD i noV) (vals.getD i undef) (Fs.getD i [])) : ∀ u ∈ vals.flatMap cl8, u.oneCell' = true := by
  intro u hu
  obtain ⟨val, hv, hu'⟩ := List.mem_flatMap.1 hu
  obtain ⟨i, hi⟩ := List.getElem?_of_mem hv
  have hlt := (List.getElem?_eq_some_iff.1 hi).1
  have h := g4 i (by omega)
  rw [show vals.getD i undef = val by rw [List.getD_eq_getElem?_getD, hi]; rfl] at h
  exact own_oneM h u hu'
theorem RowX.appX {lo : Nat} {w w' : World} {d : Nat} {parts Q : List Vec} {v' : Value} {vals vals2 : List Value} {Fs Fs2 : List (List Nat)} (h1 : vals.length = parts.length) (h2 : Fs.length = parts.length)
    (h4 : ∀ i, i < parts.length → OwnVec w d (parts.getD i noV) (vals.getD i undef) (Fs.getD i [])) (g1 : vals2.length = Q.length) (g2 : Fs2.length = Q.length) (g4 : ∀ i, i < Q.length → OwnVec w' d (Q.getD i noV) (vals2.getD i undef) (Fs2.getD i []))
    (hr : w'.ownsRow lo 31 8 v' (parts.length + Q.length) (vals.flatMap cl8 ++ vals2.flatMap cl8)) (hX : ∀ g ∈ Fs.flatten, w'.heap[g]? = w.heap[g]?) : RowX lo w' d (parts ++ Q) v' (Fs.flatten ++ Fs2.flatten) := by
  have hl : (parts ++ Q).length = parts.length + Q.length := by simp
  refine ⟨vals ++ vals2, Fs ++ Fs2, by simp [h1, g1], by simp [h2, g2], ?_, fun i hi => ?_, by simp⟩
  · rw [hl, List.flatMap_append]
    exact hr
  · rw [hl] at hi
    by_cases e : i < parts.length
    · have e0 : (parts ++ Q).getD i noV = parts.getD i noV := by rw [List.getD_eq_getElem?_getD, List.getD_eq_getElem?_getD, List.getElem?_append_left (by omega)]
      have e1 : (vals ++ vals2).getD i undef = vals.getD i undef := by rw [List.getD_eq_getElem?_getD, List.getD_eq_getElem?_getD, List.getElem?_append_left (by omega)]
      have e2 : (Fs ++ Fs2).getD i [] = Fs.getD i [] := by rw [List.getD_eq_getElem?_getD, List.getD_eq_getElem?_getD, List.getElem?_append_left (by omega)]
      rw [e0, e1, e2]
      exact (h4 i e).kept _ _ _ _ (fun b hb => hX b (mem_flat (by omega) hb))
    · have e0 : (parts ++ Q).getD i noV = Q.getD (i - parts.length) noV := by rw [List.getD_eq_getElem?_getD, List.getD_eq_getElem?_getD, List.getElem?_append_right (by omega)]
      have e1 : (vals ++ vals2).getD i undef = vals2.getD (i - parts.length) undef := by rw [List.getD_eq_getElem?_getD, List.getD_eq_getElem?_getD, List.getElem?_append_right (by omega), h1]
      have e2 : (Fs ++ Fs2).getD i [] = Fs2.getD (i - parts.length) [] := by rw [List.getD_eq_getElem?_getD, List.getD_eq_getElem?_getD, List.getElem?_append_right (by omega), h2]
      rw [e0, e1, e2]
      exact g4 _ (by omega)
section
variable {P : Program} {ops : Array Oper} {Q : Exit → Act → World → Prop} {S : World → Prop}
variable {r : List (Nat × Bool)} {a : Act} {e : List (Nat × Value)} {w : World} {i d : Nat} {g : Option (Nat × Bool)} {v : Value}
end
theorem wpList_appM {P : Program} {w : World} {ops : Array Oper} {rest : List Oper} {o : Oper} {a : Act} {Q : Exit → Act → World → Prop} (hgd : o.guard = none) (s x : Operand) (t : TypeId) {el : TypeId}
    (ho : o.op = .call { callee := .builtin .append, args := #[s, x], argTypes := #[t, t] }) (base : Nat) (ie : TypeInfo) (z : Value) (size bytes : Nat) (ht : P.underlying t = some (.slice el)) (hi : P.info? el = some ie) (hz : ie.zero = some z) (hsize : ie.size = size) (hby : ie.bytes = bytes) (hzs : z.cells.size = size) (hsz : 0 < size)
    (v0 : Value) (n : Nat) (xs : List Value) (hs : a.eval s = v0) (hown : w.ownsRow base el size v0 n xs) (ad : Option Addr) (m c : Nat) (news : List Value) (hx : a.eval x = .slice ad m c) (h0 : m = 0 → n = 0) (hl : news.length = m * size) (hnews : 0 < m → ∃ b : Addr, ad = some b ∧ ∀ j u, news[j]? = some u → w.cell? (b.add j) = some u) (h1 : ∀ u ∈ news, u.oneCell' = true)
    (h63 : n + m ≤ maxLen) (hbytes : (n + m) * bytes ≤ 140737488355328) (hbase : base ≤ w.heap.size)
    (h : ∀ v' w', w'.ownsRow base el size v' (n + m) (xs ++ news) → w.grownBy w' v0.ownBlock → Moved w v0 v' → wpList P ops Q rest (a.put o.dst v') w') : wpList P ops Q (o :: rest) a w := by
  by_cases hm : 0 < m
  · obtain ⟨b, rfl, hn2⟩ := hnews hm
    exact wpList_append_own_at w hgd s x t ho base el ie z size bytes ht hi hz hsize hby hzs hsz v0 n xs hs hown b m c news hx hl hn2 h1 h63 hbytes hbase (fun v' w' q1 q2 _ q4 => h v' w' q1 q2 (q4.imp id (fun e => ⟨_, e, Nat.le_refl _⟩)))
  · obtain rfl : m = 0 := by omega
    obtain rfl := h0 rfl
    have hxs : xs = [] := List.eq_nil_of_length_eq_zero (by rw [hown.1, Nat.zero_mul])
    have hns : news = [] := List.eq_nil_of_length_eq_zero (by rw [hl, Nat.zero_mul])
    subst hxs
    subst hns
    have hrun := fun ty => run_app0W (P := P) (w := w) (ty := ty) (v0 := v0) ht hi (by
      obtain ⟨_, ⟨e, _⟩ | ⟨g, k, _, e, _⟩⟩ := hown
      · exact .inl e
      · exact .inr ⟨g, k, e⟩) ad c
    refine wpList_plain hgd fun K hK => ?_
    have hnext := h v0 w hown (grownM _ _) (.inl rfl)
    unfold Oper.wp
    simp [execOp, ho, resolve, invoke, builtin, hs, hx, hrun, Result.andThen]
    exact hK _ _ hnext
end Go.Proofs.YtddebgmjolojeaaDoor

/- Any number of elements appended to a row of one's own, none too. -/
namespace Go.Proofs.YtddebgmjolojeaaDoor
open Go.RowKit
set_option maxRecDepth 100000
set_option linter.unusedVariables false

/-- Nothing is appended to a row that has elements. -/
theorem run_appZ {P : Program} {w : World} {t el ty : TypeId} {ie : TypeInfo} {g n k : Nat} (hu : P.underlying t = some (.slice el)) (hie : P.info? el = some ie) (hn : n ≤ k) (ad : Option Addr) (c : Nat) :
    (Builtin.append_ #[t, t] ty #[.slice (some ⟨g, 0, none⟩) n k, .slice ad 0 c]).run P w = .ok (.slice (some ⟨g, 0, none⟩) n k) w := by
  rcases ad with _ | ad <;> simp [Builtin.append_, run_underlying hu, sizeOf, typeInfo, hie, Builtin.lenOf, Builtin.firstCells, loadCells, loadCellsFrom, storeCells, hn]
theorem wpList_appN {P : Program} {w : World} {ops : Array Oper} {rest : List Oper} {o : Oper} {a : Act} {Q : Exit → Act → World → Prop} (hgd : o.guard = none) (s x : Operand) (t : TypeId) {el : TypeId}
    (ho : o.op = .call { callee := .builtin .append, args := #[s, x], argTypes := #[t, t] }) (base : Nat) (ie : TypeInfo) (z : Value) (size bytes : Nat) (ht : P.underlying t = some (.slice el)) (hi : P.info? el = some ie) (hz : ie.zero = some z) (hsize : ie.size = size) (hby : ie.bytes = bytes) (hzs : z.cells.size = size) (hsz : 0 < size)
    (v0 : Value) (n : Nat) (xs : List Value) (hs : a.eval s = v0) (hown : w.ownsRow base el size v0 n xs) (ad : Option Addr) (m c : Nat) (news : List Value) (hx : a.eval x = .slice ad m c) (hl : news.length = m * size) (hnews : 0 < m → ∃ b : Addr, ad = some b ∧ ∀ j u, news[j]? = some u → w.cell? (b.add j) = some u) (h1 : ∀ u ∈ news, u.oneCell' = true)
    (h63 : n + m ≤ maxLen) (hbytes : (n + m) * bytes ≤ 140737488355328) (hbase : base ≤ w.heap.size)
    (h : ∀ v' w', w'.ownsRow base el size v' (n + m) (xs ++ news) → w.grownBy w' v0.ownBlock → Moved w v0 v' → wpList P ops Q rest (a.put o.dst v') w') : wpList P ops Q (o :: rest) a w := by
  by_cases hm : m = 0 ∧ 0 < n
  · obtain ⟨rfl, hn⟩ := hm
    have hns : news = [] := List.eq_nil_of_length_eq_zero (by rw [hl, Nat.zero_mul])
    subst hns
    obtain ⟨g, k, e, hk⟩ : ∃ g k, v0 = .slice (some ⟨g, 0, none⟩) n k ∧ n ≤ k := by
      obtain ⟨_, ⟨_, h0⟩ | ⟨g, k, cur, e, _, _, hk, _⟩⟩ := hown
      · omega
      · exact ⟨g, k, e, by first | exact hk | omega⟩
    have hrun := fun ty => run_appZ (P := P) (w := w) (ty := ty) (g := g) ht hi hk ad c
    have hnext := h v0 w (by rw [Nat.add_zero, List.append_nil]; exact hown) (grownM _ _) (.inl rfl)
    rw [e] at hnext hs
    refine wpList_plain hgd fun K hK => ?_
    unfold Oper.wp
    simp [execOp, ho, resolve, invoke, builtin, hs, hx, hrun, Result.andThen]
    exact hK _ _ hnext
  · exact wpList_appM hgd s x t ho base ie z size bytes ht hi hz hsize hby hzs hsz v0 n xs hs hown ad m c news hx (fun h0 => by omega) hl hnews h1 h63 hbytes hbase h
end Go.Proofs.YtddebgmjolojeaaDoor

/- The reference's last look at a result: l4Fit. -/
namespace Go.Proofs.YtddebgmjolojeaaDoor
set_option maxRecDepth 100000
open Go.RowKit
set_option linter.unusedVariables false
set_option maxHeartbeats 4000000 in
theorem specFit (d : Nat) (v : Vec) (val : Value) (lo hi : Nat) (w : World) (hv : VecAt lo hi w d v val) (hhi : hi ≤ w.heap.size) (hsm : Small d v) :
    Calls Tryd.prog 39 #[val] w fun e w' => Below w.heap.size w w' ∧ ((ValidV v ∧ e = .returned (.tuple #[val, .string ⟨#[]⟩])) ∨ (¬ ValidV v ∧ e = .returned (.tuple #[.agg #[.int .i64 0, .slice none 0 0, .slice none 0 0, .slice none 0 0, .slice none 0 0, .slice none 0 0, .int .i64 0, .int .i64 0], .string bigB]))) := by
  have C1 := Lib.hid (fun (w1 : World) (hb : Below w.heap.size w w1) => specIsVector d v val lo hi w1 (hv.below hb hhi) (Nat.le_trans hhi hb.size) hsm)
  obtain ⟨VV, hVV⟩ : ∃ V, v = V := ⟨_, rfl⟩
  rw [hVV] at C1 ⊢
  obtain ⟨kk, items, parts, names, cls, levels, code, env⟩ := v
  obtain ⟨d', ai, ci, ap, cp, an, cn, ac, cc, al, cl, ed, rfl, hI, hN, hC, hL, hP⟩ := vecAt_open hv
  clear hv hI hN hC hL hP hsm ed hVV
  go_enter Tryd.func39, Tryd.ntmps39
  go_wp2_with fail
  obtain ⟨w1, hw1⟩ : ∃ W, (w.alloc (.cells #[.int .i64 kk, .slice ai items.length ci, .slice ap parts.length cp, .slice an names.length cn, .slice ac cls.length cc, .slice al levels.length cl, .int .i64 code, .int .i64 env] 31)).alloc (.cells #[.int .i64 0, .slice none 0 0, .slice none 0 0, .slice none 0 0, .slice none 0 0, .slice none 0 0, .int .i64 0, .int .i64 0] 31) = W := ⟨_, rfl⟩
  have hsz : (w.alloc (.cells #[.int .i64 kk, .slice ai items.length ci, .slice ap parts.length cp, .slice an names.length cn, .slice ac cls.length cc, .slice al levels.length cl, .int .i64 code, .int .i64 env] 31)).heap.size = w.heap.size + 1 := by simp
  have B1 := Lib.hid (show Below w.heap.size w w1 from hw1 ▸ (below1 w _).alloc (by simp) _)
  have KA := Lib.hid (show w1.heap[w.heap.size]? = some (.cells #[.int .i64 kk, .slice ai items.length ci, .slice ap parts.length cp, .slice an names.length cn, .slice ac cls.length cc, .slice al levels.length cl, .int .i64 code, .int .i64 env] 31 (0, 0)) from hw1 ▸ blk_old (blk_new w _ rfl))
  have KR := Lib.hid (show w1.heap[w.heap.size + 1]? = some (.cells #[.int .i64 0, .slice none 0 0, .slice none 0 0, .slice none 0 0, .slice none 0 0, .slice none 0 0, .int .i64 0, .int .i64 0] 31 (0, 0)) from hw1 ▸ hsz ▸ blk_new (w.alloc (.cells #[.int .i64 kk, .slice ai items.length ci, .slice ap parts.length cp, .slice an names.length cn, .slice ac cls.length cc, .slice al levels.length cl, .int .i64 code, .int .i64 env] 31)) (.cells #[.int .i64 0, .slice none 0 0, .slice none 0 0, .slice none 0 0, .slice none 0 0, .slice none 0 0, .int .i64 0, .int .i64 0] 31) rfl)
  rw [hw1]
  clear hw1 hsz
  with_reducible refine (C1.out _ B1.out).mono ?_
  rintro e w2 ⟨rfl, b⟩
  have B2 := Lib.hid (below_then B1.out b)
  have KA2 := Lib.hid (blk_below b KA.out)
  have KR2 := Lib.hid (blk_below b KR.out)
  clear b
  obtain ⟨k0, k1, k2, k3, k4, k5, k6, k7⟩ := vec8 KA2.out
  obtain ⟨z0, z1, z2, z3, z4, z5, z6, z7⟩ := vec8 KR2.out
  obtain ⟨f0, f1, f2, f3, f4, f5, f6, f7⟩ := free8 KR2.out
  by_cases q : ValidV VV
  · rw [bB_yes q]
    have Q := Lib.hid q
    clear q
    go_wp2
    exact vec_endS rfl rfl rfl rfl KR2.out ⟨put8_below B2.out (Nat.le_succ _), .inl ⟨Q.out, rfl⟩⟩
  · rw [bB_no q]
    have Q := Lib.hid q
    clear q
    go_wp2
    exact vec_endS rfl rfl rfl rfl KR2.out ⟨put8_below B2.out (Nat.le_succ _), .inr ⟨Q.out, rfl⟩⟩
end Go.Proofs.YtddebgmjolojeaaDoor

/- LogicOf as data. -/
namespace Go.Proofs.YtddebgmjolojeaaDoor
open Go.RowKit
set_option maxRecDepth 100000
set_option linter.unusedVariables false

def andB : ByteArray := ⟨#[38]⟩
def orB : ByteArray := ⟨#[124]⟩
/-- "unknown operator" -/
def unkB : ByteArray := ⟨#[117, 110, 107, 110, 111, 119, 110, 32, 111, 112, 101, 114, 97, 116, 111, 114]⟩
/-- "lengths do not match" -/
def lenB : ByteArray := ⟨#[108, 101, 110, 103, 116, 104, 115, 32, 100, 111, 32, 110, 111, 116, 32, 109, 97, 116, 99, 104]⟩
noncomputable def connL (op : ByteArray) (x y : Int) : Int := match bB (op = andB) with | true => aL x y | false => oL x y
def itL (v : Vec) : Nat := (itemsV v).length
def lgcN (a b : Vec) : Int := sizeL (itL a) (itL b)
noncomputable def lgcF (op : ByteArray) (a b : Vec) (i : Nat) : Int := connL op (truthI ((itemsV a).getD (i % itL a) noI)) (truthI ((itemsV b).getD (i % itL b) noI))
noncomputable def lgcS (op : ByteArray) (a b : Vec) : ByteArray := match bB (ValidV a ∧ ValidV b) with
  | false => badB
  | true => match bB (op = andB ∨ op = orB) with
    | false => unkB
    | true => match bB (Counts a ∧ Counts b) with
      | false => nonLogB
      | true => match bB (0 ≤ lgcN a b) with | false => lenB | true => ⟨#[]⟩
noncomputable def lgcV (op : ByteArray) (a b : Vec) : Vec := match bB (ValidV a ∧ ValidV b) with
  | false => noV
  | true => match bB (op = andB ∨ op = orB) with
    | false => noV
    | true => match bB (Counts a ∧ Counts b) with
      | false => noV
      | true => match bB (0 ≤ lgcN a b) with | false => noV | true => mkN 1 (itF (fun i => logI (lgcF op a b i)) (lgcN a b).toNat) (namesL (itL a) (itL b) (lgcN a b).toNat (namesV a) (namesV b))
noncomputable def cntL (v : Vec) : Nat := match bB (Counts v) with | true => itL v | false => 0
end Go.Proofs.YtddebgmjolojeaaDoor

/- Whether operands suit an operator, in the program. -/
namespace Go.Proofs.YtddebgmjolojeaaDoor
open Go.RowKit
set_option maxRecDepth 100000
set_option linter.unusedVariables false

def matchL (m n : Nat) : Prop := 0 ≤ sizeL m n
/-- What problemOfOperands finds where the operands must count as numbers. -/
noncomputable def prbB (known : Bool) (a b : Vec) (uns : ByteArray) : ByteArray := match bB (ValidV a ∧ ValidV b) with
  | false => badB
  | true => match known with
    | false => unkB
    | true => match bB (Counts a ∧ Counts b) with
      | false => uns
      | true => match bB (matchL (itL a) (itL b)) with | false => lenB | true => ⟨#[]⟩
end Go.Proofs.YtddebgmjolojeaaDoor

/- The reference's l4Clean: names that are all empty are left out. -/
namespace Go.Proofs.YtddebgmjolojeaaDoor
set_option maxRecDepth 100000
open Go.RowKit
set_option linter.unusedVariables false
set_option maxHeartbeats 4000000 in
theorem specClean (kk code env : Int) (items : List It) (parts : List Vec) (names cls levels : List ByteArray) (ai ap an ac al : Option Addr) (ci cp cn cc cl lo hi : Nat) (w : World) (hN : TextsAt lo hi w an names) (hhi : hi ≤ w.heap.size) (ln : names.length ≤ 1048576) :
    Calls Tryd.prog 40 #[.agg #[.int .i64 kk, .slice ai items.length ci, .slice ap parts.length cp, .slice an names.length cn, .slice ac cls.length cc, .slice al levels.length cl, .int .i64 code, .int .i64 env]] w fun e w' => Below w.heap.size w w' ∧ (((∃ i, i < names.length ∧ txtS names i ≠ ⟨#[]⟩) ∧ e = .returned (.agg #[.int .i64 kk, .slice ai items.length ci, .slice ap parts.length cp, .slice an names.length cn, .slice ac cls.length cc, .slice al levels.length cl, .int .i64 code, .int .i64 env])) ∨
      ((∀ i, i < names.length → txtS names i = ⟨#[]⟩) ∧ ∃ g, w.heap.size ≤ g ∧ e = .returned (.agg #[.int .i64 kk, .slice ai items.length ci, .slice ap parts.length cp, .slice (some ⟨g, 0, none⟩) 0 0, .slice ac cls.length cc, .slice al levels.length cl, .int .i64 code, .int .i64 env]))) := by
  have HT := Lib.hid (fun (w1 : World) (hb : Below w.heap.size w w1) (k : Nat) (hk : k < names.length) => show ∃ b off, an = some ⟨b, off, none⟩ ∧ w1.cell? ⟨b, off + k, none⟩ = some (.string (txtS names k)) from by
    obtain ⟨b, off, e, _, _, h⟩ := (hN.below hb hhi) k (txtS names k) (by unfold txtS; simp [List.getD_eq_getElem?_getD, List.getElem?_eq_getElem hk])
    exact ⟨b, off, e, h⟩)
  clear hN
  obtain ⟨n, hn⟩ : ∃ n, names.length = n := ⟨_, rfl⟩
  rw [hn] at HT ln ⊢
  clear hn
  go_enter Tryd.func40, Tryd.ntmps40
  obtain ⟨w1, hw1⟩ : ∃ W, (w.alloc (.cells #[.int .i64 kk, .slice ai items.length ci, .slice ap parts.length cp, .slice an n cn, .slice ac cls.length cc, .slice al levels.length cl, .int .i64 code, .int .i64 env] 31)).alloc (.cells #[.int .i64 0, .slice none 0 0, .slice none 0 0, .slice none 0 0, .slice none 0 0, .slice none 0 0, .int .i64 0, .int .i64 0] 31) = W := ⟨_, rfl⟩
  have hsz : (w.alloc (.cells #[.int .i64 kk, .slice ai items.length ci, .slice ap parts.length cp, .slice an n cn, .slice ac cls.length cc, .slice al levels.length cl, .int .i64 code, .int .i64 env] 31)).heap.size = w.heap.size + 1 := by simp
  have B1 := Lib.hid (show Below w.heap.size w w1 from hw1 ▸ (below1 w _).alloc (by simp) _)
  have KA := Lib.hid (show w1.heap[w.heap.size]? = some (.cells #[.int .i64 kk, .slice ai items.length ci, .slice ap parts.length cp, .slice an n cn, .slice ac cls.length cc, .slice al levels.length cl, .int .i64 code, .int .i64 env] 31 (0, 0)) from hw1 ▸ blk_old (blk_new w _ rfl))
  have KR := Lib.hid (show w1.heap[w.heap.size + 1]? = some (.cells #[.int .i64 0, .slice none 0 0, .slice none 0 0, .slice none 0 0, .slice none 0 0, .slice none 0 0, .int .i64 0, .int .i64 0] 31 (0, 0)) from hw1 ▸ hsz ▸ blk_new (w.alloc (.cells #[.int .i64 kk, .slice ai items.length ci, .slice ap parts.length cp, .slice an n cn, .slice ac cls.length cc, .slice al levels.length cl, .int .i64 code, .int .i64 env] 31)) (.cells #[.int .i64 0, .slice none 0 0, .slice none 0 0, .slice none 0 0, .slice none 0 0, .slice none 0 0, .int .i64 0, .int .i64 0] 31) rfl)
  have EW := Lib.hid hw1
  clear hw1 hsz
  go_wp2
  go_loopw [3] (fun i wr => ∃ k : Nat, k ≤ n ∧ i = .int .i64 k ∧ wr = w1 ∧ ∀ j, j < k → txtS names j = ⟨#[]⟩) (fun i _ => n - (intOf i).toNat)
  case atStart => exact ⟨0, Nat.zero_le _, rfl, EW.out, fun j h => absurd h (Nat.not_lt_zero _)⟩
  case round =>
    obtain ⟨k, hk, rfl, rfl, hj⟩ := hrel
    have HJ := Lib.hid hj
    clear hj
    obtain ⟨k0, k1, k2, k3, k4, k5, k6, k7⟩ := vec8 KA.out
    by_cases hlt : k < n
    · obtain ⟨b, off, rfl, c⟩ := HT.out _ B1.out _ hlt
      by_cases q : txtS names k = ⟨#[]⟩
      · rw [q] at c
        have Q := Lib.hid q
        clear q
        go_wp2
        go_roundw
        case rel => exact ⟨k + 1, by omega, by go_num, trivial, fun j h => by
          rcases Nat.lt_or_ge j k with h' | h'
          · exact HJ.out j h'
          · obtain rfl : j = k := by omega
            exact Q.out⟩
        case measure => simp [intOf]; omega
      · obtain ⟨x, hx⟩ : ∃ x, txtS names k = x := ⟨_, rfl⟩
        rw [hx] at c
        have Q := Lib.hid q
        have hxb : (x.toList == []) = false := by have h := str_not (hx ▸ q); rw [ByteArray.toList_eq ⟨#[]⟩] at h; exact h
        clear q hx
        obtain ⟨z0, z1, z2, z3, z4, z5, z6, z7⟩ := vec8 KR.out
        obtain ⟨f0, f1, f2, f3, f4, f5, f6, f7⟩ := free8 KR.out
        go_wp2
        exact vec_end rfl rfl rfl KR.out ⟨put8_below B1.out (Nat.le_succ _), .inl ⟨⟨k, hlt, Q.out⟩, rfl⟩⟩
    · obtain rfl : k = n := by omega
      go_upto_region 6 with (fail)
      clear k0 k1 k2 k3 k4 k5 k6 k7
      have KA2 := Lib.hid (show (wr.alloc (.cells #[] 9)).heap[w.heap.size]? = some (.cells #[.int .i64 kk, .slice ai items.length ci, .slice ap parts.length cp, .slice an k cn, .slice ac cls.length cc, .slice al levels.length cl, .int .i64 code, .int .i64 env] 31 (0, 0)) from blk_old KA.out)
      have KR2 := Lib.hid (show (wr.alloc (.cells #[] 9)).heap[w.heap.size + 1]? = some (.cells #[.int .i64 0, .slice none 0 0, .slice none 0 0, .slice none 0 0, .slice none 0 0, .slice none 0 0, .int .i64 0, .int .i64 0] 31 (0, 0)) from blk_old KR.out)
      have u2 : ∃ x, (wr.alloc (.cells #[] 9)).cell? ⟨w.heap.size, 3, none⟩ = some x := ⟨_, cellOf KA2.out rfl⟩
      obtain ⟨x2, hx2⟩ := u2
      have hf2 : (wr.alloc (.cells #[] 9)).frozen? ⟨w.heap.size, 3, none⟩ = false := freeOf KA2.out
      obtain ⟨w3, hw⟩ : ∃ W, (wr.alloc (.cells #[] 9)).setCell ⟨w.heap.size, 3, none⟩ (.slice (some ⟨wr.heap.size, 0, none⟩) 0 0) = W := ⟨_, rfl⟩
      have KA3 := Lib.hid (show w3.heap[w.heap.size]? = some (.cells #[.int .i64 kk, .slice ai items.length ci, .slice ap parts.length cp, .slice (some ⟨wr.heap.size, 0, none⟩) 0 0, .slice ac cls.length cc, .slice al levels.length cl, .int .i64 code, .int .i64 env] 31 (0, 0)) from hw ▸ Joins.block_setCell KA2.out _)
      have KR3 := Lib.hid (show w3.heap[w.heap.size + 1]? = some (.cells #[.int .i64 0, .slice none 0 0, .slice none 0 0, .slice none 0 0, .slice none 0 0, .slice none 0 0, .int .i64 0, .int .i64 0] 31 (0, 0)) from hw ▸ (Below.heap_setCell _ _ _ _ (by show w.heap.size + 1 ≠ w.heap.size; omega)).trans KR2.out)
      have B3 := Lib.hid (show Below w.heap.size w w3 from hw ▸ (B1.out.alloc B1.out.size _).setCell (p := ⟨w.heap.size, 3, none⟩) (Nat.le_refl _) _)
      have EW3 := Lib.hid hw
      clear hw
      go_upto_region 7 with (fail)
      rw [EW3.out]
      clear hx2 hf2
      obtain ⟨k0, k1, k2, k3, k4, k5, k6, k7⟩ := vec8 KA3.out
      obtain ⟨z0, z1, z2, z3, z4, z5, z6, z7⟩ := vec8 KR3.out
      obtain ⟨f0, f1, f2, f3, f4, f5, f6, f7⟩ := free8 KR3.out
      go_wp2
      exact vec_end rfl rfl rfl KR3.out ⟨put8_below B3.out (Nat.le_succ _), .inr ⟨HJ.out, wr.heap.size, B1.out.size, rfl⟩⟩
end Go.Proofs.YtddebgmjolojeaaDoor

/- Laws on two vectors: what a region that calls on both keeps. -/
namespace Go.Proofs.YtddebgmjolojeaaDoor
set_option maxRecDepth 100000
open Go.RowKit
set_option linter.unusedVariables false

/-- A vector that may be read. -/
structure VatH (d : Nat) (v : Vec) (y : Value) (w : World) : Prop where
  out : VecAt 0 w.heap.size w d v y
theorem VatH.keep {d : Nat} {v : Vec} {y : Value} {w w1 : World} (h : VatH d v y w) (hb : Below w.heap.size w w1) : VatH d v y w1 := ⟨VecAt.wide (Nat.le_refl _) hb.size _ _ _ (h.out.below hb (Nat.le_refl _))⟩
/-- A vector of one's own in a range, kept. -/
structure OwnH (d : Nat) (V : Vec) (y : Value) (lo hi : Nat) (w : World) : Prop where
  own : Own d V y lo hi w
  hh : hi ≤ w.heap.size
theorem OwnH.keep {d : Nat} {V : Vec} {y : Value} {lo hi : Nat} {w w1 : World} (h : OwnH d V y lo hi w) (hb : Below w.heap.size w w1) : OwnH d V y lo hi w1 := ⟨h.own.below hb h.hh, Nat.le_trans h.hh hb.size⟩
/-- A vector that was made and put into a variable of its own. -/
structure MadeU (V : Vec) (wk wx : World) (g : Nat) (C : Array Value) : Prop where
  blk : wx.heap[g]? = some (.cells C 31 (0, 0))
  own : Own 1 V (.agg C) wk.heap.size wx.heap.size wx
  below : Below wk.heap.size wk wx
  lo : wk.heap.size ≤ g
theorem MadeU.cells {V : Vec} {wk wx : World} {g : Nat} {C : Array Value} (h : MadeU V wk wx g C) : ∃ (k : Int) (a1 : Option Addr) (n1 m1 : Nat) (a2 : Option Addr) (n2 m2 : Nat) (a3 : Option Addr) (n3 m3 : Nat) (a4 : Option Addr) (n4 m4 : Nat) (a5 : Option Addr) (n5 m5 : Nat) (code env : Int), C = #[.int .i64 k, .slice a1 n1 m1, .slice a2 n2 m2, .slice a3 n3 m3, .slice a4 n4 m4, .slice a5 n5 m5, .int .i64 code, .int .i64 env] := by
  obtain ⟨k, a1, n1, m1, a2, n2, m2, a3, n3, m3, a4, n4, m4, a5, n5, m5, c, e, h'⟩ := h.own.agg
  simp only [Value.agg.injEq] at h'
  exact ⟨k, a1, n1, m1, a2, n2, m2, a3, n3, m3, a4, n4, m4, a5, n5, m5, c, e, h'⟩
section
variable {P : Program} {ops : Array Oper} {Q : Exit → Act → World → Prop} {S : World → Prop}
variable {r : List (Nat × Bool)} {a : Act} {e : List (Nat × Value)} {w : World} {i d : Nat} {g : Option (Nat × Bool)} {v : Value}
end
end Go.Proofs.YtddebgmjolojeaaDoor

/- The program's last look at a result: withinLimits. -/
namespace Go.Proofs.YtddebgmjolojeaaDoor
set_option maxRecDepth 100000
open Go.RowKit
set_option linter.unusedVariables false
set_option maxHeartbeats 4000000 in
theorem implFit (d : Nat) (v : Vec) (val : Value) (lo hi : Nat) (w : World) (hv : VecAt lo hi w d v val) (hhi : hi ≤ w.heap.size) (hsm : Small d v) :
    Calls Tryd.prog 49 #[val] w fun e w' => Below w.heap.size w w' ∧ ((ValidV v ∧ e = .returned (.tuple #[val, .string ⟨#[]⟩])) ∨ (¬ ValidV v ∧ e = .returned (.tuple #[.agg #[.int .i64 0, .slice none 0 0, .slice none 0 0, .slice none 0 0, .slice none 0 0, .slice none 0 0, .int .i64 0, .int .i64 0], .string bigB]))) := by
  have C1 := Lib.hid (fun (w1 : World) (hb : Below w.heap.size w w1) => implIsVector d v val lo hi w1 (hv.below hb hhi) (Nat.le_trans hhi hb.size) hsm)
  obtain ⟨VV, hVV⟩ : ∃ V, v = V := ⟨_, rfl⟩
  rw [hVV] at C1 ⊢
  obtain ⟨kk, items, parts, names, cls, levels, code, env⟩ := v
  obtain ⟨d', ai, ci, ap, cp, an, cn, ac, cc, al, cl, ed, rfl, hI, hN, hC, hL, hP⟩ := vecAt_open hv
  clear hv hI hN hC hL hP hsm ed hVV
  go_enter Tryd.func49, Tryd.ntmps49
  go_wp2_with fail
  obtain ⟨w1, hw1⟩ : ∃ W, (w.alloc (.cells #[.int .i64 kk, .slice ai items.length ci, .slice ap parts.length cp, .slice an names.length cn, .slice ac cls.length cc, .slice al levels.length cl, .int .i64 code, .int .i64 env] 31)).alloc (.cells #[.int .i64 0, .slice none 0 0, .slice none 0 0, .slice none 0 0, .slice none 0 0, .slice none 0 0, .int .i64 0, .int .i64 0] 31) = W := ⟨_, rfl⟩
  have hsz : (w.alloc (.cells #[.int .i64 kk, .slice ai items.length ci, .slice ap parts.length cp, .slice an names.length cn, .slice ac cls.length cc, .slice al levels.length cl, .int .i64 code, .int .i64 env] 31)).heap.size = w.heap.size + 1 := by simp
  have B1 := Lib.hid (show Below w.heap.size w w1 from hw1 ▸ (below1 w _).alloc (by simp) _)
  have KA := Lib.hid (show w1.heap[w.heap.size]? = some (.cells #[.int .i64 kk, .slice ai items.length ci, .slice ap parts.length cp, .slice an names.length cn, .slice ac cls.length cc, .slice al levels.length cl, .int .i64 code, .int .i64 env] 31 (0, 0)) from hw1 ▸ blk_old (blk_new w _ rfl))
  have KR := Lib.hid (show w1.heap[w.heap.size + 1]? = some (.cells #[.int .i64 0, .slice none 0 0, .slice none 0 0, .slice none 0 0, .slice none 0 0, .slice none 0 0, .int .i64 0, .int .i64 0] 31 (0, 0)) from hw1 ▸ hsz ▸ blk_new (w.alloc (.cells #[.int .i64 kk, .slice ai items.length ci, .slice ap parts.length cp, .slice an names.length cn, .slice ac cls.length cc, .slice al levels.length cl, .int .i64 code, .int .i64 env] 31)) (.cells #[.int .i64 0, .slice none 0 0, .slice none 0 0, .slice none 0 0, .slice none 0 0, .slice none 0 0, .int .i64 0, .int .i64 0] 31) rfl)
  rw [hw1]
  clear hw1 hsz
  with_reducible refine (C1.out _ B1.out).mono ?_
  rintro e w2 ⟨rfl, b⟩
  have B2 := Lib.hid (below_then B1.out b)
  have KA2 := Lib.hid (blk_below b KA.out)
  have KR2 := Lib.hid (blk_below b KR.out)
  clear b
  obtain ⟨k0, k1, k2, k3, k4, k5, k6, k7⟩ := vec8 KA2.out
  obtain ⟨z0, z1, z2, z3, z4, z5, z6, z7⟩ := vec8 KR2.out
  obtain ⟨f0, f1, f2, f3, f4, f5, f6, f7⟩ := free8 KR2.out
  by_cases q : ValidV VV
  · rw [bB_yes q]
    have Q := Lib.hid q
    clear q
    go_wp2
    exact vec_endS rfl rfl rfl rfl KR2.out ⟨put8_below B2.out (Nat.le_succ _), .inl ⟨Q.out, rfl⟩⟩
  · rw [bB_no q]
    have Q := Lib.hid q
    clear q
    go_wp2
    exact vec_endS rfl rfl rfl rfl KR2.out ⟨put8_below B2.out (Nat.le_succ _), .inr ⟨Q.out, rfl⟩⟩
end Go.Proofs.YtddebgmjolojeaaDoor

/- Lists of vectors in laws. -/
namespace Go.Proofs.YtddebgmjolojeaaDoor
open Go.RowKit
set_option maxRecDepth 100000
set_option linter.unusedVariables false

/-- A list of vectors in blocks of its own, within lo .. hi. -/
structure OwnL (d : Nat) (l : List Vec) (a : Option Addr) (lo hi : Nat) (w : World) : Prop where
  out : ∃ F, OwnPs w d a l F ∧ F.Nodup ∧ ∀ b ∈ F, lo ≤ b ∧ b < hi
theorem OwnL.below {d : Nat} {l : List Vec} {a : Option Addr} {lo hi : Nat} {w w' : World} (h : OwnL d l a lo hi w) (hb : Below w.heap.size w w') (hh : hi ≤ w.heap.size) : OwnL d l a lo hi w' := by
  obtain ⟨F, h1, h2, h3⟩ := h.out
  exact ⟨F, h1.kept (fun b hm => hb.block b (by have := h3 b hm; omega)), h2, h3⟩
theorem OwnL.within {d : Nat} {l : List Vec} {a : Option Addr} {lo hi lo' hi' : Nat} {w w' : World} (h : OwnL d l a lo hi w) (k : Within lo' hi' w w') (hr : hi ≤ lo' ∨ hi' ≤ lo) (hh : hi ≤ w.heap.size) : OwnL d l a lo hi w' := by
  obtain ⟨F, h1, h2, h3⟩ := h.out
  exact ⟨F, h1.kept (fun b hm => k.block b (by have := h3 b hm; omega) (by have := h3 b hm; omega)), h2, h3⟩
theorem OwnL.at_ {d : Nat} {l : List Vec} {a : Option Addr} {lo hi : Nat} {w : World} (h : OwnL d l a lo hi w) {H : Nat} (hh : hi ≤ H) : VecsAt 0 H w d a l := by
  obtain ⟨F, h1, _, h3⟩ := h.out
  intro i p hp
  obtain ⟨hi', rfl⟩ := List.getElem?_eq_some_iff.1 hp
  rcases h1 with ⟨rfl, _⟩ | ⟨b, C, Fs, rfl, hl, e', hb, hc, hps⟩
  · cases hi'
  · obtain ⟨val, hv, c0, c1, c2, c3, c4, c5, c6, c7, rfl, m0, m1, m2, m3, m4, m5, m6, m7⟩ := hps i hi'
    have e1 : l.getD i noV = l[i] := by simp [List.getD_eq_getElem?_getD, List.getElem?_eq_getElem hi']
    rw [e1] at hv
    have hbb := h3 b (by simp)
    refine ⟨b, 0, c0, c1, c2, c3, c4, c5, c6, c7, e', Nat.zero_le _, by omega, hv.vecAt _ _ _ _ (fun b' hb' => by have := h3 b' (List.mem_cons_of_mem _ (mem_flat (by omega) hb')); omega), ?_⟩
    rw [Nat.zero_add]
    exact ⟨cellOf hb m0, cellOf hb m1, cellOf hb m2, cellOf hb m3, cellOf hb m4, cellOf hb m5, cellOf hb m6, cellOf hb m7⟩
theorem toVecsR (d : Nat) (l : List Vec) (a : Option Addr) (cap lo hi : Nat) (w : World) (hs : VecsAt lo hi w d a l) (hhi : hi ≤ w.heap.size) (hsm : ∀ i, i < l.length → Small d (l.getD i noV)) (hn : l.length ≤ 1048576) :
    Calls Tryd.prog 15 #[.slice a l.length cap] w fun e w' => ∃ x, e = .returned (.slice x l.length l.length) ∧ OwnL d l x w.heap.size w'.heap.size w' ∧ Below w.heap.size w w' := by
  refine (toParts d (toAll d) l a cap lo hi w hs hhi hsm hn).mono ?_
  rintro e w' ⟨Fs, rfl, ⟨C, hC, hsz, hl, hp⟩, hnd, hF, hb, hlt⟩
  refine ⟨_, rfl, ⟨w.heap.size :: Fs.flatten, .inr ⟨w.heap.size, C, Fs, rfl, hl, rfl, hC, by omega, hp⟩, ?_, fun b hb' => ?_⟩, hb⟩
  · rw [List.nodup_cons]
    exact ⟨fun h => by have := hF _ h; omega, hnd⟩
  · rcases List.mem_cons.1 hb' with rfl | h
    · exact ⟨Nat.le_refl _, hlt⟩
    · have := hF b h; omega
theorem markVecsR (d : Nat) (l : List Vec) (a : Option Addr) (c k : Nat) (lo hi : Nat) (w : World) (h : OwnL d l a lo hi w) (hh : hi ≤ w.heap.size) (hn : l.length ≤ 1048576) (hsm : ∀ i, i < l.length → Small d (l.getD i noV)) (h1 : 1 ≤ k) (hk : k + cntP d l l.length ≤ 8000000) :
    Calls Tryd.prog 20 #[.slice a l.length c, .int .i64 k] w fun e w' => e = .returned (.int .i64 ((k : Int) + (cntP d l l.length : Int))) ∧ Within lo hi w w' := by
  obtain ⟨F, h2, h3, h4⟩ := h.out
  refine ((mpAll d).out l a c k F w h2 h3 (fun b hb => by have := h4 b hb; omega) hn hsm h1 hk).mono ?_
  rintro e w' ⟨rfl, _, t⟩
  exact ⟨rfl, t.within h4⟩
theorem texts_of_strs {B : Nat} {w : World} {a : Option Addr} {n : Nat} {f : Nat → ByteArray} (h : StrsAt B w a n f) : TextsAt 0 B w a ((List.range n).map f) := by
  intro i x hx
  rw [List.getElem?_map] at hx
  obtain ⟨k, hk, rfl⟩ := Option.map_eq_some_iff.1 hx
  obtain ⟨hlt, e⟩ := List.getElem?_eq_some_iff.1 hk
  have hlt' : i < n := by simpa using hlt
  obtain rfl : i = k := by simpa using e
  obtain ⟨b, off, e, h1, h2⟩ := h i hlt'
  exact ⟨b, off, e, Nat.zero_le _, h1, h2⟩
theorem VecsAt.more {lo hi : Nat} {w : World} {d : Nat} {a : Option Addr} {l : List Vec} (h : VecsAt lo hi w d a l) : VecsAt lo hi w (d + 1) a l := by
  intro i p hp
  obtain ⟨b, off, c0, c1, c2, c3, c4, c5, c6, c7, e, g0, g1, hv, m⟩ := h i p hp
  exact ⟨b, off, c0, c1, c2, c3, c4, c5, c6, c7, e, g0, g1, VecAt.more d p _ hv, m⟩
end Go.Proofs.YtddebgmjolojeaaDoor

/- A list of vectors that came in. -/
namespace Go.Proofs.YtddebgmjolojeaaDoor
open Go.ChangeShapes Go.WideShapes Go.RowKit Go.Deep
open Go.ChangeMaps (open_string shut_string)
set_option maxRecDepth 100000
set_option linter.unusedVariables false

section
variable {H : Type} {enc : TypeId × Value → H} {W : World} {base : Nat} {sp : Nat → Bool} {held : Bool}
theorem vecs_in {b0 : Nat} {r : Reach} {v : Value} {dt : DataW H} {p : List MemPlace} (hv : Value.okWide Tryd.prog W r b0 23 v) (h : DataW.Trod enc Tryd.prog W base sp held 23 v dt p) :
    ∃ (d : Nat) (l : List Vec) (a : Option Addr) (cap : Nat), v = .slice a l.length cap ∧ VecsAt 0 W.heap.size W d a l ∧ l.length ≤ maxLen ∧ ∀ q ∈ l, Fits d q := by
  obtain ⟨ap, n, cp, rfl⟩ := okWide_slice Tryd.underlying23 hv
  obtain ⟨fuel, t2⟩ := h
  obtain ⟨hn, hi⟩ := open_structs Tryd.underlying23 Tryd.underlying26 (by kernel_rfl) (by kernel_rfl) (by decide) t2
  obtain ⟨parts, hl, hp⟩ := list_of (fun i (p : Vec) => (∃ b off u0 u1 u2 u3 u4 u5 u6 u7, ap = some ⟨b, off, none⟩ ∧ 0 ≤ b ∧ b < W.heap.size ∧ VecAt 0 W.heap.size W fuel p (.agg #[u0, u1, u2, u3, u4, u5, u6, u7]) ∧
      W.cell? ⟨b, off + i * 8, none⟩ = some u0 ∧ W.cell? ⟨b, off + i * 8 + 1, none⟩ = some u1 ∧ W.cell? ⟨b, off + i * 8 + 2, none⟩ = some u2 ∧ W.cell? ⟨b, off + i * 8 + 3, none⟩ = some u3 ∧ W.cell? ⟨b, off + i * 8 + 4, none⟩ = some u4 ∧ W.cell? ⟨b, off + i * 8 + 5, none⟩ = some u5 ∧ W.cell? ⟨b, off + i * 8 + 6, none⟩ = some u6 ∧ W.cell? ⟨b, off + i * 8 + 7, none⟩ = some u7) ∧ Fits fuel p) n (by
    intro i hin
    obtain ⟨b, o, m, hm, ha, hb, hf⟩ := hi i hin
    obtain ⟨v0, z0, q0, s0⟩ := hf 0 _ rfl
    obtain ⟨v1, z1, q1, s1⟩ := hf 1 _ rfl
    obtain ⟨v2, z2, q2, s2⟩ := hf 2 _ rfl
    obtain ⟨v3, z3, q3, s3⟩ := hf 3 _ rfl
    obtain ⟨v4, z4, q4, s4⟩ := hf 4 _ rfl
    obtain ⟨v5, z5, q5, s5⟩ := hf 5 _ rfl
    obtain ⟨v6, z6, q6, s6⟩ := hf 6 _ rfl
    obtain ⟨v7, z7, q7, s7⟩ := hf 7 _ rfl
    obtain ⟨v, hv, hfit⟩ := vec_fields m v0 v1 v2 v3 v4 v5 v6 v7 _ _ _ _ _ _ _ _ s0 s1 s2 s3 s4 s5 s6 s7
    exact ⟨v, ⟨b, o, v0, v1, v2, v3, v4, v5, v6, v7, ha, Nat.zero_le _, hb, hv.le (by omega), q0, q1, q2, q3, q4, q5, q6, q7⟩, hfit.le (by omega)⟩)
  subst hl
  refine ⟨fuel, parts, ap, cp, rfl, (fun i p hp' => (hp i p hp').1), hn, fun q hq => ?_⟩
  obtain ⟨i, hi'⟩ := List.getElem?_of_mem hq
  exact (hp i q hi').2
end
end Go.Proofs.YtddebgmjolojeaaDoor
