/- The laws' own copy of a vector: every slice in a block of its own. -/
import Derived.Test.YtddebgmjolojeaaRows
import Derived.Test.YtddebgmjolojeaaVecSz
namespace Go.Proofs.Ytddebgmjolojeaa
open Go.RowKit
set_option maxRecDepth 100000
set_option linter.unusedVariables false

/-- The slice at a holds the items of l in a block of its own. -/
def OwnIts (w : World) (a : Option Addr) (l : List It) (F : List Nat) : Prop :=
  (l = [] ∧ F = []) ∨ ∃ b C, F = [b] ∧ a = some ⟨b, 0, none⟩ ∧ w.heap[b]? = some (.cells C 50 (0, 0)) ∧ l.length * 3 ≤ C.size ∧
    ∀ i, i < l.length → C[i * 3]? = some (.int .i64 (l.getD i noI).n) ∧ C[i * 3 + 1]? = some (.int .i64 (l.getD i noI).d) ∧ C[i * 3 + 2]? = some (.string (txtI l i))
def OwnTxs (w : World) (a : Option Addr) (l : List ByteArray) (F : List Nat) : Prop :=
  (l = [] ∧ F = []) ∨ ∃ b C, F = [b] ∧ a = some ⟨b, 0, none⟩ ∧ w.heap[b]? = some (.cells C 9 (0, 0)) ∧ l.length ≤ C.size ∧ ∀ i, i < l.length → C[i]? = some (.string (txtS l i))
/-- Cells i*8 .. of C are the value's. -/
def Eight (C : Array Value) (i : Nat) (val : Value) : Prop := ∃ c0 c1 c2 c3 c4 c5 c6 c7, val = .agg #[c0, c1, c2, c3, c4, c5, c6, c7] ∧
  C[i * 8]? = some c0 ∧ C[i * 8 + 1]? = some c1 ∧ C[i * 8 + 2]? = some c2 ∧ C[i * 8 + 3]? = some c3 ∧ C[i * 8 + 4]? = some c4 ∧ C[i * 8 + 5]? = some c5 ∧ C[i * 8 + 6]? = some c6 ∧ C[i * 8 + 7]? = some c7
/-- The value is the vector v; each of its slices that is not empty lies in a block of its own; these blocks are F. -/
def OwnVec (w : World) : Nat → Vec → Value → List Nat → Prop
  | 0, _, _, _ => False
  | d + 1, .mk k items parts names cls levels code env, val, F => ∃ ai ci ap cp an cn ac cc al cl Fi Fp Fn Fc Fl,
      val = .agg #[.int .i64 k, .slice ai items.length ci, .slice ap parts.length cp, .slice an names.length cn, .slice ac cls.length cc, .slice al levels.length cl, .int .i64 code, .int .i64 env] ∧
      F = Fi ++ (Fp ++ (Fn ++ (Fc ++ Fl))) ∧ CapsOk items.length ci parts.length cp names.length cn cls.length cc levels.length cl ∧ OwnIts w ai items Fi ∧ OwnTxs w an names Fn ∧ OwnTxs w ac cls Fc ∧ OwnTxs w al levels Fl ∧
      ((parts = [] ∧ Fp = []) ∨ ∃ b C, ∃ Fs : List (List Nat), Fp = b :: Fs.flatten ∧ Fs.length = parts.length ∧ ap = some ⟨b, 0, none⟩ ∧ w.heap[b]? = some (.cells C 32 (0, 0)) ∧ parts.length * 8 ≤ C.size ∧
        ∀ i, i < parts.length → ∃ val, OwnVec w d (parts.getD i noV) val (Fs.getD i []) ∧ Eight C i val)
/-- A row of vectors whose first k are those of l, with their blocks. -/
def OwnRow (w : World) (d b n k : Nat) (l : List Vec) (Fs : List (List Nat)) : Prop := ∃ C, w.heap[b]? = some (.cells C 32 (0, 0)) ∧ C.size = n * 8 ∧ Fs.length = k ∧
  ∀ i, i < k → ∃ val, OwnVec w d (l.getD i noV) val (Fs.getD i []) ∧ Eight C i val
theorem OwnIts.kept {w w1 : World} {a : Option Addr} {l : List It} {F : List Nat} (h : OwnIts w a l F) (k : ∀ b ∈ F, w1.heap[b]? = w.heap[b]?) : OwnIts w1 a l F := by
  rcases h with h | ⟨b, C, rfl, e, hb, r⟩
  · exact .inl h
  · exact .inr ⟨b, C, rfl, e, (k b (by simp)).trans hb, r⟩
theorem OwnTxs.kept {w w1 : World} {a : Option Addr} {l : List ByteArray} {F : List Nat} (h : OwnTxs w a l F) (k : ∀ b ∈ F, w1.heap[b]? = w.heap[b]?) : OwnTxs w1 a l F := by
  rcases h with h | ⟨b, C, rfl, e, hb, r⟩
  · exact .inl h
  · exact .inr ⟨b, C, rfl, e, (k b (by simp)).trans hb, r⟩
theorem mem_flat {Fs : List (List Nat)} {i b : Nat} (hi : i < Fs.length) (hb : b ∈ Fs.getD i []) : b ∈ Fs.flatten := by
  rw [List.getD_eq_getElem?_getD, List.getElem?_eq_getElem hi] at hb
  exact List.mem_flatten.2 ⟨_, List.getElem_mem hi, hb⟩
theorem OwnVec.kept {w w1 : World} : ∀ (d : Nat) (v : Vec) (val : Value) (F : List Nat), OwnVec w d v val F → (∀ b ∈ F, w1.heap[b]? = w.heap[b]?) → OwnVec w1 d v val F
  | 0, _, _, _, h, _ => h.elim
  | d + 1, .mk _ _ parts _ _ _ _ _, val, F, h, k => by
    unfold OwnVec at h ⊢
    obtain ⟨ai, ci, ap, cp, an, cn, ac, cc, al, cl, Fi, Fp, Fn, Fc, Fl, e, rfl, hC, h1, h2, h3, h4, h5⟩ := h
    refine ⟨ai, ci, ap, cp, an, cn, ac, cc, al, cl, Fi, Fp, Fn, Fc, Fl, e, rfl, hC, h1.kept (fun b hb => k b (by simp [hb])), h2.kept (fun b hb => k b (by simp [hb])), h3.kept (fun b hb => k b (by simp [hb])), h4.kept (fun b hb => k b (by simp [hb])), ?_⟩
    rcases h5 with h5 | ⟨b, C, Fs, rfl, hl, e', hb, hc, hp⟩
    · exact .inl h5
    · refine .inr ⟨b, C, Fs, rfl, hl, e', (k b (by simp)).trans hb, hc, fun i hi => ?_⟩
      obtain ⟨val, hv, m⟩ := hp i hi
      exact ⟨val, OwnVec.kept d _ _ _ hv (fun b' hb' => k b' (by have := mem_flat (by omega) hb'; simp only [List.mem_append, List.mem_cons]; exact .inr (.inl (.inr this)))), m⟩
theorem OwnIts.at_ {w : World} {a : Option Addr} {l : List It} {F : List Nat} {lo hi : Nat} (h : OwnIts w a l F) (hF : ∀ b ∈ F, lo ≤ b ∧ b < hi) : ItemsAt lo hi w a l := by
  intro i x hx
  obtain ⟨hi', rfl⟩ := List.getElem?_eq_some_iff.1 hx
  rcases h with ⟨rfl, _⟩ | ⟨b, C, rfl, e, hb, hc, r⟩
  · cases hi'
  · obtain ⟨h0, h1, h2⟩ := r i hi'
    have e1 : l.getD i noI = l[i] := by simp [List.getD_eq_getElem?_getD, List.getElem?_eq_getElem hi']
    unfold txtI at h2
    rw [e1] at h0 h1 h2
    have := hF b (by simp)
    exact ⟨b, 0, e, this.1, this.2, by rw [Nat.zero_add]; exact cellOf hb h0, by rw [Nat.zero_add]; exact cellOf hb h1, by rw [Nat.zero_add]; exact cellOf hb h2⟩
theorem OwnTxs.at_ {w : World} {a : Option Addr} {l : List ByteArray} {F : List Nat} {lo hi : Nat} (h : OwnTxs w a l F) (hF : ∀ b ∈ F, lo ≤ b ∧ b < hi) : TextsAt lo hi w a l := by
  intro i x hx
  obtain ⟨hi', rfl⟩ := List.getElem?_eq_some_iff.1 hx
  rcases h with ⟨rfl, _⟩ | ⟨b, C, rfl, e, hb, hc, r⟩
  · cases hi'
  · have h0 := r i hi'
    have e1 : txtS l i = l[i] := by unfold txtS; simp [List.getD_eq_getElem?_getD, List.getElem?_eq_getElem hi']
    rw [e1] at h0
    have := hF b (by simp)
    exact ⟨b, 0, e, this.1, this.2, by rw [Nat.zero_add]; exact cellOf hb h0⟩
theorem OwnVec.vecAt {w : World} {lo hi : Nat} : ∀ (d : Nat) (v : Vec) (val : Value) (F : List Nat), OwnVec w d v val F → (∀ b ∈ F, lo ≤ b ∧ b < hi) → VecAt lo hi w d v val
  | 0, _, _, _, h, _ => h.elim
  | d + 1, .mk _ _ parts _ _ _ _ _, val, F, h, k => by
    unfold OwnVec at h
    obtain ⟨ai, ci, ap, cp, an, cn, ac, cc, al, cl, Fi, Fp, Fn, Fc, Fl, rfl, rfl, hC, h1, h2, h3, h4, h5⟩ := h
    refine vecAt_mk (h1.at_ (fun b hb => k b (by simp [hb]))) (h2.at_ (fun b hb => k b (by simp [hb]))) (h3.at_ (fun b hb => k b (by simp [hb]))) (h4.at_ (fun b hb => k b (by simp [hb]))) ?_ hC
    intro i p hp
    obtain ⟨hi', rfl⟩ := List.getElem?_eq_some_iff.1 hp
    rcases h5 with ⟨rfl, _⟩ | ⟨b, C, Fs, rfl, hl, e', hb, hc, hps⟩
    · cases hi'
    · obtain ⟨val, hv, c0, c1, c2, c3, c4, c5, c6, c7, rfl, m0, m1, m2, m3, m4, m5, m6, m7⟩ := hps i hi'
      have e1 : parts.getD i noV = parts[i] := by simp [List.getD_eq_getElem?_getD, List.getElem?_eq_getElem hi']
      rw [e1] at hv
      have hbb := k b (by simp)
      refine ⟨b, 0, c0, c1, c2, c3, c4, c5, c6, c7, e', hbb.1, hbb.2, OwnVec.vecAt d _ _ _ hv (fun b' hb' => k b' (by have := mem_flat (by omega) hb'; simp only [List.mem_append, List.mem_cons]; exact .inr (.inl (.inr this)))), ?_⟩
      rw [Nat.zero_add]
      exact ⟨cellOf hb m0, cellOf hb m1, cellOf hb m2, cellOf hb m3, cellOf hb m4, cellOf hb m5, cellOf hb m6, cellOf hb m7⟩
theorem FilledIt.own {w : World} {b : Nat} {l : List It} (h : FilledIt w b l.length l.length l) : OwnIts w (some ⟨b, 0, none⟩) l [b] := by
  obtain ⟨C, hC, hn, r⟩ := h
  exact .inr ⟨b, C, rfl, rfl, hC, by omega, r⟩
theorem Filled.own {w : World} {b : Nat} {l : List ByteArray} (h : Filled w b l.length l.length (txtS l)) : OwnTxs w (some ⟨b, 0, none⟩) l [b] := by
  obtain ⟨C, hC, hn, r⟩ := h
  exact .inr ⟨b, C, rfl, rfl, hC, by omega, r⟩

theorem infoVec8 : (Try.prog.info? 32).map (fun i => (i.zero, i.size, i.bytes)) = some (some (.agg #[.int .i64 0, .slice none 0 0, .slice none 0 0, .slice none 0 0, .slice none 0 0, .slice none 0 0, .int .i64 0, .int .i64 0]), 8, 144) := by kernel_rfl
theorem OwnRow.below {w w1 : World} {d b n k : Nat} {l : List Vec} {Fs : List (List Nat)} (h : OwnRow w d b n k l Fs) (hb : Below w.heap.size w w1) (hF : ∀ b ∈ Fs.flatten, b < w.heap.size) : OwnRow w1 d b n k l Fs := by
  obtain ⟨C, hC, hn, hl, r⟩ := h
  refine ⟨C, blk_below hb hC, hn, hl, fun i hi => ?_⟩
  obtain ⟨val, hv, m⟩ := r i hi
  exact ⟨val, hv.kept _ _ _ _ (fun b' hb' => hb.block b' (hF _ (mem_flat (by omega) hb'))), m⟩
theorem OwnRow.old {w : World} {d b n k : Nat} {l : List Vec} {Fs : List (List Nat)} (h : OwnRow w d b n k l Fs) (hk : k < n) :
    (∃ x, w.cell? ⟨b, k * 8, none⟩ = some x) ∧ (∃ x, w.cell? ⟨b, k * 8 + 1, none⟩ = some x) ∧ (∃ x, w.cell? ⟨b, k * 8 + 2, none⟩ = some x) ∧ (∃ x, w.cell? ⟨b, k * 8 + 3, none⟩ = some x) ∧ (∃ x, w.cell? ⟨b, k * 8 + 4, none⟩ = some x) ∧ (∃ x, w.cell? ⟨b, k * 8 + 5, none⟩ = some x) ∧ (∃ x, w.cell? ⟨b, k * 8 + 6, none⟩ = some x) ∧ (∃ x, w.cell? ⟨b, k * 8 + 7, none⟩ = some x) ∧
    w.frozen? ⟨b, k * 8, none⟩ = false ∧ w.frozen? ⟨b, k * 8 + 1, none⟩ = false ∧ w.frozen? ⟨b, k * 8 + 2, none⟩ = false ∧ w.frozen? ⟨b, k * 8 + 3, none⟩ = false ∧ w.frozen? ⟨b, k * 8 + 4, none⟩ = false ∧ w.frozen? ⟨b, k * 8 + 5, none⟩ = false ∧ w.frozen? ⟨b, k * 8 + 6, none⟩ = false ∧ w.frozen? ⟨b, k * 8 + 7, none⟩ = false := by
  obtain ⟨C, hC, hn, _⟩ := h
  exact ⟨⟨_, cellOf hC (Array.getElem?_eq_getElem (by omega))⟩, ⟨_, cellOf hC (Array.getElem?_eq_getElem (by omega))⟩, ⟨_, cellOf hC (Array.getElem?_eq_getElem (by omega))⟩, ⟨_, cellOf hC (Array.getElem?_eq_getElem (by omega))⟩, ⟨_, cellOf hC (Array.getElem?_eq_getElem (by omega))⟩, ⟨_, cellOf hC (Array.getElem?_eq_getElem (by omega))⟩, ⟨_, cellOf hC (Array.getElem?_eq_getElem (by omega))⟩, ⟨_, cellOf hC (Array.getElem?_eq_getElem (by omega))⟩,
    freeOf hC, freeOf hC, freeOf hC, freeOf hC, freeOf hC, freeOf hC, freeOf hC, freeOf hC⟩
/-- The world after an element of a row of vectors was written. -/
def put8 (w : World) (b p : Nat) (c0 c1 c2 c3 c4 c5 c6 c7 : Value) : World :=
  (((((((w.setCell ⟨b, p, none⟩ c0).setCell ⟨b, p + 1, none⟩ c1).setCell ⟨b, p + 2, none⟩ c2).setCell ⟨b, p + 3, none⟩ c3).setCell ⟨b, p + 4, none⟩ c4).setCell ⟨b, p + 5, none⟩ c5).setCell ⟨b, p + 6, none⟩ c6).setCell ⟨b, p + 7, none⟩ c7
def arr8 (C : Array Value) (p : Nat) (c0 c1 c2 c3 c4 c5 c6 c7 : Value) : Array Value :=
  (((((((C.setIfInBounds p c0).setIfInBounds (p + 1) c1).setIfInBounds (p + 2) c2).setIfInBounds (p + 3) c3).setIfInBounds (p + 4) c4).setIfInBounds (p + 5) c5).setIfInBounds (p + 6) c6).setIfInBounds (p + 7) c7
theorem put8_block {w : World} {b p : Nat} {c0 c1 c2 c3 c4 c5 c6 c7 : Value} {C : Array Value} {t : TypeId} (h : w.heap[b]? = some (.cells C t (0, 0))) :
    (put8 w b p c0 c1 c2 c3 c4 c5 c6 c7).heap[b]? = some (.cells (arr8 C p c0 c1 c2 c3 c4 c5 c6 c7) t (0, 0)) := by
  unfold put8 arr8
  exact Joins.block_setCell (Joins.block_setCell (Joins.block_setCell (Joins.block_setCell (Joins.block_setCell (Joins.block_setCell (Joins.block_setCell (Joins.block_setCell h _) _) _) _) _) _) _) _
theorem put8_other {w : World} {b g p : Nat} {c0 c1 c2 c3 c4 c5 c6 c7 : Value} (h : g ≠ b) : (put8 w b p c0 c1 c2 c3 c4 c5 c6 c7).heap[g]? = w.heap[g]? := by
  unfold put8
  rw [Below.heap_setCell _ _ _ _ h, Below.heap_setCell _ _ _ _ h, Below.heap_setCell _ _ _ _ h, Below.heap_setCell _ _ _ _ h, Below.heap_setCell _ _ _ _ h, Below.heap_setCell _ _ _ _ h, Below.heap_setCell _ _ _ _ h, Below.heap_setCell _ _ _ _ h]
theorem put8_below {B : Nat} {w0 w : World} {b p : Nat} {c0 c1 c2 c3 c4 c5 c6 c7 : Value} (h : Below B w0 w) (hB : B ≤ b) : Below B w0 (put8 w b p c0 c1 c2 c3 c4 c5 c6 c7) :=
  (((((((h.setCell hB _).setCell hB _).setCell hB _).setCell hB _).setCell hB _).setCell hB _).setCell hB _).setCell hB _
theorem arr8_size (C : Array Value) (p : Nat) (c0 c1 c2 c3 c4 c5 c6 c7 : Value) : (arr8 C p c0 c1 c2 c3 c4 c5 c6 c7).size = C.size := by unfold arr8; simp
theorem arr8_ne (C : Array Value) (p j : Nat) (c0 c1 c2 c3 c4 c5 c6 c7 : Value) (h : j < p ∨ p + 7 < j) : (arr8 C p c0 c1 c2 c3 c4 c5 c6 c7)[j]? = C[j]? := by
  unfold arr8
  rw [Array.getElem?_setIfInBounds_ne (by omega), Array.getElem?_setIfInBounds_ne (by omega), Array.getElem?_setIfInBounds_ne (by omega), Array.getElem?_setIfInBounds_ne (by omega), Array.getElem?_setIfInBounds_ne (by omega), Array.getElem?_setIfInBounds_ne (by omega), Array.getElem?_setIfInBounds_ne (by omega), Array.getElem?_setIfInBounds_ne (by omega)]
theorem arr8_at (C : Array Value) (i : Nat) (c0 c1 c2 c3 c4 c5 c6 c7 : Value) (h : i * 8 + 7 < C.size) : Eight (arr8 C (i * 8) c0 c1 c2 c3 c4 c5 c6 c7) i (.agg #[c0, c1, c2, c3, c4, c5, c6, c7]) := by
  have h0 : i * 8 < C.size := by omega
  have h1 : i * 8 + 1 < C.size := by omega
  have h2 : i * 8 + 2 < C.size := by omega
  have h3 : i * 8 + 3 < C.size := by omega
  have h4 : i * 8 + 4 < C.size := by omega
  have h5 : i * 8 + 5 < C.size := by omega
  have h6 : i * 8 + 6 < C.size := by omega
  refine ⟨c0, c1, c2, c3, c4, c5, c6, c7, rfl, ?_, ?_, ?_, ?_, ?_, ?_, ?_, ?_⟩ <;> unfold arr8 <;> simp [h, h0, h1, h2, h3, h4, h5, h6]
theorem OwnRow.step {w : World} {d b n k : Nat} {l : List Vec} {Fs : List (List Nat)} {c0 c1 c2 c3 c4 c5 c6 c7 : Value} {F : List Nat} (h : OwnRow w d b n k l Fs) (hk : k < n) (hv : OwnVec w d (l.getD k noV) (.agg #[c0, c1, c2, c3, c4, c5, c6, c7]) F) (hF : ∀ g ∈ Fs.flatten, g ≠ b) (hG : ∀ g ∈ F, g ≠ b) :
    OwnRow (put8 w b (k * 8) c0 c1 c2 c3 c4 c5 c6 c7) d b n (k + 1) l (Fs ++ [F]) := by
  obtain ⟨C, hC, hn, hl, r⟩ := h
  refine ⟨_, put8_block hC, by rw [arr8_size]; exact hn, by simp [hl], fun i hi => ?_⟩
  by_cases e : i = k
  · subst e
    refine ⟨_, ?_, arr8_at C i _ _ _ _ _ _ _ _ (by omega)⟩
    have : (Fs ++ [F]).getD i [] = F := by rw [List.getD_eq_getElem?_getD, List.getElem?_append_right (by omega)]; simp [hl]
    rw [this]
    exact hv.kept _ _ _ _ (fun g hg => put8_other (hG g hg))
  · obtain ⟨val, hv', u0, u1, u2, u3, u4, u5, u6, u7, rfl, m0, m1, m2, m3, m4, m5, m6, m7⟩ := r i (by omega)
    have : (Fs ++ [F]).getD i [] = Fs.getD i [] := by rw [List.getD_eq_getElem?_getD, List.getD_eq_getElem?_getD, List.getElem?_append_left (by omega)]
    rw [this]
    refine ⟨_, hv'.kept _ _ _ _ (fun g hg => put8_other (hF g (mem_flat (by omega) hg))), u0, u1, u2, u3, u4, u5, u6, u7, rfl, ?_, ?_, ?_, ?_, ?_, ?_, ?_, ?_⟩ <;> (rw [arr8_ne _ _ _ _ _ _ _ _ _ _ _ (by omega)]; assumption)
theorem madeRowV (w : World) (d n : Nat) (l : List Vec) (z : Array Value) : OwnRow (w.alloc (.cells (madeCells z (n * 8)) 32)) d w.heap.size n 0 l [] :=
  ⟨_, (MapKept.heap_alloc w _).1, size_madeCells _ _, rfl, fun _ hi => absurd hi (Nat.not_lt_zero _)⟩

/-- The contract of toVector at depth d. -/
structure ToOk (d : Nat) : Prop where
  out : ∀ (v : Vec) (x : Value) (lo hi : Nat) (w : World), VecAt lo hi w d v x → hi ≤ w.heap.size → Small d v →
    Calls Try.prog 6 #[x] w fun e w' => ∃ (y : Value) (F : List Nat), e = .returned y ∧ OwnVec w' d v y F ∧ F.Nodup ∧ (∀ b ∈ F, w.heap.size ≤ b ∧ b < w'.heap.size) ∧ Below w.heap.size w w'
theorem OwnVec.agg {w : World} {d : Nat} {v : Vec} {y : Value} {F : List Nat} (h : OwnVec w d v y F) : ∃ (k : Int) (a1 : Option Addr) (n1 m1 : Nat) (a2 : Option Addr) (n2 m2 : Nat) (a3 : Option Addr) (n3 m3 : Nat) (a4 : Option Addr) (n4 m4 : Nat) (a5 : Option Addr) (n5 m5 : Nat) (code env : Int), y = .agg #[.int .i64 k, .slice a1 n1 m1, .slice a2 n2 m2, .slice a3 n3 m3, .slice a4 n4 m4, .slice a5 n5 m5, .int .i64 code, .int .i64 env] := by
  cases d with
  | zero => exact h.elim
  | succ d =>
    obtain ⟨k, items, parts, names, cls, levels, code, env⟩ := v
    unfold OwnVec at h
    obtain ⟨ai, ci, ap, cp, an, cn, ac, cc, al, cl, Fi, Fp, Fn, Fc, Fl, e, _⟩ := h
    exact ⟨_, _, _, _, _, _, _, _, _, _, _, _, _, _, _, _, _, _, e⟩

set_option maxHeartbeats 2000000 in
theorem toParts (d : Nat) (IH : ToOk d) (parts : List Vec) (a : Option Addr) (cap : Nat) (lo hi : Nat) (w : World) (hs : VecsAt lo hi w d a parts) (hhi : hi ≤ w.heap.size) (hsm : ∀ i, i < parts.length → Small d (parts.getD i noV)) (hn : parts.length ≤ 1048576) :
    Calls Try.prog 14 #[.slice a parts.length cap] w fun e w' => ∃ Fs : List (List Nat), e = .returned (.slice (some ⟨w.heap.size, 0, none⟩) parts.length parts.length) ∧ OwnRow w' d w.heap.size parts.length parts.length parts Fs ∧ Fs.flatten.Nodup ∧ (∀ b ∈ Fs.flatten, w.heap.size < b ∧ b < w'.heap.size) ∧ Below w.heap.size w w' ∧ w.heap.size < w'.heap.size := by
  have A := Lib.hid (fun (k : Nat) (w1 : World) (hk : k < parts.length) (hb : Below w.heap.size w w1) => (hs.below hb hhi).at_ hk)
  have C := Lib.hid (fun (k : Nat) (w1 : World) (x : Value) (hk : k < parts.length) (hb : Below w.heap.size w w1) (hv : VecAt lo hi w1 d (parts.getD k noV) x) => IH.out _ x lo hi w1 hv (Nat.le_trans hhi hb.size) (hsm k hk))
  clear hs hsm IH
  obtain ⟨n, hn'⟩ : ∃ n, parts.length = n := ⟨_, rfl⟩
  rw [hn'] at hn A C ⊢
  clear hn'
  have hmk := run_make_rows (P := Try.prog) 30 32 _ 8 144 Try.underlying30 infoVec8 .i64 .i64 n (by omega) (by omega) w
  have MR := Lib.hid (madeRowV w d n parts (Value.agg #[.int .i64 0, .slice none 0 0, .slice none 0 0, .slice none 0 0, .slice none 0 0, .slice none 0 0, .int .i64 0, .int .i64 0]).cells)
  obtain ⟨o, ho⟩ : ∃ o, Obj.cells (madeCells (Value.agg #[.int .i64 0, .slice none 0 0, .slice none 0 0, .slice none 0 0, .slice none 0 0, .slice none 0 0, .int .i64 0, .int .i64 0]).cells (n * 8)) 32 (0, 0) = o := ⟨_, rfl⟩
  rw [ho] at hmk MR
  clear ho
  go_enter Try.func14, Try.ntmps14
  go_wp2
  go_loopw [4] (fun i wr => ∃ (k : Nat) (Fs : List (List Nat)), k ≤ n ∧ i = .int .i64 k ∧ OwnRow wr d w.heap.size n k parts Fs ∧ Fs.flatten.Nodup ∧ (∀ b ∈ Fs.flatten, w.heap.size < b ∧ b < wr.heap.size) ∧ Below w.heap.size w wr ∧ w.heap.size < wr.heap.size) (fun i _ => n - (intOf i).toNat)
  case atStart => exact ⟨0, [], Nat.zero_le _, rfl, MR.out, List.nodup_nil, (fun _ h => by cases h), (Below.refl _ w).alloc (Nat.le_refl _) _, by simp⟩
  case round =>
    obtain ⟨k, Fs, hk, rfl, hF, hnd, hrg, hb, hsz⟩ := hrel
    clear hmk
    have FF := Lib.hid hF
    have BB := Lib.hid hb
    have ND := Lib.hid hnd
    have RG := Lib.hid hrg
    clear hF hb hnd hrg
    by_cases hlt : k < n
    · obtain ⟨b, off, u0, u1, u2, u3, u4, u5, u6, u7, rfl, hbB, hv, c0, c1, c2, c3, c4, c5, c6, c7⟩ := A.out _ _ hlt BB.out
      have HV := Lib.hid hv
      clear hv
      go_wp2_with fail
      refine (C.out _ _ _ hlt BB.out HV.out).mono ?_
      rintro e w1 ⟨y, F, rfl, hO, hnd, hrg, b1⟩
      obtain ⟨zk, a1, n1, m1, a2, n2, m2, a3, n3, m3, a4, n4, m4, a5, n5, m5, zc, ze, rfl⟩ := hO.agg
      have F1 := Lib.hid (FF.out.below b1 (fun g hg => (RG.out g hg).2))
      have B1 := Lib.hid (below_then BB.out b1)
      have NEXT := Lib.hid (F1.out.step hlt hO (fun g hg => by have := RG.out g hg; omega) (fun g hg => by have := hrg g hg; omega))
      have ND1 := Lib.hid (show (Fs ++ [F]).flatten.Nodup by
        rw [List.flatten_append]
        refine List.nodup_append.2 ⟨ND.out, by simpa using hnd, fun g hg g' hg' e => ?_⟩
        have h1 := RG.out g hg
        have h2 := hrg g' (by simpa using hg')
        omega)
      have hsz1 : wr.heap.size ≤ w1.heap.size := b1.size
      have RG1 := Lib.hid (show ∀ g ∈ (Fs ++ [F]).flatten, w.heap.size < g ∧ g < w1.heap.size by
        intro g hg
        rw [List.flatten_append, List.mem_append] at hg
        rcases hg with hg | hg
        · have h1 := RG.out g hg; omega
        · have h2 := hrg g (by simpa using hg); omega)
      clear b1 hO hnd hrg
      obtain ⟨⟨y0, o0⟩, ⟨y1, o1⟩, ⟨y2, o2⟩, ⟨y3, o3⟩, ⟨y4, o4⟩, ⟨y5, o5⟩, ⟨y6, o6⟩, ⟨y7, o7⟩, f0, f1, f2, f3, f4, f5, f6, f7⟩ := F1.out.old hlt
      have BNEXT := Lib.hid (put8_below (b := w.heap.size) (p := k * 8) (c0 := .int .i64 zk) (c1 := .slice a1 n1 m1) (c2 := .slice a2 n2 m2) (c3 := .slice a3 n3 m3) (c4 := .slice a4 n4 m4) (c5 := .slice a5 n5 m5) (c6 := .int .i64 zc) (c7 := .int .i64 ze) B1.out (Nat.le_refl _))
      have hsz2 : w.heap.size < w1.heap.size := by omega
      go_wp2
      go_roundw
      case rel => exact ⟨k + 1, Fs ++ [F], by omega, by go_num, NEXT.out, ND1.out, by simpa using RG1.out, BNEXT.out, by simpa using hsz2⟩
      case measure => simp [intOf]; omega
    · obtain rfl : k = n := by omega
      go_wp2
      go_ret
      exact ⟨Fs, rfl, FF.out, ND.out, RG.out, BB.out, hsz⟩

theorem infoVec : (Try.prog.info? 32).map (·.size) = some 8 := by kernel_rfl
/-- A vector that lies in the result's block. -/
theorem vec_ret0 {fn : Func} {R : Ending → World → Prop} {act : Act} {w : World} {g : Nat} {p : Tmp} {a b c d e f h i : Value} {t : TypeId} {fr : Nat × Nat}
    (hfn : fn.results = #[.cell p 32]) (hp : act.tmps.getD p undef = .pointer (some ⟨g, 0, none⟩)) (hd : act.defers = []) (hg : w.heap[g]? = some (.cells #[a, b, c, d, e, f, h, i] t fr))
    (hR : R (.returned (.agg #[a, b, c, d, e, f, h, i])) w) : bodyPost Try.prog fn R .ret act w :=
  bodyPost_ret (results_cell_row hfn _ _ g t #[a, b, c, d, e, f, h, i] fr _ hp hg Try.underlying32 rfl infoVec) hd hR
theorem keep_step {W W' : World} {o j : Nat} {v : Value} (hb : Below (W.setCell ⟨o, j, none⟩ v).heap.size (W.setCell ⟨o, j, none⟩ v) W') {b : Nat} (h1 : b < W.heap.size) (h2 : b ≠ o) : W'.heap[b]? = W.heap[b]? :=
  (hb.block b (by simpa using h1)).trans (Below.heap_setCell _ _ _ _ h2)
theorem blk_set {w : World} {b i : Nat} {C : Array Value} {t : TypeId} {fr : Nat × Nat} (h : w.heap[b]? = some (.cells C t fr)) (v : Value) : (w.setCell ⟨b, i, none⟩ v).heap[b]? = some (.cells (C.setIfInBounds i v) t fr) := Joins.block_setCell h v

theorem OwnRow.kept {w w1 : World} {d g n k : Nat} {l : List Vec} {Fs : List (List Nat)} (h : OwnRow w d g n k l Fs) (hk : ∀ b ∈ g :: Fs.flatten, w1.heap[b]? = w.heap[b]?) : OwnRow w1 d g n k l Fs := by
  obtain ⟨C, hC, hn, hl, r⟩ := h
  refine ⟨C, (hk g (by simp)).trans hC, hn, hl, fun i hi => ?_⟩
  obtain ⟨val, hv, m⟩ := r i hi
  exact ⟨val, hv.kept _ _ _ _ (fun b' hb' => hk b' (List.mem_cons.2 (.inr (mem_flat (by omega) hb')))), m⟩
theorem OwnRow.own {w : World} {d g : Nat} {l : List Vec} {Fs : List (List Nat)} (h : OwnRow w d g l.length l.length l Fs) :
    (l = [] ∧ (g :: Fs.flatten) = []) ∨ ∃ b C, ∃ Gs : List (List Nat), (g :: Fs.flatten) = b :: Gs.flatten ∧ Gs.length = l.length ∧ (some ⟨g, 0, none⟩ : Option Addr) = some ⟨b, 0, none⟩ ∧ w.heap[b]? = some (.cells C 32 (0, 0)) ∧ l.length * 8 ≤ C.size ∧
        ∀ i, i < l.length → ∃ val, OwnVec w d (l.getD i noV) val (Gs.getD i []) ∧ Eight C i val := by
  obtain ⟨C, hC, hn, hl, r⟩ := h
  exact .inr ⟨g, C, Fs, rfl, hl, rfl, hC, by omega, r⟩

theorem nodup_ranges {g1 g2 g3 g4 g5 : Nat} {L : List Nat} (nd : L.Nodup) (h12 : g1 < g2) (hL : ∀ b ∈ L, g2 < b ∧ b < g3) (h23 : g2 < g3) (h34 : g3 < g4) (h45 : g4 < g5) : ([g1] ++ ((g2 :: L) ++ ([g3] ++ ([g4] ++ [g5])))).Nodup := by
  have e : [g1] ++ ((g2 :: L) ++ ([g3] ++ ([g4] ++ [g5]))) = g1 :: g2 :: (L ++ [g3, g4, g5]) := by simp
  rw [e, List.nodup_cons, List.nodup_cons, List.nodup_append]
  refine ⟨fun h => ?_, fun h => ?_, nd, ?_, fun a ha b hb e => ?_⟩
  · simp only [List.mem_cons, List.mem_append, List.not_mem_nil, or_false] at h
    rcases h with h | h | h | h | h
    · omega
    · have := hL _ h; omega
    · omega
    · omega
    · omega
  · simp only [List.mem_cons, List.mem_append, List.not_mem_nil, or_false] at h
    rcases h with h | h | h | h
    · have := hL _ h; omega
    · omega
    · omega
    · omega
  · simp only [List.nodup_cons, List.mem_cons, List.not_mem_nil, or_false, not_false_eq_true, List.nodup_nil, and_true]
    omega
  · simp only [List.mem_cons, List.not_mem_nil, or_false] at hb
    have := hL _ ha
    omega
theorem toDone {d o : Nat} {w w1 w2 w3 w4 w5 WF : World} {kk code env : Int} {items : List It} {parts : List Vec} {names cls levels : List ByteArray} {g1 g2 g3 g4 g5 : Nat} {Fs : List (List Nat)}
    (ho : o = w.heap.size + 1 + 1) (hz1 : w.heap.size + 3 ≤ g1) (hs1 : g1 < w1.heap.size) (hz2 : w1.heap.size ≤ g2) (hs2 : g2 < w2.heap.size) (hz3 : w2.heap.size ≤ g3) (hs3 : g3 < w3.heap.size) (hz4 : w3.heap.size ≤ g4) (hs4 : g4 < w4.heap.size) (hz5 : w4.heap.size ≤ g5) (hs5 : g5 < w5.heap.size)
    (S2 : ∀ b', b' < w1.heap.size → b' ≠ o → w2.heap[b']? = w1.heap[b']?) (S3 : ∀ b', b' < w2.heap.size → b' ≠ o → w3.heap[b']? = w2.heap[b']?) (S4 : ∀ b', b' < w3.heap.size → b' ≠ o → w4.heap[b']? = w3.heap[b']?) (S5 : ∀ b', b' < w4.heap.size → b' ≠ o → w5.heap[b']? = w4.heap[b']?)
    (KF : ∀ b', b' ≠ w.heap.size + 1 → b' ≠ o → WF.heap[b']? = w5.heap[b']?) (hsz : WF.heap.size = w5.heap.size)
    (Q1 : OwnIts w1 (some ⟨g1, 0, none⟩) items [g1]) (Q2 : OwnRow w2 d g2 parts.length parts.length parts Fs) (ND : Fs.flatten.Nodup) (RG : ∀ b ∈ Fs.flatten, g2 < b ∧ b < w2.heap.size)
    (Q3 : OwnTxs w3 (some ⟨g3, 0, none⟩) names [g3]) (Q4 : OwnTxs w4 (some ⟨g4, 0, none⟩) cls [g4]) (Q5 : OwnTxs w5 (some ⟨g5, 0, none⟩) levels [g5]) :
    ∃ F, OwnVec WF (d + 1) (.mk kk items parts names cls levels code env) (.agg #[.int .i64 kk, .slice (some ⟨g1, 0, none⟩) items.length items.length, .slice (some ⟨g2, 0, none⟩) parts.length parts.length, .slice (some ⟨g3, 0, none⟩) names.length names.length, .slice (some ⟨g4, 0, none⟩) cls.length cls.length, .slice (some ⟨g5, 0, none⟩) levels.length levels.length, .int .i64 code, .int .i64 env]) F ∧ F.Nodup ∧ ∀ b ∈ F, w.heap.size ≤ b ∧ b < WF.heap.size := by
  refine ⟨[g1] ++ ((g2 :: Fs.flatten) ++ ([g3] ++ ([g4] ++ [g5]))), ?_, nodup_ranges ND (by omega) (fun b hb => by have := RG b hb; omega) (by omega) (by omega) (by omega), ?_⟩
  · unfold OwnVec
    refine ⟨_, _, _, _, _, _, _, _, _, _, [g1], g2 :: Fs.flatten, [g3], [g4], [g5], rfl, rfl, ⟨Nat.le_refl _, Nat.le_refl _, Nat.le_refl _, Nat.le_refl _, Nat.le_refl _⟩, Q1.kept ?_, Q3.kept ?_, Q4.kept ?_, Q5.kept ?_, (Q2.kept ?_).own⟩
    · intro b hb
      obtain rfl := List.mem_singleton.1 hb
      exact (((KF _ (by omega) (by omega)).trans (S5 _ (by omega) (by omega))).trans (S4 _ (by omega) (by omega))).trans ((S3 _ (by omega) (by omega)).trans (S2 _ (by omega) (by omega)))
    · intro b hb
      obtain rfl := List.mem_singleton.1 hb
      exact ((KF _ (by omega) (by omega)).trans (S5 _ (by omega) (by omega))).trans (S4 _ (by omega) (by omega))
    · intro b hb
      obtain rfl := List.mem_singleton.1 hb
      exact (KF _ (by omega) (by omega)).trans (S5 _ (by omega) (by omega))
    · intro b hb
      obtain rfl := List.mem_singleton.1 hb
      exact KF _ (by omega) (by omega)
    · intro b hb
      have hr : g2 ≤ b ∧ b < w2.heap.size := by
        rcases List.mem_cons.1 hb with rfl | hb
        · exact ⟨Nat.le_refl _, hs2⟩
        · have := RG b hb; omega
      exact (((KF _ (by omega) (by omega)).trans (S5 _ (by omega) (by omega))).trans (S4 _ (by omega) (by omega))).trans (S3 _ (by omega) (by omega))
  · intro b hb
    rw [hsz]
    simp only [List.cons_append, List.nil_append, List.mem_cons, List.mem_append, List.not_mem_nil, or_false] at hb
    rcases hb with rfl | rfl | hb | rfl | rfl | rfl
    · omega
    · omega
    · have := RG b hb; omega
    · omega
    · omega
    · omega
theorem fin_keep {w : World} {o g b : Nat} {x y z c0 c1 c2 c3 c4 c5 c6 c7 : Value} (h1 : b ≠ g) (h2 : b ≠ o) : (put8 (((w.setCell ⟨o, 5, none⟩ x).setCell ⟨o, 6, none⟩ y).setCell ⟨o, 7, none⟩ z) g 0 c0 c1 c2 c3 c4 c5 c6 c7).heap[b]? = w.heap[b]? := by
  rw [put8_other h1, Below.heap_setCell _ _ _ _ h2, Below.heap_setCell _ _ _ _ h2, Below.heap_setCell _ _ _ _ h2]
theorem fin_size {w : World} {o g : Nat} {x y z c0 c1 c2 c3 c4 c5 c6 c7 : Value} : (put8 (((w.setCell ⟨o, 5, none⟩ x).setCell ⟨o, 6, none⟩ y).setCell ⟨o, 7, none⟩ z) g 0 c0 c1 c2 c3 c4 c5 c6 c7).heap.size = w.heap.size := by
  unfold put8; simp
theorem fin_below {B : Nat} {w0 w : World} {o g : Nat} {x y z c0 c1 c2 c3 c4 c5 c6 c7 : Value} (h : Below B w0 w) (ho : B ≤ o) (hg : B ≤ g) : Below B w0 (put8 (((w.setCell ⟨o, 5, none⟩ x).setCell ⟨o, 6, none⟩ y).setCell ⟨o, 7, none⟩ z) g 0 c0 c1 c2 c3 c4 c5 c6 c7) :=
  put8_below (((h.setCell (p := ⟨o, 5, none⟩) ho x).setCell (p := ⟨o, 6, none⟩) ho y).setCell (p := ⟨o, 7, none⟩) ho z) hg
theorem put8_lit {w : World} {b : Nat} {z0 z1 z2 z3 z4 z5 z6 z7 c0 c1 c2 c3 c4 c5 c6 c7 : Value} {t : TypeId} (h : w.heap[b]? = some (.cells #[z0, z1, z2, z3, z4, z5, z6, z7] t (0, 0))) :
    (put8 w b 0 c0 c1 c2 c3 c4 c5 c6 c7).heap[b]? = some (.cells #[c0, c1, c2, c3, c4, c5, c6, c7] t (0, 0)) := by
  have h0 : (w.setCell ⟨b, 0, none⟩ c0).heap[b]? = some (.cells #[c0, z1, z2, z3, z4, z5, z6, z7] t (0, 0)) := Joins.block_setCell h c0
  have h1 : ((w.setCell ⟨b, 0, none⟩ c0).setCell ⟨b, 1, none⟩ c1).heap[b]? = some (.cells #[c0, c1, z2, z3, z4, z5, z6, z7] t (0, 0)) := Joins.block_setCell h0 c1
  have h2 : (((w.setCell ⟨b, 0, none⟩ c0).setCell ⟨b, 1, none⟩ c1).setCell ⟨b, 2, none⟩ c2).heap[b]? = some (.cells #[c0, c1, c2, z3, z4, z5, z6, z7] t (0, 0)) := Joins.block_setCell h1 c2
  have h3 : ((((w.setCell ⟨b, 0, none⟩ c0).setCell ⟨b, 1, none⟩ c1).setCell ⟨b, 2, none⟩ c2).setCell ⟨b, 3, none⟩ c3).heap[b]? = some (.cells #[c0, c1, c2, c3, z4, z5, z6, z7] t (0, 0)) := Joins.block_setCell h2 c3
  have h4 : (((((w.setCell ⟨b, 0, none⟩ c0).setCell ⟨b, 1, none⟩ c1).setCell ⟨b, 2, none⟩ c2).setCell ⟨b, 3, none⟩ c3).setCell ⟨b, 4, none⟩ c4).heap[b]? = some (.cells #[c0, c1, c2, c3, c4, z5, z6, z7] t (0, 0)) := Joins.block_setCell h3 c4
  have h5 : ((((((w.setCell ⟨b, 0, none⟩ c0).setCell ⟨b, 1, none⟩ c1).setCell ⟨b, 2, none⟩ c2).setCell ⟨b, 3, none⟩ c3).setCell ⟨b, 4, none⟩ c4).setCell ⟨b, 5, none⟩ c5).heap[b]? = some (.cells #[c0, c1, c2, c3, c4, c5, z6, z7] t (0, 0)) := Joins.block_setCell h4 c5
  have h6 : (((((((w.setCell ⟨b, 0, none⟩ c0).setCell ⟨b, 1, none⟩ c1).setCell ⟨b, 2, none⟩ c2).setCell ⟨b, 3, none⟩ c3).setCell ⟨b, 4, none⟩ c4).setCell ⟨b, 5, none⟩ c5).setCell ⟨b, 6, none⟩ c6).heap[b]? = some (.cells #[c0, c1, c2, c3, c4, c5, c6, z7] t (0, 0)) := Joins.block_setCell h5 c6
  have h7 : ((((((((w.setCell ⟨b, 0, none⟩ c0).setCell ⟨b, 1, none⟩ c1).setCell ⟨b, 2, none⟩ c2).setCell ⟨b, 3, none⟩ c3).setCell ⟨b, 4, none⟩ c4).setCell ⟨b, 5, none⟩ c5).setCell ⟨b, 6, none⟩ c6).setCell ⟨b, 7, none⟩ c7).heap[b]? = some (.cells #[c0, c1, c2, c3, c4, c5, c6, c7] t (0, 0)) := Joins.block_setCell h6 c7
  exact h7
/-- The last world of a function that returns a vector from a block of its own. -/
theorem vec_done {fn : Func} {R : Ending → World → Prop} {act : Act} {w : World} {g o : Nat} {p : Tmp} {x y z z0 z1 z2 z3 z4 z5 z6 z7 c0 c1 c2 c3 c4 c5 c6 c7 : Value} {t : TypeId}
    (hfn : fn.results = #[.cell p 32]) (hp : act.tmps.getD p undef = .pointer (some ⟨g, 0, none⟩)) (hd : act.defers = []) (hg : w.heap[g]? = some (.cells #[z0, z1, z2, z3, z4, z5, z6, z7] t (0, 0))) (hne : g ≠ o)
    (hR : R (.returned (.agg #[c0, c1, c2, c3, c4, c5, c6, c7])) (put8 (((w.setCell ⟨o, 5, none⟩ x).setCell ⟨o, 6, none⟩ y).setCell ⟨o, 7, none⟩ z) g 0 c0 c1 c2 c3 c4 c5 c6 c7)) :
    bodyPost Try.prog fn R .ret act (((((((((((w.setCell ⟨o, 5, none⟩ x).setCell ⟨o, 6, none⟩ y).setCell ⟨o, 7, none⟩ z).setCell ⟨g, 0, none⟩ c0).setCell ⟨g, 1, none⟩ c1).setCell ⟨g, 2, none⟩ c2).setCell ⟨g, 3, none⟩ c3).setCell ⟨g, 4, none⟩ c4).setCell ⟨g, 5, none⟩ c5).setCell ⟨g, 6, none⟩ c6).setCell ⟨g, 7, none⟩ c7) :=
  vec_ret0 hfn hp hd (put8_lit (by rw [Below.heap_setCell _ _ _ _ hne, Below.heap_setCell _ _ _ _ hne, Below.heap_setCell _ _ _ _ hne]; exact hg)) hR

set_option maxHeartbeats 1500000 in
theorem toStep (d : Nat) (IH : ToOk d) : ToOk (d + 1) := by
  refine ⟨fun v x lo hi w hv hhi hsm => ?_⟩
  obtain ⟨kk, items, parts, names, cls, levels, code, env⟩ := v
  obtain ⟨d', ai, ci, ap, cp, an, cn, ac, cc, al, cl, ed, rfl, hI, hN, hC, hL, hP⟩ := vecAt_open hv
  obtain rfl : d = d' := by omega
  obtain ⟨li, lp, ln, lc, ll, _, _, _, _, hsp⟩ := hsm
  have hfp : ∀ i, i < parts.length → Small d (parts.getD i noV) := fun i hi => hsp _ (by rw [List.getD_eq_getElem?_getD, List.getElem?_eq_getElem hi]; exact List.getElem_mem hi)
  have CI0 : (∀ (w1 : World), Below w.heap.size w w1 → Calls Try.prog 13 #[.slice ai items.length ci] w1 fun e w' => ∃ g, e = .returned (.slice (some ⟨g, 0, none⟩) items.length items.length) ∧ OwnIts w' (some ⟨g, 0, none⟩) items [g] ∧ w1.heap.size ≤ g ∧ g < w'.heap.size ∧ Below w1.heap.size w1 w') := by
    refine (fun w1 hb => (toItems items ai ci lo hi w1 (hI.below hb hhi) (Nat.le_trans hhi hb.size) li).mono ?_)
    rintro e w' ⟨rfl, f, b⟩
    exact ⟨_, rfl, f.own, Nat.le_refl _, f.lt, b⟩
  have CP0 : (∀ (w1 : World), Below w.heap.size w w1 → Calls Try.prog 14 #[.slice ap parts.length cp] w1 fun e w' => ∃ g, ∃ Fs : List (List Nat), e = .returned (.slice (some ⟨g, 0, none⟩) parts.length parts.length) ∧ OwnRow w' d g parts.length parts.length parts Fs ∧ Fs.flatten.Nodup ∧ (∀ b ∈ Fs.flatten, g < b ∧ b < w'.heap.size) ∧ w1.heap.size ≤ g ∧ g < w'.heap.size ∧ Below w1.heap.size w1 w') := by
    refine (fun w1 hb => (toParts d IH parts ap cp lo hi w1 (hP.below hb hhi) (Nat.le_trans hhi hb.size) hfp lp).mono ?_)
    rintro e w' ⟨Fs, rfl, f, nd, rg, b, hsz⟩
    exact ⟨_, Fs, rfl, f, nd, rg, Nat.le_refl _, hsz, b⟩
  have TS : ∀ (l : List ByteArray) (a : Option Addr) (cap : Nat), TextsAt lo hi w a l → l.length ≤ 1048576 → ∀ (w1 : World), Below w.heap.size w w1 →
      Calls Try.prog 15 #[.slice a l.length cap] w1 fun e w' => ∃ g, e = .returned (.slice (some ⟨g, 0, none⟩) l.length l.length) ∧ OwnTxs w' (some ⟨g, 0, none⟩) l [g] ∧ w1.heap.size ≤ g ∧ g < w'.heap.size ∧ Below w1.heap.size w1 w' := by
    intro l a cap ht hlen w1 hb
    refine (toStrs a l.length cap (txtS l) w1 ((ht.below hb hhi).strs.mono (Nat.le_trans hhi hb.size)) hlen).mono ?_
    rintro e w' ⟨rfl, f, b⟩
    exact ⟨_, rfl, f.own, Nat.le_refl _, by obtain ⟨C, hC, _⟩ := f; exact hC.lt, b⟩
  have CI := Lib.hid CI0
  have CP := Lib.hid CP0
  have CN := Lib.hid (TS names an cn hN ln)
  have CC := Lib.hid (TS cls ac cc hC lc)
  have CL := Lib.hid (TS levels al cl hL ll)
  clear CI0 CP0 hv hI hN hC hL hP hfp hsp TS ed li lp ln lc ll IH
  go_enter Try.func6, Try.ntmps6
  go_wp2_with fail
  refine (CI.out _ (below3 w _ _ _)).mono ?_
  rintro e w1 ⟨g1, rfl, O1, hg1, hs1, b1⟩
  have B1 := Lib.hid (below_then (below3 w _ _ _) b1)
  have KA1 := Lib.hid (blk_below b1 (blk_old (blk_old (blk_new w _ rfl))))
  have KO1 := Lib.hid (blk_below b1 (blk_new _ _ (show w.heap.size + 1 + 1 = _ by simp)))
  have KR1 := Lib.hid (blk_below b1 (blk_old (blk_new _ _ (show w.heap.size + 1 = _ by simp))))
  have hz1 : w.heap.size + 3 ≤ g1 := by simpa using hg1
  have Q1 := Lib.hid O1
  clear b1 O1 hg1
  obtain ⟨k0, k1, k2, k3, k4, k5, k6, k7⟩ := vec8 KA1.out
  obtain ⟨l0, l1, l2, l3, l4, l5, l6, l7⟩ := vec8 KO1.out
  have fo1 := freeOf (i := 1) KO1.out
  go_wp2_with fail
  have bs1 := Lib.hid (B1.out.setCell (p := ⟨w.heap.size + 1 + 1, 1, none⟩) (by simp only; omega) (.slice (some ⟨g1, 0, none⟩) items.length items.length))
  refine (CP.out _ bs1.out).mono ?_
  rintro e w2 ⟨g2, Fs, rfl, O, hnd, hrg, hg, hs2, b⟩
  have S2 := Lib.hid (fun (b' : Nat) (h1 : b' < w1.heap.size) (h2 : b' ≠ w.heap.size + 1 + 1) => keep_step b h1 h2)
  have hz2 : w1.heap.size ≤ g2 := by simpa using hg
  have B2 := Lib.hid (bs1.out.trans (b.mono bs1.out.size))
  have KA2 := Lib.hid ((keep_step b (by omega) (by omega)).trans KA1.out)
  have KO2 := Lib.hid (blk_below b (blk_set KO1.out (.slice (some ⟨g1, 0, none⟩) items.length items.length)))
  have KR2 := Lib.hid ((keep_step b (by omega) (by omega)).trans KR1.out)
  have Q2 := Lib.hid O
  have ND := Lib.hid hnd
  have RG := Lib.hid hrg
  clear hnd hrg
  clear b O hg k0 k1 k2 k3 k4 k5 k6 k7 l0 l1 l2 l3 l4 l5 l6 l7 fo1
  obtain ⟨k0, k1, k2, k3, k4, k5, k6, k7⟩ := vec8 KA2.out
  obtain ⟨l0, l1, l2, l3, l4, l5, l6, l7⟩ := vec8 KO2.out
  have fo2 := freeOf (i := 2) KO2.out
  go_wp2_with fail
  have bs2 := Lib.hid (B2.out.setCell (p := ⟨w.heap.size + 1 + 1, 2, none⟩) (by simp only; omega) (.slice (some ⟨g2, 0, none⟩) parts.length parts.length))
  refine (CN.out _ bs2.out).mono ?_
  rintro e w3 ⟨g3, rfl, O, hg, hs3, b⟩
  have S3 := Lib.hid (fun (b' : Nat) (h1 : b' < w2.heap.size) (h2 : b' ≠ w.heap.size + 1 + 1) => keep_step b h1 h2)
  have hz3 : w2.heap.size ≤ g3 := by simpa using hg
  have B3 := Lib.hid (bs2.out.trans (b.mono bs2.out.size))
  have KA3 := Lib.hid ((keep_step b (by omega) (by omega)).trans KA2.out)
  have KO3 := Lib.hid (blk_below b (blk_set KO2.out (.slice (some ⟨g2, 0, none⟩) parts.length parts.length)))
  have KR3 := Lib.hid ((keep_step b (by omega) (by omega)).trans KR2.out)
  have Q3 := Lib.hid O
  clear b O hg k0 k1 k2 k3 k4 k5 k6 k7 l0 l1 l2 l3 l4 l5 l6 l7 fo2
  obtain ⟨k0, k1, k2, k3, k4, k5, k6, k7⟩ := vec8 KA3.out
  obtain ⟨l0, l1, l2, l3, l4, l5, l6, l7⟩ := vec8 KO3.out
  have fo3 := freeOf (i := 3) KO3.out
  go_wp2_with fail
  have bs3 := Lib.hid (B3.out.setCell (p := ⟨w.heap.size + 1 + 1, 3, none⟩) (by simp only; omega) (.slice (some ⟨g3, 0, none⟩) names.length names.length))
  refine (CC.out _ bs3.out).mono ?_
  rintro e w4 ⟨g4, rfl, O, hg, hs4, b⟩
  have S4 := Lib.hid (fun (b' : Nat) (h1 : b' < w3.heap.size) (h2 : b' ≠ w.heap.size + 1 + 1) => keep_step b h1 h2)
  have hz4 : w3.heap.size ≤ g4 := by simpa using hg
  have B4 := Lib.hid (bs3.out.trans (b.mono bs3.out.size))
  have KA4 := Lib.hid ((keep_step b (by omega) (by omega)).trans KA3.out)
  have KO4 := Lib.hid (blk_below b (blk_set KO3.out (.slice (some ⟨g3, 0, none⟩) names.length names.length)))
  have KR4 := Lib.hid ((keep_step b (by omega) (by omega)).trans KR3.out)
  have Q4 := Lib.hid O
  clear b O hg k0 k1 k2 k3 k4 k5 k6 k7 l0 l1 l2 l3 l4 l5 l6 l7 fo3
  obtain ⟨k0, k1, k2, k3, k4, k5, k6, k7⟩ := vec8 KA4.out
  obtain ⟨l0, l1, l2, l3, l4, l5, l6, l7⟩ := vec8 KO4.out
  have fo4 := freeOf (i := 4) KO4.out
  go_wp2_with fail
  have bs4 := Lib.hid (B4.out.setCell (p := ⟨w.heap.size + 1 + 1, 4, none⟩) (by simp only; omega) (.slice (some ⟨g4, 0, none⟩) cls.length cls.length))
  refine (CL.out _ bs4.out).mono ?_
  rintro e w5 ⟨g5, rfl, O, hg, hs5, b⟩
  have S5 := Lib.hid (fun (b' : Nat) (h1 : b' < w4.heap.size) (h2 : b' ≠ w.heap.size + 1 + 1) => keep_step b h1 h2)
  have hz5 : w4.heap.size ≤ g5 := by simpa using hg
  have B5 := Lib.hid (bs4.out.trans (b.mono bs4.out.size))
  have KA5 := Lib.hid ((keep_step b (by omega) (by omega)).trans KA4.out)
  have KO5 := Lib.hid (blk_below b (blk_set KO4.out (.slice (some ⟨g4, 0, none⟩) cls.length cls.length)))
  have KR5 := Lib.hid ((keep_step b (by omega) (by omega)).trans KR4.out)
  have Q5 := Lib.hid O
  clear b O hg k0 k1 k2 k3 k4 k5 k6 k7 l0 l1 l2 l3 l4 l5 l6 l7 fo4
  obtain ⟨k0, k1, k2, k3, k4, k5, k6, k7⟩ := vec8 KA5.out
  obtain ⟨l0, l1, l2, l3, l4, l5, l6, l7⟩ := vec8 KO5.out
  have fo5 := freeOf (i := 5) KO5.out
  have fo6 := freeOf (i := 6) KO5.out
  have fo7 := freeOf (i := 7) KO5.out
  obtain ⟨r0, r1, r2, r3, r4, r5, r6, r7⟩ := vec8 KR5.out
  have fr0 := freeOf (i := 0) KR5.out
  have fr1 := freeOf (i := 1) KR5.out
  have fr2 := freeOf (i := 2) KR5.out
  have fr3 := freeOf (i := 3) KR5.out
  have fr4 := freeOf (i := 4) KR5.out
  have fr5 := freeOf (i := 5) KR5.out
  have fr6 := freeOf (i := 6) KR5.out
  have fr7 := freeOf (i := 7) KR5.out
  go_wp2
  refine vec_done (g := w.heap.size + 1) rfl rfl rfl KR5.out (by omega) ?_
  obtain ⟨WF, hWF, hk, hsz, hbf⟩ : ∃ WF, put8 (((w5.setCell ⟨w.heap.size + 1 + 1, 5, none⟩ (.slice (some ⟨g5, 0, none⟩) levels.length levels.length)).setCell ⟨w.heap.size + 1 + 1, 6, none⟩ (.int .i64 code)).setCell ⟨w.heap.size + 1 + 1, 7, none⟩ (.int .i64 env)) (w.heap.size + 1) 0 (.int .i64 kk) (.slice (some ⟨g1, 0, none⟩) items.length items.length) (.slice (some ⟨g2, 0, none⟩) parts.length parts.length) (.slice (some ⟨g3, 0, none⟩) names.length names.length) (.slice (some ⟨g4, 0, none⟩) cls.length cls.length) (.slice (some ⟨g5, 0, none⟩) levels.length levels.length) (.int .i64 code) (.int .i64 env) = WF ∧ (∀ b', b' ≠ w.heap.size + 1 → b' ≠ w.heap.size + 1 + 1 → WF.heap[b']? = w5.heap[b']?) ∧ WF.heap.size = w5.heap.size ∧ Below w.heap.size w WF :=
    ⟨_, rfl, fun _ h1 h2 => fin_keep h1 h2, fin_size, fin_below B5.out (by omega) (by omega)⟩
  rw [hWF]
  obtain ⟨F, f1, f2, f3⟩ := toDone (d := d) (w := w) (kk := kk) (code := code) (env := env) rfl hz1 hs1 hz2 hs2 hz3 hs3 hz4 hs4 hz5 hs5 S2.out S3.out S4.out S5.out hk hsz Q1.out Q2.out ND.out RG.out Q3.out Q4.out Q5.out
  exact ⟨_, F, rfl, f1, f2, f3, hbf⟩
theorem toZero : ToOk 0 := ⟨fun _ _ _ _ _ h => h.elim⟩
theorem toAll : ∀ d, ToOk d
  | 0 => toZero
  | d + 1 => toStep d (toAll d)
end Go.Proofs.Ytddebgmjolojeaa
