/- Vectors as data, and how memory holds them. -/
import Derived.Test.YtikgcogiiohahaaGreatDoorRows
import Derived.Test.YtikgcogiiohahaaGreatDoorNumMath
import Derived.Test.YtikgcogiiohahaaGreatDoorNumKit
import Derived.Test.YtikgcogiiohahaaGreatDoorStrs
namespace Go.Proofs.YtikgcogiiohahaaGreatDoor
set_option maxRecDepth 100000
open Go.RowKit
set_option linter.unusedVariables false

/-- A vector. -/
inductive Vec where
  | mk (k : Int) (items : List It) (parts : List Vec) (names cls levels : List ByteArray) (code env : Int)

/-- The slice at a holds the items of l, in a block from lo to hi. -/
def ItemsAt (lo hi : Nat) (w : World) (a : Option Addr) (l : List It) : Prop :=
  ∀ i x, l[i]? = some x → ∃ b off, a = some ⟨b, off, none⟩ ∧ lo ≤ b ∧ b < hi ∧ w.cell? ⟨b, off + i * 3, none⟩ = some (.int .i64 x.n) ∧ w.cell? ⟨b, off + i * 3 + 1, none⟩ = some (.int .i64 x.d) ∧ w.cell? ⟨b, off + i * 3 + 2, none⟩ = some (.string x.t)
/-- No list is longer than its slice's capacity. -/
def CapsOk (ni ci np cp nn cn nc cc nl cl : Nat) : Prop := ni ≤ ci ∧ np ≤ cp ∧ nn ≤ cn ∧ nc ≤ cc ∧ nl ≤ cl
def TextsAt (lo hi : Nat) (w : World) (a : Option Addr) (l : List ByteArray) : Prop :=
  ∀ i x, l[i]? = some x → ∃ b off, a = some ⟨b, off, none⟩ ∧ lo ≤ b ∧ b < hi ∧ w.cell? ⟨b, off + i, none⟩ = some (.string x)
/-- The value val is the vector v, nested less than d deep, and what it leads to lies in blocks from lo to hi. -/
def VecAt (lo hi : Nat) (w : World) : Nat → Vec → Value → Prop
  | 0, _, _ => False
  | d + 1, .mk k items parts names cls levels code env, val => ∃ ai ci ap cp an cn ac cc al cl,
      val = .agg #[.int .i64 k, .slice ai items.length ci, .slice ap parts.length cp, .slice an names.length cn, .slice ac cls.length cc, .slice al levels.length cl, .int .i64 code, .int .i64 env] ∧ CapsOk items.length ci parts.length cp names.length cn cls.length cc levels.length cl ∧
      ItemsAt lo hi w ai items ∧ TextsAt lo hi w an names ∧ TextsAt lo hi w ac cls ∧ TextsAt lo hi w al levels ∧
      ∀ i p, parts[i]? = some p → ∃ b off c0 c1 c2 c3 c4 c5 c6 c7, ap = some ⟨b, off, none⟩ ∧ lo ≤ b ∧ b < hi ∧ VecAt lo hi w d p (.agg #[c0, c1, c2, c3, c4, c5, c6, c7]) ∧
        w.cell? ⟨b, off + i * 8, none⟩ = some c0 ∧ w.cell? ⟨b, off + i * 8 + 1, none⟩ = some c1 ∧ w.cell? ⟨b, off + i * 8 + 2, none⟩ = some c2 ∧ w.cell? ⟨b, off + i * 8 + 3, none⟩ = some c3 ∧ w.cell? ⟨b, off + i * 8 + 4, none⟩ = some c4 ∧ w.cell? ⟨b, off + i * 8 + 5, none⟩ = some c5 ∧ w.cell? ⟨b, off + i * 8 + 6, none⟩ = some c6 ∧ w.cell? ⟨b, off + i * 8 + 7, none⟩ = some c7
/-- The slice at a holds the vectors of l. -/
def VecsAt (lo hi : Nat) (w : World) (d : Nat) (a : Option Addr) (l : List Vec) : Prop :=
  ∀ i p, l[i]? = some p → ∃ b off c0 c1 c2 c3 c4 c5 c6 c7, a = some ⟨b, off, none⟩ ∧ lo ≤ b ∧ b < hi ∧ VecAt lo hi w d p (.agg #[c0, c1, c2, c3, c4, c5, c6, c7]) ∧
    w.cell? ⟨b, off + i * 8, none⟩ = some c0 ∧ w.cell? ⟨b, off + i * 8 + 1, none⟩ = some c1 ∧ w.cell? ⟨b, off + i * 8 + 2, none⟩ = some c2 ∧ w.cell? ⟨b, off + i * 8 + 3, none⟩ = some c3 ∧ w.cell? ⟨b, off + i * 8 + 4, none⟩ = some c4 ∧ w.cell? ⟨b, off + i * 8 + 5, none⟩ = some c5 ∧ w.cell? ⟨b, off + i * 8 + 6, none⟩ = some c6 ∧ w.cell? ⟨b, off + i * 8 + 7, none⟩ = some c7
theorem vecAt_openC {lo hi : Nat} {w : World} {d : Nat} {k : Int} {items : List It} {parts : List Vec} {names cls levels : List ByteArray} {code env : Int} {val : Value} (h : VecAt lo hi w d (.mk k items parts names cls levels code env) val) :
    ∃ d' ai ci ap cp an cn ac cc al cl, d = d' + 1 ∧ val = .agg #[.int .i64 k, .slice ai items.length ci, .slice ap parts.length cp, .slice an names.length cn, .slice ac cls.length cc, .slice al levels.length cl, .int .i64 code, .int .i64 env] ∧
      ItemsAt lo hi w ai items ∧ TextsAt lo hi w an names ∧ TextsAt lo hi w ac cls ∧ TextsAt lo hi w al levels ∧ VecsAt lo hi w d' ap parts ∧ CapsOk items.length ci parts.length cp names.length cn cls.length cc levels.length cl := by
  cases d with
  | zero => exact h.elim
  | succ d =>
    unfold VecAt at h
    obtain ⟨ai, ci, ap, cp, an, cn, ac, cc, al, cl, e, hc, h1, h2, h3, h4, h⟩ := h
    exact ⟨d, ai, ci, ap, cp, an, cn, ac, cc, al, cl, rfl, e, h1, h2, h3, h4, h, hc⟩
theorem vecAt_open {lo hi : Nat} {w : World} {d : Nat} {k : Int} {items : List It} {parts : List Vec} {names cls levels : List ByteArray} {code env : Int} {val : Value} (h : VecAt lo hi w d (.mk k items parts names cls levels code env) val) :
    ∃ d' ai ci ap cp an cn ac cc al cl, d = d' + 1 ∧ val = .agg #[.int .i64 k, .slice ai items.length ci, .slice ap parts.length cp, .slice an names.length cn, .slice ac cls.length cc, .slice al levels.length cl, .int .i64 code, .int .i64 env] ∧
      ItemsAt lo hi w ai items ∧ TextsAt lo hi w an names ∧ TextsAt lo hi w ac cls ∧ TextsAt lo hi w al levels ∧ VecsAt lo hi w d' ap parts := by
  obtain ⟨d', ai, ci, ap, cp, an, cn, ac, cc, al, cl, ed, e, h1, h2, h3, h4, h5, _⟩ := vecAt_openC h
  exact ⟨d', ai, ci, ap, cp, an, cn, ac, cc, al, cl, ed, e, h1, h2, h3, h4, h5⟩
theorem vecAt_mk {lo hi : Nat} {w : World} {d : Nat} {k : Int} {items : List It} {parts : List Vec} {names cls levels : List ByteArray} {code env : Int} {ai ap an ac al : Option Addr} {ci cp cn cc cl : Nat}
    (h1 : ItemsAt lo hi w ai items) (h2 : TextsAt lo hi w an names) (h3 : TextsAt lo hi w ac cls) (h4 : TextsAt lo hi w al levels) (h5 : VecsAt lo hi w d ap parts) (hc : CapsOk items.length ci parts.length cp names.length cn cls.length cc levels.length cl) :
    VecAt lo hi w (d + 1) (.mk k items parts names cls levels code env) (.agg #[.int .i64 k, .slice ai items.length ci, .slice ap parts.length cp, .slice an names.length cn, .slice ac cls.length cc, .slice al levels.length cl, .int .i64 code, .int .i64 env]) := by
  unfold VecAt
  exact ⟨ai, ci, ap, cp, an, cn, ac, cc, al, cl, rfl, hc, h1, h2, h3, h4, h5⟩
/-- A world in which the blocks from lo to hi are as they were. -/
def Kept (lo hi : Nat) (w w1 : World) : Prop := ∀ b o, lo ≤ b → b < hi → w1.cell? ⟨b, o, none⟩ = w.cell? ⟨b, o, none⟩
theorem Kept.of_below {lo hi B : Nat} {w w1 : World} (h : Below B w w1) (hB : hi ≤ B) : Kept lo hi w w1 := fun b o _ hb => h.cell (p := ⟨b, o, none⟩) (Nat.lt_of_lt_of_le hb hB)
theorem Kept.trans {lo hi : Nat} {w w1 w2 : World} (h : Kept lo hi w w1) (k : Kept lo hi w1 w2) : Kept lo hi w w2 := fun b o h0 h1 => (k b o h0 h1).trans (h b o h0 h1)
theorem ItemsAt.kept {lo hi : Nat} {w w1 : World} {a : Option Addr} {l : List It} (h : ItemsAt lo hi w a l) (k : Kept lo hi w w1) : ItemsAt lo hi w1 a l := by
  intro i x hx
  obtain ⟨b, off, e, h0, h1, c0, c1, c2⟩ := h i x hx
  exact ⟨b, off, e, h0, h1, (k _ _ h0 h1).trans c0, (k _ _ h0 h1).trans c1, (k _ _ h0 h1).trans c2⟩
theorem TextsAt.kept {lo hi : Nat} {w w1 : World} {a : Option Addr} {l : List ByteArray} (h : TextsAt lo hi w a l) (k : Kept lo hi w w1) : TextsAt lo hi w1 a l := by
  intro i x hx
  obtain ⟨b, off, e, h0, h1, c0⟩ := h i x hx
  exact ⟨b, off, e, h0, h1, (k _ _ h0 h1).trans c0⟩
theorem VecAt.kept {lo hi : Nat} {w w1 : World} (k : Kept lo hi w w1) : ∀ (d : Nat) (v : Vec) (val : Value), VecAt lo hi w d v val → VecAt lo hi w1 d v val
  | 0, _, _, h => h.elim
  | d + 1, .mk _ _ _ _ _ _ _ _, val, h => by
    unfold VecAt at h ⊢
    obtain ⟨ai, ci, ap, cp, an, cn, ac, cc, al, cl, e, hc, h1, h2, h3, h4, h5⟩ := h
    refine ⟨ai, ci, ap, cp, an, cn, ac, cc, al, cl, e, hc, h1.kept k, h2.kept k, h3.kept k, h4.kept k, fun i p hp => ?_⟩
    obtain ⟨b, off, c0, c1, c2, c3, c4, c5, c6, c7, e, g0, g1, hv, m0, m1, m2, m3, m4, m5, m6, m7⟩ := h5 i p hp
    exact ⟨b, off, c0, c1, c2, c3, c4, c5, c6, c7, e, g0, g1, VecAt.kept k d p _ hv, (k _ _ g0 g1).trans m0, (k _ _ g0 g1).trans m1, (k _ _ g0 g1).trans m2, (k _ _ g0 g1).trans m3, (k _ _ g0 g1).trans m4, (k _ _ g0 g1).trans m5, (k _ _ g0 g1).trans m6, (k _ _ g0 g1).trans m7⟩
theorem VecsAt.kept {lo hi : Nat} {w w1 : World} {d : Nat} {a : Option Addr} {l : List Vec} (h : VecsAt lo hi w d a l) (k : Kept lo hi w w1) : VecsAt lo hi w1 d a l := by
  intro i p hp
  obtain ⟨b, off, c0, c1, c2, c3, c4, c5, c6, c7, e, g0, g1, hv, m0, m1, m2, m3, m4, m5, m6, m7⟩ := h i p hp
  exact ⟨b, off, c0, c1, c2, c3, c4, c5, c6, c7, e, g0, g1, VecAt.kept k d p _ hv, (k _ _ g0 g1).trans m0, (k _ _ g0 g1).trans m1, (k _ _ g0 g1).trans m2, (k _ _ g0 g1).trans m3, (k _ _ g0 g1).trans m4, (k _ _ g0 g1).trans m5, (k _ _ g0 g1).trans m6, (k _ _ g0 g1).trans m7⟩
theorem ItemsAt.wide {lo hi lo' hi' : Nat} {w : World} {a : Option Addr} {l : List It} (h : ItemsAt lo hi w a l) (h0 : lo' ≤ lo) (h1 : hi ≤ hi') : ItemsAt lo' hi' w a l := by
  intro i x hx
  obtain ⟨b, off, e, g0, g1, c⟩ := h i x hx
  exact ⟨b, off, e, by omega, by omega, c⟩
theorem TextsAt.wide {lo hi lo' hi' : Nat} {w : World} {a : Option Addr} {l : List ByteArray} (h : TextsAt lo hi w a l) (h0 : lo' ≤ lo) (h1 : hi ≤ hi') : TextsAt lo' hi' w a l := by
  intro i x hx
  obtain ⟨b, off, e, g0, g1, c⟩ := h i x hx
  exact ⟨b, off, e, by omega, by omega, c⟩
theorem VecAt.wide {lo hi lo' hi' : Nat} {w : World} (h0 : lo' ≤ lo) (h1 : hi ≤ hi') : ∀ (d : Nat) (v : Vec) (val : Value), VecAt lo hi w d v val → VecAt lo' hi' w d v val
  | 0, _, _, h => h.elim
  | d + 1, .mk _ _ _ _ _ _ _ _, val, h => by
    unfold VecAt at h ⊢
    obtain ⟨ai, ci, ap, cp, an, cn, ac, cc, al, cl, e, hc, i1, i2, i3, i4, i5⟩ := h
    refine ⟨ai, ci, ap, cp, an, cn, ac, cc, al, cl, e, hc, i1.wide h0 h1, i2.wide h0 h1, i3.wide h0 h1, i4.wide h0 h1, fun i p hp => ?_⟩
    obtain ⟨b, off, c0, c1, c2, c3, c4, c5, c6, c7, e, g0, g1, hv, m⟩ := i5 i p hp
    exact ⟨b, off, c0, c1, c2, c3, c4, c5, c6, c7, e, by omega, by omega, VecAt.wide h0 h1 d p _ hv, m⟩
theorem VecAt.more {lo hi : Nat} {w : World} : ∀ (d : Nat) (v : Vec) (val : Value), VecAt lo hi w d v val → VecAt lo hi w (d + 1) v val
  | 0, _, _, h => h.elim
  | d + 1, .mk _ _ _ _ _ _ _ _, val, h => by
    unfold VecAt at h ⊢
    obtain ⟨ai, ci, ap, cp, an, cn, ac, cc, al, cl, e, hc, i1, i2, i3, i4, i5⟩ := h
    refine ⟨ai, ci, ap, cp, an, cn, ac, cc, al, cl, e, hc, i1, i2, i3, i4, fun i p hp => ?_⟩
    obtain ⟨b, off, c0, c1, c2, c3, c4, c5, c6, c7, e, g0, g1, hv, m⟩ := i5 i p hp
    exact ⟨b, off, c0, c1, c2, c3, c4, c5, c6, c7, e, g0, g1, VecAt.more d p _ hv, m⟩
theorem TextsAt.strs {lo hi : Nat} {w : World} {a : Option Addr} {l : List ByteArray} (h : TextsAt lo hi w a l) : StrsAt hi w a l.length (fun i => l.getD i ByteArray.empty) := by
  intro i hi'
  obtain ⟨b, off, e, _, h1, c⟩ := h i l[i] (List.getElem?_eq_getElem hi')
  exact ⟨b, off, e, h1, by rw [c]; simp [List.getElem?_eq_getElem hi', List.getD_eq_getElem?_getD]⟩
/-- No list of the vector has more than 1<<20 elements, no text more bytes. -/
def Small : Nat → Vec → Prop
  | 0, _ => False
  | d + 1, .mk _ items parts names cls levels _ _ => items.length ≤ 1048576 ∧ parts.length ≤ 1048576 ∧ names.length ≤ 1048576 ∧ cls.length ≤ 1048576 ∧ levels.length ≤ 1048576 ∧
      (∀ x ∈ items, x.t.size ≤ 1048576) ∧ (∀ s ∈ names, s.size ≤ 1048576) ∧ (∀ s ∈ cls, s.size ≤ 1048576) ∧ (∀ s ∈ levels, s.size ≤ 1048576) ∧ ∀ p ∈ parts, Small d p
/-- What came in: every int is an int, no list is longer than a list may be. -/
def Fits : Nat → Vec → Prop
  | 0, _ => False
  | d + 1, .mk k items parts names cls levels code env => (-9223372036854775808 ≤ k ∧ k ≤ 9223372036854775807) ∧ (-9223372036854775808 ≤ code ∧ code ≤ 9223372036854775807) ∧ (-9223372036854775808 ≤ env ∧ env ≤ 9223372036854775807) ∧
      items.length ≤ maxLen ∧ parts.length ≤ maxLen ∧ names.length ≤ maxLen ∧ cls.length ≤ maxLen ∧ levels.length ≤ maxLen ∧
      (∀ x ∈ items, (-9223372036854775808 ≤ x.n ∧ x.n ≤ 9223372036854775807) ∧ (-9223372036854775808 ≤ x.d ∧ x.d ≤ 9223372036854775807) ∧ x.t.size ≤ maxLen) ∧
      (∀ s ∈ names, s.size ≤ maxLen) ∧ (∀ s ∈ cls, s.size ≤ maxLen) ∧ (∀ s ∈ levels, s.size ≤ maxLen) ∧ ∀ p ∈ parts, Fits d p
end Go.Proofs.YtikgcogiiohahaaGreatDoor
