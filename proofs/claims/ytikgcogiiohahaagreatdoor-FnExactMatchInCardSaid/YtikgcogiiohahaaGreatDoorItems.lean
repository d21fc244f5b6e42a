/- Slices of items in memory, and the laws' own helpers on them. -/
import Derived.Test.YtikgcogiiohahaaGreatDoorRows
import Derived.Test.YtikgcogiiohahaaGreatDoorVec
import Derived.Test.YtikgcogiiohahaaGreatDoorNumIn
import Derived.Test.YtikgcogiiohahaaGreatDoorStrs
import Derived.WalkKit
import Derived.WalkSpells
import Derived.WalkLawsBesides
import Derived.Lib.Hide
import Derived.ProofKit
import Derived.Deep.RegionHeld3
namespace Go.Proofs.YtikgcogiiohahaaGreatDoor
open Go.RowKit
set_option maxRecDepth 100000
set_option linter.unusedVariables false

def txtI (l : List It) (i : Nat) : ByteArray := (l.getD i noI).t
theorem ItemsAt.at_ {lo hi : Nat} {w : World} {a : Option Addr} {l : List It} (h : ItemsAt lo hi w a l) {k : Nat} (hk : k < l.length) :
    ∃ b off, a = some ⟨b, off, none⟩ ∧ b < hi ∧ w.cell? ⟨b, off + k * 3, none⟩ = some (.int .i64 (l.getD k noI).n) ∧ w.cell? ⟨b, off + k * 3 + 1, none⟩ = some (.int .i64 (l.getD k noI).d) ∧ w.cell? ⟨b, off + k * 3 + 2, none⟩ = some (.string (txtI l k)) := by
  obtain ⟨b, off, e, _, h1, c⟩ := h k l[k] (List.getElem?_eq_getElem hk)
  have e1 : l.getD k noI = l[k] := by simp [List.getD_eq_getElem?_getD, List.getElem?_eq_getElem hk]
  refine ⟨b, off, e, h1, ?_⟩
  unfold txtI
  rw [e1]; exact c
theorem ItemsAt.below {lo hi B : Nat} {w w1 : World} {a : Option Addr} {l : List It} (h : ItemsAt lo hi w a l) (hb : Below B w w1) (hB : hi ≤ B) : ItemsAt lo hi w1 a l := h.kept (Kept.of_below hb hB)

set_option maxHeartbeats 1000000 in
theorem szItems (l : List It) (a : Option Addr) (cap : Nat) (left : Int) (lo hi : Nat) (w : World) (hs : ItemsAt lo hi w a l) (hhi : hi ≤ w.heap.size) (hn : l.length ≤ 9223372036854775807) (hl0 : 0 ≤ left) (hl1 : left ≤ 1048576) (hsz : ∀ i, i < l.length → (txtI l i).size ≤ 9223372036854775807) :
    Calls Tryz.prog 11 #[.slice a l.length cap, .int .i64 left] w fun e w' => e = .returned (.int .i64 (szR left l.length (txtI l))) ∧ Below w.heap.size w w' := by
  have A := Lib.hid (fun (k : Nat) (w1 : World) (hk : k < l.length) (hb : Below w.heap.size w w1) => (hs.below hb hhi).at_ hk)
  obtain ⟨f, hf⟩ : ∃ f, txtI l = f := ⟨_, rfl⟩
  rw [hf] at hsz A ⊢
  have Z := Lib.hid hsz
  clear hs hsz hf
  obtain ⟨n, hn'⟩ : ∃ n, l.length = n := ⟨_, rfl⟩
  rw [hn'] at hn A Z ⊢
  clear hn'
  by_cases h0 : left < n
  · have X := Lib.hid (show szR left n f = -1 by unfold szR; rw [if_neg (by omega)])
    go_enter Tryz.func11, Tryz.ntmps11
    go_wp2
    go_ret
    exact ⟨ret_i64S X.out.symm, Below.refl _ _⟩
  · go_enter Tryz.func11, Tryz.ntmps11
    go_wp2
    go_loopw [1, 5] (fun v i wr => ∃ k : Nat, k ≤ n ∧ i = .int .i64 k ∧ (n : Int) + sumF f k ≤ left ∧ v = .int .i64 (left - n - sumF f k) ∧ Below w.heap.size w wr) (fun _ i _ => n - (intOf i).toNat)
    case atStart => exact ⟨0, Nat.zero_le _, rfl, by simp [sumF]; omega, by simp [sumF], Below.refl _ _⟩
    case round =>
      obtain ⟨k, hk, rfl, hle, rfl, hb⟩ := hrel
      have BB := Lib.hid hb
      clear hb
      by_cases hlt : k < n
      · obtain ⟨b, off, rfl, hbB, c0, c1, c2⟩ := A.out _ _ hlt BB.out
        have hz := Z.out k hlt
        by_cases hbig : left < (n : Int) + sumF f k + (f k).size
        · have X := Lib.hid (show szR left n f = -1 by unfold szR; have := sumF_at f hlt; rw [if_neg (by omega)])
          have N := Lib.hid (fun x d W => szNo x d (f k) (left - n - sumF f k) W (by omega) (by omega) hz)
          go_wp2_with fail
          refine (N.out _ _ _).mono ?_
          rintro e w1 ⟨rfl, b1⟩
          have B1 := Lib.hid (BB.out.trans (b1.mono BB.out.size))
          clear b1
          go_wp2
          go_ret
          exact ⟨ret_i64S X.out.symm, B1.out⟩
        · have N := Lib.hid (fun x d W => szYes x d (f k) (left - n - sumF f k) W (by omega) (by omega))
          go_wp2_with fail
          refine (N.out _ _ _).mono ?_
          rintro e w1 ⟨rfl, b1⟩
          have B1 := Lib.hid (BB.out.trans (b1.mono BB.out.size))
          clear b1
          go_wp2
          go_roundw
          case rel => exact ⟨k + 1, by omega, by go_num, by simp only [sumF]; omega, by simp only [sumF]; congr 1; omega, B1.out⟩
          case measure => simp [intOf]; omega
      · obtain rfl : k = n := by omega
        have X := Lib.hid (show szR left k f = left - k - sumF f k by unfold szR; rw [if_pos hle])
        go_wp2
        go_ret
        exact ⟨ret_i64S X.out.symm, BB.out⟩

theorem bcl {W w' : World} (hb : Below W.heap.size W w') {p : Addr} {v : Value} (c : W.cell? p = some v) : w'.cell? p = some v := (hb.cell (cell_lt c)).trans c
set_option maxHeartbeats 1000000 in
/-- Two slices of the same items are equal. -/
theorem eqItems (l : List It) (a a' : Option Addr) (ca cb : Nat) (lo hi lo' hi' : Nat) (w : World) (ha : ItemsAt lo hi w a l) (hhi : hi ≤ w.heap.size) (hb : ItemsAt lo' hi' w a' l) (hhi' : hi' ≤ w.heap.size) (hn : l.length ≤ 9223372036854775807) :
    Calls Tryz.prog 27 #[.slice a l.length ca, .slice a' l.length cb] w fun e w' => e = .returned (.bool true) ∧ Below w.heap.size w w' := by
  have A := Lib.hid (fun (k : Nat) (w1 : World) (hk : k < l.length) (hb : Below w.heap.size w w1) => (ha.below hb hhi).at_ hk)
  have A' := Lib.hid (fun (k : Nat) (w1 : World) (hk : k < l.length) (h : Below w.heap.size w w1) => (hb.below h hhi').at_ hk)
  clear ha hb
  obtain ⟨n, hn'⟩ : ∃ n, l.length = n := ⟨_, rfl⟩
  rw [hn'] at hn A A' ⊢
  clear hn'
  go_enter Tryz.func27, Tryz.ntmps27
  go_wp2
  go_loopw [5] (fun i wr => ∃ k : Nat, k ≤ n ∧ i = .int .i64 k ∧ Below w.heap.size w wr) (fun i _ => n - (intOf i).toNat)
  case atStart => exact ⟨0, Nat.zero_le _, rfl, Below.refl _ _⟩
  case round =>
    obtain ⟨k, hk, rfl, hb⟩ := hrel
    have BB := Lib.hid hb
    clear hb
    by_cases hlt : k < n
    · obtain ⟨ba, oa, rfl, hbB, c0, c1, c2⟩ := A.out _ _ hlt BB.out
      obtain ⟨bb, ob, rfl, hbB', d0, d1, d2⟩ := A'.out _ _ hlt BB.out
      have hlt' : (k : Int) < (n : Int) := by omega
      obtain ⟨x, hx⟩ : ∃ x, (l.getD k noI).n = x := ⟨_, rfl⟩
      obtain ⟨y, hy⟩ : ∃ y, (l.getD k noI).d = y := ⟨_, rfl⟩
      obtain ⟨t, ht⟩ : ∃ t, txtI l k = t := ⟨_, rfl⟩
      rw [hx] at c0 d0
      rw [hy] at c1 d1
      rw [ht] at c2 d2
      clear hx hy ht
      have HQ := Lib.hid (fun (w' : World) (hb : Below wr.heap.size wr w') => (⟨hb, bcl hb c0, bcl hb c1, bcl hb c2, bcl hb d0, bcl hb d1, bcl hb d2⟩ : (Below wr.heap.size wr w' ∧ w'.cell? ⟨ba, oa + k * 3, none⟩ = some (.int .i64 x) ∧ w'.cell? ⟨ba, oa + k * 3 + 1, none⟩ = some (.int .i64 y) ∧ w'.cell? ⟨ba, oa + k * 3 + 2, none⟩ = some (.string t) ∧
        w'.cell? ⟨bb, ob + k * 3, none⟩ = some (.int .i64 x) ∧ w'.cell? ⟨bb, ob + k * 3 + 1, none⟩ = some (.int .i64 y) ∧ w'.cell? ⟨bb, ob + k * 3 + 2, none⟩ = some (.string t))))
      clear c0 c1 c2 d0 d1 d2
      have ES := Lib.hid (eqSame x y t)
      go_wp2
      go_region_held3 (fun w' => Below wr.heap.size wr w' ∧ w'.cell? ⟨ba, oa + k * 3, none⟩ = some (.int .i64 x) ∧ w'.cell? ⟨ba, oa + k * 3 + 1, none⟩ = some (.int .i64 y) ∧ w'.cell? ⟨ba, oa + k * 3 + 2, none⟩ = some (.string t) ∧
        w'.cell? ⟨bb, ob + k * 3, none⟩ = some (.int .i64 x) ∧ w'.cell? ⟨bb, ob + k * 3 + 1, none⟩ = some (.int .i64 y) ∧ w'.cell? ⟨bb, ob + k * 3 + 2, none⟩ = some (.string t)) (first | exact HQ.out _ (below_drew' (Below.refl _ _)) | exact HQ.out _ (below_then (And.left (by assumption)) (by assumption))) (first | (go_at_call 47; refine (ES.out _).mono ?_; rintro e w1 ⟨rfl, b1⟩))
      have b1 := And.left ‹Below wr.heap.size wr _ ∧ _›
      go_wp2
      go_roundw
      case rel => exact ⟨k + 1, by omega, by go_num, BB.out.trans (b1.mono BB.out.size)⟩
      case measure => simp [intOf]; omega
    · obtain rfl : k = n := by omega
      go_wp2
      go_ret
      exact ⟨rfl, BB.out⟩
/-- make with a variable size, elements of k cells. -/
theorem run_make_rows {P : Program} (t e : TypeId) (z : Value) (k bytes : Nat) (ht : P.underlying t = some (.slice e)) (hinfo : (P.info? e).map (fun i => (i.zero, i.size, i.bytes)) = some (some z, k, bytes))
    (kl kc : IntKind) (n : Nat) (hbytes : bytes * n ≤ 281474976710656) (h63 : n ≤ 9223372036854775807) (w : World) :
    (Instr.makeSlice t (.int kl (n : Int)) (.int kc (n : Int))).run P w = .ok (.slice (some ⟨w.heap.size, 0, none⟩) n n) (w.alloc (.cells (madeCells z.cells (n * k)) e)) := by
  obtain ⟨i, hi, hzz⟩ := Option.map_eq_some_iff.1 hinfo
  simp only [Prod.mk.injEq] at hzz
  obtain ⟨hz, hs, hb⟩ := hzz
  have hb' : (i.bytes : Int) * (n : Int) ≤ 281474976710656 := by
    have h : ((i.bytes * n : Nat) : Int) ≤ 281474976710656 := by rw [hb]; omega
    rwa [Int.natCast_mul] at h
  have hr := run_make (P := P) w t e i z ht hi hz kl kc n n (by omega) (Int.le_refl _) hb' (by omega)
  simp only [Int.toNat_natCast, hs] at hr
  exact hr
theorem infoItem3 : (Tryz.prog.info? 45).map (fun i => (i.zero, i.size, i.bytes)) = some (some (.agg #[.int .i64 0, .int .i64 0, .string ⟨#[]⟩]), 3, 32) := by kernel_rfl
/-- A row of n items whose first k are those of l. -/
def FilledIt (w : World) (b n k : Nat) (l : List It) : Prop := ∃ C, w.heap[b]? = some (.cells C 45 (0, 0)) ∧ C.size = n * 3 ∧ ∀ i, i < k → C[i * 3]? = some (.int .i64 (l.getD i noI).n) ∧ C[i * 3 + 1]? = some (.int .i64 (l.getD i noI).d) ∧ C[i * 3 + 2]? = some (.string (txtI l i))
theorem FilledIt.below {w w1 : World} {b n k : Nat} {l : List It} (h : FilledIt w b n k l) (hb : Below w.heap.size w w1) : FilledIt w1 b n k l := by
  obtain ⟨C, hC, r⟩ := h
  exact ⟨C, blk_below hb hC, r⟩
theorem FilledIt.lt {w : World} {b n k : Nat} {l : List It} (h : FilledIt w b n k l) : b < w.heap.size := by
  obtain ⟨C, hC, _⟩ := h
  exact (Array.getElem?_eq_some_iff.1 hC).1
theorem FilledIt.old {w : World} {b n k : Nat} {l : List It} (h : FilledIt w b n k l) (hk : k < n) :
    (∃ x, w.cell? ⟨b, k * 3, none⟩ = some x) ∧ (∃ x, w.cell? ⟨b, k * 3 + 1, none⟩ = some x) ∧ (∃ x, w.cell? ⟨b, k * 3 + 2, none⟩ = some x) ∧ w.frozen? ⟨b, k * 3, none⟩ = false ∧ w.frozen? ⟨b, k * 3 + 1, none⟩ = false ∧ w.frozen? ⟨b, k * 3 + 2, none⟩ = false := by
  obtain ⟨C, hC, hn, _⟩ := h
  exact ⟨⟨_, cellOf hC (Array.getElem?_eq_getElem (by omega))⟩, ⟨_, cellOf hC (Array.getElem?_eq_getElem (by omega))⟩, ⟨_, cellOf hC (Array.getElem?_eq_getElem (by omega))⟩, freeOf hC, freeOf hC, freeOf hC⟩
theorem FilledIt.step {w : World} {b n k : Nat} {l : List It} (h : FilledIt w b n k l) (hk : k < n) :
    FilledIt (((w.setCell ⟨b, k * 3, none⟩ (.int .i64 (l.getD k noI).n)).setCell ⟨b, k * 3 + 1, none⟩ (.int .i64 (l.getD k noI).d)).setCell ⟨b, k * 3 + 2, none⟩ (.string (txtI l k))) b n (k + 1) l := by
  obtain ⟨C, hC, hn, hf⟩ := h
  refine ⟨_, Joins.block_setCell (Joins.block_setCell (Joins.block_setCell hC _) _) _, by simpa using hn, fun i hi => ?_⟩
  by_cases e : i = k
  · subst e
    refine ⟨?_, ?_, ?_⟩
    · rw [Array.getElem?_setIfInBounds_ne (by omega), Array.getElem?_setIfInBounds_ne (by omega)]
      have : i * 3 < C.size := by omega
      simp [this]
    · rw [Array.getElem?_setIfInBounds_ne (by omega)]
      have : i * 3 + 1 < C.size := by omega
      simp [this]
    · have : i * 3 + 2 < C.size := by omega
      simp [this]
  · obtain ⟨h0, h1, h2⟩ := hf i (by omega)
    refine ⟨?_, ?_, ?_⟩ <;> (rw [Array.getElem?_setIfInBounds_ne (by omega), Array.getElem?_setIfInBounds_ne (by omega), Array.getElem?_setIfInBounds_ne (by omega)]; assumption)
theorem FilledIt.items {w : World} {b : Nat} {l : List It} (h : FilledIt w b l.length l.length l) : ItemsAt b (b + 1) w (some ⟨b, 0, none⟩) l := by
  obtain ⟨C, hC, _, hf⟩ := h
  intro i x hx
  obtain ⟨hi, rfl⟩ := List.getElem?_eq_some_iff.1 hx
  obtain ⟨h0, h1, h2⟩ := hf i hi
  have e1 : l.getD i noI = l[i] := by simp [List.getD_eq_getElem?_getD, List.getElem?_eq_getElem hi]
  unfold txtI at h2
  rw [e1] at h0 h1 h2
  exact ⟨b, 0, rfl, Nat.le_refl _, Nat.lt_succ_self _, by rw [Nat.zero_add]; exact cellOf hC h0, by rw [Nat.zero_add]; exact cellOf hC h1, by rw [Nat.zero_add]; exact cellOf hC h2⟩
theorem madeRowIt (w : World) (n : Nat) (l : List It) : FilledIt (w.alloc (.cells (madeCells (Value.agg #[.int .i64 0, .int .i64 0, .string ⟨#[]⟩]).cells (n * 3)) 45)) w.heap.size n 0 l :=
  ⟨_, (MapKept.heap_alloc w _).1, size_madeCells _ _, fun _ hi => absurd hi (Nat.not_lt_zero _)⟩

set_option maxHeartbeats 1000000 in
theorem toItems (l : List It) (a : Option Addr) (cap : Nat) (lo hi : Nat) (w : World) (hs : ItemsAt lo hi w a l) (hhi : hi ≤ w.heap.size) (hn : l.length ≤ 1048576) :
    Calls Tryz.prog 20 #[.slice a l.length cap] w fun e w' => e = .returned (.slice (some ⟨w.heap.size, 0, none⟩) l.length l.length) ∧ FilledIt w' w.heap.size l.length l.length l ∧ Below w.heap.size w w' := by
  have A := Lib.hid (fun (k : Nat) (w1 : World) (hk : k < l.length) (hb : Below w.heap.size w w1) => (hs.below hb hhi).at_ hk)
  clear hs
  obtain ⟨n, hn'⟩ : ∃ n, l.length = n := ⟨_, rfl⟩
  rw [hn'] at hn A ⊢
  clear hn'
  have hmk := run_make_rows (P := Tryz.prog) 28 45 _ 3 32 Tryz.underlying28 infoItem3 .i64 .i64 n (by omega) (by omega) w
  have MR := Lib.hid (madeRowIt w n l)
  obtain ⟨o, ho⟩ : ∃ o, Obj.cells (madeCells (Value.agg #[.int .i64 0, .int .i64 0, .string ⟨#[]⟩]).cells (n * 3)) 45 (0, 0) = o := ⟨_, rfl⟩
  rw [ho] at hmk MR
  clear ho
  go_enter Tryz.func20, Tryz.ntmps20
  go_wp2
  go_loopw [4] (fun i wr => ∃ k : Nat, k ≤ n ∧ i = .int .i64 k ∧ FilledIt wr w.heap.size n k l ∧ Below w.heap.size w wr) (fun i _ => n - (intOf i).toNat)
  case atStart => exact ⟨0, Nat.zero_le _, rfl, MR.out, (Below.refl _ w).alloc (Nat.le_refl _) _⟩
  case round =>
    obtain ⟨k, hk, rfl, hF, hb⟩ := hrel
    clear hmk
    have FF := Lib.hid hF
    have BB := Lib.hid hb
    clear hF hb
    by_cases hlt : k < n
    · obtain ⟨b, off, rfl, hbB, c0, c1, c2⟩ := A.out _ _ hlt BB.out
      go_wp2_with fail
      refine (toItemAny _ _ _ _).mono ?_
      rintro e w1 ⟨rfl, b1⟩
      have F1 := Lib.hid (FF.out.below b1)
      have B1 := Lib.hid (BB.out.trans (b1.mono BB.out.size))
      clear b1
      obtain ⟨⟨x0, o0⟩, ⟨x1, o1⟩, ⟨x2, o2⟩, f0, f1, f2⟩ := F1.out.old hlt
      have NEXT := Lib.hid (F1.out.step hlt)
      have BNEXT := Lib.hid (((B1.out.setCell (p := ⟨w.heap.size, k * 3, none⟩) (Nat.le_refl _) (.int .i64 (l.getD k noI).n)).setCell (p := ⟨w.heap.size, k * 3 + 1, none⟩) (Nat.le_refl _) (.int .i64 (l.getD k noI).d)).setCell (p := ⟨w.heap.size, k * 3 + 2, none⟩) (Nat.le_refl _) (.string (txtI l k)))
      go_wp2
      go_roundw
      case rel => exact ⟨k + 1, by omega, by go_num, NEXT.out, BNEXT.out⟩
      case measure => simp [intOf]; omega
    · obtain rfl : k = n := by omega
      go_wp2
      go_ret
      exact ⟨rfl, FF.out, BB.out⟩
end Go.Proofs.YtikgcogiiohahaaGreatDoor
