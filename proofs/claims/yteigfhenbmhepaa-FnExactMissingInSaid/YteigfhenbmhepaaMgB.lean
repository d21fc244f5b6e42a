/- Vectors of items that a call builds; LogicalVector of the program. -/
import Derived.Test.YteigfhenbmhepaaRows
import Derived.Test.YteigfhenbmhepaaVecApp
import Derived.Test.YteigfhenbmhepaaOwn
import Derived.Test.YteigfhenbmhepaaLawRes
import Derived.Test.YteigfhenbmhepaaLogic
import Derived.Test.YteigfhenbmhepaaNumSpecMake
import Derived.Test.YteigfhenbmhepaaNumImplMake
import Derived.Test.YteigfhenbmhepaaVecCopy
import Derived.Test.YteigfhenbmhepaaVecCntI
import Derived.Test.YteigfhenbmhepaaVecCnt
import Derived.Test.YteigfhenbmhepaaNumGcd
import Derived.Test.YteigfhenbmhepaaLawKit
import Derived.Test.YteigfhenbmhepaaRegV2
import Derived.WalkKit
import Derived.OwnWalk
import Derived.Deep.DeepCutAuto
import Derived.Lib.Hide
import Derived.Laws.ResultCell
import Derived.OpenShut
import Derived.IntWalk
import Derived.Maps.AppendAt
namespace Go.Proofs.Yteigfhenbmhepaa
open Go.RowKit
set_option maxRecDepth 100000
set_option linter.unusedVariables false

/-- A vector of items alone. -/
def vecOf (k : Int) (l : List It) : Vec := .mk k l [] [] [] [] 0 0
def itF (g : Nat → It) (n : Nat) : List It := (List.range n).map g
theorem itF_len (g : Nat → It) (n : Nat) : (itF g n).length = n := by simp [itF]
theorem itF_succ (g : Nat → It) (n : Nat) : itF g n ++ [g n] = itF g (n + 1) := by unfold itF; rw [List.range_succ, List.map_append]; rfl
theorem itF_zero (g : Nat → It) : itF g 0 = [] := rfl
theorem ret_eq {a b : Value} (h : a = b) : Ending.returned a = .returned b := by rw [h]
theorem own_zero (lo hi : Nat) (w : World) : Own 1 noV (.agg #[.int .i64 0, .slice none 0 0, .slice none 0 0, .slice none 0 0, .slice none 0 0, .slice none 0 0, .int .i64 0, .int .i64 0]) lo hi w := by
  refine ⟨[], ?_, List.nodup_nil, (fun _ h => by cases h)⟩
  show OwnVec w 1 (.mk 0 [] [] [] [] [] 0 0) _ []
  unfold OwnVec
  exact ⟨none, 0, none, 0, none, 0, none, 0, none, 0, [], [], [], [], [], rfl, rfl, ⟨Nat.le_refl _, Nat.le_refl _, Nat.le_refl _, Nat.le_refl _, Nat.le_refl _⟩, .inl ⟨rfl, rfl⟩, .inl ⟨rfl, rfl⟩, .inl ⟨rfl, rfl⟩, .inl ⟨rfl, rfl⟩, .inl ⟨rfl, rfl⟩⟩
/-- A vector whose items the call has built. -/
theorem own_vecOf {w : World} {B lo : Nat} {k : Int} {l : List It} {sa : Option Addr} {sn sc : Nat} (h : w.ownsRow B 62 3 (.slice sa sn sc) l.length (itCells l)) (hB : lo ≤ B) : Own 1 (vecOf k l) (.agg #[.int .i64 k, .slice sa sn sc, .slice none 0 0, .slice none 0 0, .slice none 0 0, .slice none 0 0, .int .i64 0, .int .i64 0]) lo w.heap.size w := by
  obtain ⟨a, c, F, e, ho, hn, hr, hc⟩ := own_of_its h
  obtain ⟨rfl, rfl, rfl⟩ : sa = a ∧ sn = l.length ∧ sc = c := by simpa using e
  refine ⟨F, ?_, hn, fun b hb => by have := hr b hb; omega⟩
  show OwnVec w 1 (.mk k l [] [] [] [] 0 0) _ F
  unfold OwnVec
  exact ⟨sa, sc, none, 0, none, 0, none, 0, none, 0, F, [], [], [], [], rfl, by simp, ⟨hc, Nat.le_refl _, Nat.le_refl _, Nat.le_refl _, Nat.le_refl _⟩, ho, .inl ⟨rfl, rfl⟩, .inl ⟨rfl, rfl⟩, .inl ⟨rfl, rfl⟩, .inl ⟨rfl, rfl⟩⟩
theorem small_vecOf {k : Int} {l : List It} (h : l.length ≤ 1048576) (ht : ∀ x ∈ l, x.t.size ≤ 1048576) : Small 1 (vecOf k l) := by
  show Small 1 (.mk k l [] [] [] [] 0 0)
  unfold Small
  exact ⟨h, Nat.zero_le _, Nat.zero_le _, Nat.zero_le _, Nat.zero_le _, ht, (fun _ h => by cases h), (fun _ h => by cases h), (fun _ h => by cases h), (fun _ h => by cases h)⟩
theorem small_noV : Small 1 noV := by
  show Small 1 (.mk 0 [] [] [] [] [] 0 0)
  unfold Small
  exact ⟨Nat.zero_le _, Nat.zero_le _, Nat.zero_le _, Nat.zero_le _, Nat.zero_le _, (fun _ h => by cases h), (fun _ h => by cases h), (fun _ h => by cases h), (fun _ h => by cases h), (fun _ h => by cases h)⟩
theorem fits_vecOf {k : Int} {l : List It} (hk : -9223372036854775808 ≤ k ∧ k ≤ 9223372036854775807) (h : l.length ≤ 1048576) (ht : ∀ x ∈ l, InB x) : Fits 1 (vecOf k l) := by
  show Fits 1 (.mk k l [] [] [] [] 0 0)
  unfold Fits
  refine ⟨hk, ⟨by decide, by decide⟩, ⟨by decide, by decide⟩, by unfold maxLen; omega, Nat.zero_le _, Nat.zero_le _, Nat.zero_le _, Nat.zero_le _, fun x hx => ht x hx, (fun _ h => by cases h), (fun _ h => by cases h), (fun _ h => by cases h), (fun _ h => by cases h)⟩
theorem fits_noV : Fits 1 noV := by
  show Fits 1 (.mk 0 [] [] [] [] [] 0 0)
  unfold Fits
  exact ⟨⟨by decide, by decide⟩, ⟨by decide, by decide⟩, ⟨by decide, by decide⟩, Nat.zero_le _, Nat.zero_le _, Nat.zero_le _, Nat.zero_le _, Nat.zero_le _, (fun _ h => by cases h), (fun _ h => by cases h), (fun _ h => by cases h), (fun _ h => by cases h), (fun _ h => by cases h)⟩
/-- What a loop that appends items keeps: the result's block, the vector's block behind it, the items so far. -/
structure AppL (w wr : World) (kind : Int) (l : List It) (sa : Option Addr) (sn sc : Nat) : Prop where
  res : wr.heap[w.heap.size]? = some (.cells #[.int .i64 0, .slice none 0 0, .slice none 0 0, .slice none 0 0, .slice none 0 0, .slice none 0 0, .int .i64 0, .int .i64 0] 27 (0, 0))
  vec : wr.heap[w.heap.size + 1]? = some (.cells #[.int .i64 kind, .slice sa sn sc, .slice none 0 0, .slice none 0 0, .slice none 0 0, .slice none 0 0, .int .i64 0, .int .i64 0] 27 (0, 0))
  row : wr.ownsRow (w.heap.size + 2) 62 3 (.slice sa sn sc) l.length (itCells l)
  below : Below w.heap.size w wr
theorem AppL.big {w wr : World} {kind : Int} {l : List It} {sa : Option Addr} {sn sc : Nat} (h : AppL w wr kind l sa sn sc) : w.heap.size + 1 < wr.heap.size := (Array.getElem?_eq_some_iff.1 h.vec).1
theorem AppL.keep {w wr w1 : World} {kind : Int} {l : List It} {sa : Option Addr} {sn sc : Nat} (h : AppL w wr kind l sa sn sc) (hb : Below wr.heap.size wr w1) : AppL w w1 kind l sa sn sc :=
  ⟨blk_below hb h.res, blk_below hb h.vec, ownsRow_below h.row hb, below_then h.below hb⟩
theorem AppL.heldC {w wr : World} {kind : Int} {l : List It} {sa : Option Addr} {sn sc : Nat} (h : AppL w wr kind l sa sn sc) : HeldC w wr [(w.heap.size, 27, #[.int .i64 0, .slice none 0 0, .slice none 0 0, .slice none 0 0, .slice none 0 0, .slice none 0 0, .int .i64 0, .int .i64 0]), (w.heap.size + 1, 27, #[.int .i64 kind, .slice sa sn sc, .slice none 0 0, .slice none 0 0, .slice none 0 0, .slice none 0 0, .int .i64 0, .int .i64 0])] := heldC_two h.below h.res h.vec
theorem AppL.far {w wr : World} {kind : Int} {l : List It} {sa : Option Addr} {sn sc : Nat} (h : AppL w wr kind l sa sn sc) {q : Nat × TypeId × Array Value} (hq : q ∈ [(w.heap.size, 27, #[.int .i64 0, .slice none 0 0, .slice none 0 0, .slice none 0 0, .slice none 0 0, .slice none 0 0, .int .i64 0, .int .i64 0]), (w.heap.size + 1, 27, #[.int .i64 kind, .slice sa sn sc, .slice none 0 0, .slice none 0 0, .slice none 0 0, .slice none 0 0, .int .i64 0, .int .i64 0])]) : ∀ k, (Value.slice sa sn sc).ownBlock = some k → q.1 ≠ k := by
  intro k hk e
  have h1 := (h.row.lt k hk).1
  rcases List.mem_cons.1 hq with rfl | hq
  · simp only at e; omega
  · obtain rfl := List.mem_singleton.1 hq
    simp only at e; omega
theorem AppL.start (w : World) (kind : Int) : AppL w ((w.alloc (.cells #[.int .i64 0, .slice none 0 0, .slice none 0 0, .slice none 0 0, .slice none 0 0, .slice none 0 0, .int .i64 0, .int .i64 0] 27)).alloc (.cells #[.int .i64 kind, .slice none 0 0, .slice none 0 0, .slice none 0 0, .slice none 0 0, .slice none 0 0, .int .i64 0, .int .i64 0] 27)) kind [] none 0 0 := by
  have h0 : (w.alloc (.cells #[.int .i64 0, .slice none 0 0, .slice none 0 0, .slice none 0 0, .slice none 0 0, .slice none 0 0, .int .i64 0, .int .i64 0] 27)).heap.size = w.heap.size + 1 := by simp
  refine ⟨blk_old (blk_new w _ rfl), ?_, ⟨rfl, .inl ⟨rfl, rfl⟩⟩, (below1 w _).alloc (by simp) _⟩
  have := blk_new (w.alloc (.cells #[.int .i64 0, .slice none 0 0, .slice none 0 0, .slice none 0 0, .slice none 0 0, .slice none 0 0, .int .i64 0, .int .i64 0] 27)) (.cells #[.int .i64 kind, .slice none 0 0, .slice none 0 0, .slice none 0 0, .slice none 0 0, .slice none 0 0, .int .i64 0, .int .i64 0] 27) rfl
  rwa [h0] at this
theorem AppL.next {w W : World} {kind : Int} {l : List It} {z : It} {sa sa' : Option Addr} {sn sc sn' sc' : Nat} (hK : W.heap[w.heap.size + 1]? = some (.cells (#[.int .i64 kind, .slice sa sn sc, .slice none 0 0, .slice none 0 0, .slice none 0 0, .slice none 0 0, .int .i64 0, .int .i64 0].setIfInBounds 1 (.slice sa' sn' sc')) 27 (0, 0)))
    (hO : W.ownsRow (w.heap.size + 2) 62 3 (.slice sa' sn' sc') (l ++ [z]).length (itCells (l ++ [z]))) (hB : Below w.heap.size w W)
    (hR : ∀ q ∈ [(w.heap.size, 27, #[.int .i64 0, .slice none 0 0, .slice none 0 0, .slice none 0 0, .slice none 0 0, .slice none 0 0, .int .i64 0, .int .i64 0]), (w.heap.size + 1, 27, #[.int .i64 kind, .slice sa sn sc, .slice none 0 0, .slice none 0 0, .slice none 0 0, .slice none 0 0, .int .i64 0, .int .i64 0])], q.1 ≠ w.heap.size + 1 → W.heap[q.1]? = some (.cells q.2.2 q.2.1 (0, 0))) : AppL w W kind (l ++ [z]) sa' sn' sc' :=
  ⟨hR _ (List.Mem.head _) (by simp only; omega), hK, hO, hB⟩
theorem free8 {w : World} {b : Nat} {C : Array Value} {t : TypeId} (h : w.heap[b]? = some (.cells C t (0, 0))) : w.frozen? ⟨b, 0, none⟩ = false ∧ w.frozen? ⟨b, 1, none⟩ = false ∧ w.frozen? ⟨b, 2, none⟩ = false ∧ w.frozen? ⟨b, 3, none⟩ = false ∧ w.frozen? ⟨b, 4, none⟩ = false ∧ w.frozen? ⟨b, 5, none⟩ = false ∧ w.frozen? ⟨b, 6, none⟩ = false ∧ w.frozen? ⟨b, 7, none⟩ = false :=
  ⟨freeOf h, freeOf h, freeOf h, freeOf h, freeOf h, freeOf h, freeOf h, freeOf h⟩
/-- A vector that has just been stored into the result's block. -/
theorem vec_end {fn : Func} {R : Ending → World → Prop} {act : Act} {w : World} {g : Nat} {p : Tmp} {z0 z1 z2 z3 z4 z5 z6 z7 c0 c1 c2 c3 c4 c5 c6 c7 : Value} {t : TypeId}
    (hfn : fn.results = #[.cell p 27]) (hp : act.tmps.getD p undef = .pointer (some ⟨g, 0, none⟩)) (hd : act.defers = []) (hg : w.heap[g]? = some (.cells #[z0, z1, z2, z3, z4, z5, z6, z7] t (0, 0)))
    (hR : R (.returned (.agg #[c0, c1, c2, c3, c4, c5, c6, c7])) (put8 w g 0 c0 c1 c2 c3 c4 c5 c6 c7)) :
    bodyPost Try.prog fn R .ret act ((((((((w.setCell ⟨g, 0, none⟩ c0).setCell ⟨g, 1, none⟩ c1).setCell ⟨g, 2, none⟩ c2).setCell ⟨g, 3, none⟩ c3).setCell ⟨g, 4, none⟩ c4).setCell ⟨g, 5, none⟩ c5).setCell ⟨g, 6, none⟩ c6).setCell ⟨g, 7, none⟩ c7) :=
  vec_ret0 hfn hp hd (put8_lit hg) hR
theorem Own.put8 {d : Nat} {V : Vec} {y : Value} {lo hi : Nat} {w : World} (h : Own d V y lo hi w) {g p : Nat} (hg : g < lo) (c0 c1 c2 c3 c4 c5 c6 c7 : Value) : Own d V y lo hi (put8 w g p c0 c1 c2 c3 c4 c5 c6 c7) := by
  obtain ⟨F, h1, h2, h3⟩ := h.out
  exact ⟨F, h1.kept _ _ _ _ (fun b hb => put8_other (by have := h3 b hb; omega)), h2, h3⟩
theorem put8_size {w : World} {g p : Nat} {c0 c1 c2 c3 c4 c5 c6 c7 : Value} : (put8 w g p c0 c1 c2 c3 c4 c5 c6 c7).heap.size = w.heap.size := by unfold put8; simp
theorem AppL.fin {w wr : World} {kind : Int} {l : List It} {sa : Option Addr} {sn sc : Nat} (h : AppL w wr kind l sa sn sc) : ResV 1 (vecOf kind l) w (.returned (.agg #[.int .i64 kind, .slice sa sn sc, .slice none 0 0, .slice none 0 0, .slice none 0 0, .slice none 0 0, .int .i64 0, .int .i64 0])) (put8 wr w.heap.size 0 (.int .i64 kind) (.slice sa sn sc) (.slice none 0 0) (.slice none 0 0) (.slice none 0 0) (.slice none 0 0) (.int .i64 0) (.int .i64 0)) := by
  have ho := own_vecOf (k := kind) (lo := w.heap.size + 2) h.row (Nat.le_refl _)
  refine ⟨_, rfl, ((ho.put8 (by omega) _ _ _ _ _ _ _ _).wide (by omega) ?_), put8_below h.below (Nat.le_refl _)⟩
  rw [put8_size]
  exact Nat.le_refl _
theorem AppL.set3 {w wr : World} {kind : Int} {l : List It} {sa : Option Addr} {sn sc g : Nat} {x y z : Value} (h : AppL w wr kind l sa sn sc) (h0 : w.heap.size ≤ g) (hf : ∀ j, (Value.slice sa sn sc).ownBlock = some j → j ≠ g) (hg : w.heap.size + 1 < g) :
    AppL w (((wr.setCell ⟨g, 0, none⟩ x).setCell ⟨g, 1, none⟩ y).setCell ⟨g, 2, none⟩ z) kind l sa sn sc := by
  refine ⟨blk_set3' h.res (by omega), blk_set3' h.vec (by omega), ?_, below_three h.below h0 _ _ _⟩
  obtain ⟨hl, h1⟩ := h.row
  refine ⟨hl, h1.imp id ?_⟩
  rintro ⟨b, cap, cur, e, hB, hb, r⟩
  exact ⟨b, cap, cur, e, hB, blk_set3' hb (hf b (by rw [e]; rfl)), r⟩
/-- The item of a logical value. -/
def logI (x : Int) : It := if x = 0 then ⟨0, 1, ⟨#[]⟩⟩ else if x = 1 then ⟨1, 1, ⟨#[]⟩⟩ else noI
theorem implLogItem (x : Int) (w : World) (h : L3 x) :
    Calls Try.prog 51 #[.int .i64 x] w fun e w' => e = .returned (.agg #[.int .i64 (logI x).n, .int .i64 (logI x).d, .string (logI x).t]) ∧ Below w.heap.size w w' := by
  rcases h with rfl | rfl | rfl
  all_goals
    go_enter Try.func51, Try.ntmps51
    go_wp2
    first | exact item_ret0 rfl rfl rfl (blk_new _ _ rfl) ⟨rfl, below1 w _⟩ | exact item_ret rfl rfl rfl (blk_new _ _ rfl) ⟨rfl, below_three (below1 w _) (Nat.le_refl _) _ _ _⟩
theorem specNum2 (n : Int) (w : World) :
    Calls Try.prog 50 #[.int .i64 n] w fun e w' => e = .returned (.agg #[.int .i64 n, .int .i64 1, .string ⟨#[]⟩]) ∧ Below w.heap.size w w' := by
  go_enter Try.func50, Try.ntmps50
  go_wp2
  first | exact item_ret0 rfl rfl rfl (blk_new _ _ rfl) ⟨rfl, below1 w _⟩ | exact item_ret rfl rfl rfl (blk_new _ _ rfl) ⟨rfl, below_three (below1 w _) (Nat.le_refl _) _ _ _⟩
theorem logI_v (x : Int) : logI (vL x) = logI x := by
  unfold logI vL
  by_cases h0 : x = 0
  · simp [h0]
  · by_cases h1 : x = 1
    · simp [h1]
    · simp [h0, h1]
set_option maxHeartbeats 2000000 in
theorem implLogVec (a : Option Addr) (n cap : Nat) (f : Nat → Int) (B : Nat) (w : World) (hs : IntsAt B w a n f) (hB : B ≤ w.heap.size) (hn : n ≤ 1048576) :
    Calls Try.prog 15 #[.slice a n cap] w (ResV 1 (if n ≤ 40 then vecOf 1 (itF (fun i => logI (f i)) n) else noV) w) := by
  by_cases h40 : n ≤ 40
  · rw [if_pos h40]
    have SA := Lib.hid hs
    have ST := Lib.hid (AppL.start w 1)
    clear hs
    go_enter Try.func15, Try.ntmps15
    go_wp2
    go_loopw [13] (fun i wr => ∃ (k : Nat) (sa : Option Addr) (sn sc : Nat), k ≤ n ∧ i = .int .i64 k ∧ AppL w wr 1 (itF (fun i => logI (f i)) k) sa sn sc) (fun i _ => n - (intOf i).toNat)
    case atStart => exact ⟨0, none, 0, 0, Nat.zero_le _, rfl, ST.out⟩
    case round =>
      obtain ⟨k, sa, sn, sc, hk, rfl, hap⟩ := hrel
      have AP := Lib.hid hap
      clear hap
      by_cases hlt : k < n
      · obtain ⟨b, off, rfl, hbB, hc⟩ := (SA.out.below (AP.out.below.mono hB)) k hlt
        have LN := Lib.hid (show (itF (fun i => logI (f i)) k).length ≤ 1048576 by rw [itF_len]; omega)
        have HZ := Lib.hid AP.out.big
        have H := Lib.hid AP.out.heldC
        have OR := Lib.hid AP.out.row
        have FAR := Lib.hid (fun q hq => AP.out.far (q := q) hq)
        have NX := Lib.hid (itF_succ (fun i => logI (f i)) k)
        have CV := Lib.hid (fun W => implVal (f k) W)
        have CI := Lib.hid (fun W => (logI_v (f k) ▸ implLogItem (vL (f k)) W (vL_three _)))
        go_wp2
        refine run_region (ops := (opsOf Try.f15 7)) (S := fun w' => HeldC w w' ([(w.heap.size, 27, #[.int .i64 0, .slice none 0 0, .slice none 0 0, .slice none 0 0, .slice none 0 0, .slice none 0 0, .int .i64 0, .int .i64 0]), (w.heap.size + 1, 27, #[.int .i64 1, .slice sa sn sc, .slice none 0 0, .slice none 0 0, .slice none 0 0, .slice none 0 0, .int .i64 0, .int .i64 0])])) [(0, true), (1, true), (2, true), (3, false), (4, false), (5, false), (6, false), (7, true), (8, false)] (by kernel_rfl) (by kernel_rfl) (by kernel_rfl) (by kernel_rfl) (by kernel_rfl) (fun _ _ _ _ _ h => h) (heldC_drew H.out) ?_
        have H := Lib.hid (heldC_drew H.out)
        have OR := Lib.hid (ownsRow_below OR.out (below_drew' (Below.refl _ _)))
        refine runC_partV (b := w.heap.size + 1) (by kernel_rfl) (show opAt (opsOf Try.f15 7) 0 = some (some 17, .fieldAddr 27 (.tmp 3) 1, none) from by kernel_rfl) (by kernel_rfl) (by kernel_rfl) (by kernel_rfl) ?_
        refine runC_cell (b := w.heap.size + 1) (j := 1) (v := .slice sa sn sc) load_its (show opAt (opsOf Try.f15 7) 1 = some (some 18, .load 23 (.tmp 17), none) from by kernel_rfl) (by kernel_rfl) (by kernel_rfl) (by kernel_rfl) (List.Mem.tail _ (List.Mem.head _)) rfl ?_
        refine run_mov (v := .int .i64 (f k)) (show opAt (opsOf Try.f15 7) 2 = some (some 19, .move (.tmp 5), none) from by kernel_rfl) (by kernel_rfl) (by kernel_rfl) (by kernel_rfl) ?_
        refine run_call (args := [.int .i64 (f k)]) (show opAt (opsOf Try.f15 7) 3 = some (some 20, .call { callee := .value (.func 52), args := [(.tmp 19)].toArray, argTypes := [3].toArray }, none) from by kernel_rfl) (by kernel_rfl) (by kernel_rfl) (by kernel_rfl) (by kernel_rfl) ?_
        refine (CV.out _).mono ?_
        rintro en rw1 ⟨rfl, rfl⟩
        refine ⟨_, rfl, H.out, ?_⟩
        refine run_call (args := [.int .i64 (vL (f k))]) (show opAt (opsOf Try.f15 7) 4 = some (some 21, .call { callee := .value (.func 51), args := [(.tmp 20)].toArray, argTypes := [66].toArray }, none) from by kernel_rfl) (by kernel_rfl) (by kernel_rfl) (by kernel_rfl) (by kernel_rfl) ?_
        refine (CI.out _).mono ?_
        rintro en rw2 ⟨rfl, hb⟩
        refine ⟨_, rfl, heldC_call H.out hb, ?_⟩
        have H := Lib.hid (heldC_call H.out hb)
        have OR := Lib.hid (ownsRow_below OR.out hb)
        clear hb
        refine tail_item (logI (f k)) (show opAt (opsOf Try.f15 7) 5 = some (some 22, .buildSlice 23 1 #[(0, (.tmp 21))], none) from by kernel_rfl) (by kernel_rfl) (by kernel_rfl) (show opAt (opsOf Try.f15 7) 6 = some (some 23, .call { callee := .builtin .append, args := [(.tmp 18), (.tmp 22)].toArray, argTypes := [23, 23].toArray }, none) from by kernel_rfl) (by kernel_rfl) (fun _ => by kernel_rfl) (show opAt (opsOf Try.f15 7) 7 = some (some 24, .fieldAddr 27 (.tmp 3) 1, none) from by kernel_rfl) (by kernel_rfl) (by kernel_rfl) (fun _ _ => by kernel_rfl) (show opAt (opsOf Try.f15 7) 8 = some (none, .store 23 (.tmp 24) (.tmp 23), none) from by kernel_rfl) (by kernel_rfl) (by kernel_rfl) H.out OR.out LN.out (Nat.succ_le_of_lt (Array.getElem?_eq_some_iff.1 (heldC_at H.out (List.Mem.tail _ (List.Mem.head _)))).1) (Nat.le_add_right _ 2) (List.Mem.tail _ (List.Mem.head _)) rfl (Nat.lt_succ_self _) (Nat.le_succ _) (fun q hq => FAR.out q hq) ?_
        rintro v' w2 ⟨sa, sn, sc, rfl⟩ hK hO hB hZ hR
        simp only [putAll, Act.put, List.setIfInBounds_toArray, List.set_cons_zero, List.set_cons_succ]
        have AN := Lib.hid (AppL.next (kind := 1) hK hO hB hR)
        clear hK hO hB hR H OR FAR HZ LN
        go_wp2
        go_roundw
        case rel => exact ⟨k + 1, sa, sn, sc, by omega, by go_num, NX.out ▸ AN.out⟩
        case measure => simp [intOf]; omega
      · obtain rfl : k = n := by omega
        have K1 := Lib.hid AP.out.vec
        have K0 := Lib.hid AP.out.res
        have FN := Lib.hid AP.out.fin
        obtain ⟨k0, k1, k2, k3, k4, k5, k6, k7⟩ := vec8 K1.out
        obtain ⟨z0, z1, z2, z3, z4, z5, z6, z7⟩ := vec8 K0.out
        obtain ⟨f0, f1, f2, f3, f4, f5, f6, f7⟩ := free8 K0.out
        go_wp2
        exact vec_end rfl rfl rfl K0.out FN.out
  · rw [if_neg h40]
    have Z := Lib.hid (fun hi W => own_zero w.heap.size hi W)
    clear hs
    go_enter Try.func15, Try.ntmps15
    go_wp2
    exact vec_ret0 rfl rfl rfl (blk_new _ _ rfl) ⟨_, rfl, Z.out _ _, below1 w _⟩
theorem heldC_cons {w v : World} {L : List (Nat × TypeId × Array Value)} {g : Nat} {t : TypeId} {C : Array Value} (h : HeldC w v L) (hb : v.heap[g]? = some (.cells C t (0, 0))) : HeldC w v ((g, t, C) :: L) :=
  ⟨h.1, fun q hq => by
    rcases List.mem_cons.1 hq with rfl | hq
    · exact hb
    · exact h.2 q hq⟩
theorem AppL.far2 {w wr : World} {kind : Int} {l : List It} {sa : Option Addr} {sn sc : Nat} (h : AppL w wr kind l sa sn sc) {C : Array Value} {q : Nat × TypeId × Array Value} (hq : q ∈ (wr.heap.size, 62, C) :: [(w.heap.size, 27, #[.int .i64 0, .slice none 0 0, .slice none 0 0, .slice none 0 0, .slice none 0 0, .slice none 0 0, .int .i64 0, .int .i64 0]), (w.heap.size + 1, 27, #[.int .i64 kind, .slice sa sn sc, .slice none 0 0, .slice none 0 0, .slice none 0 0, .slice none 0 0, .int .i64 0, .int .i64 0])]) : ∀ k, (Value.slice sa sn sc).ownBlock = some k → q.1 ≠ k := by
  rcases List.mem_cons.1 hq with rfl | hq
  · intro k hk e
    have h1 := (h.row.lt k hk).2
    simp only at e; omega
  · exact h.far hq
set_option maxHeartbeats 4000000 in
theorem specLogVec (a : Option Addr) (n cap : Nat) (f : Nat → Int) (B : Nat) (w : World) (hs : IntsAt B w a n f) (hB : B ≤ w.heap.size) (hn : n ≤ 1048576) :
    Calls Try.prog 13 #[.slice a n cap] w (ResV 1 (if n ≤ 40 then vecOf 1 (itF (fun i => logI (f i)) n) else noV) w) := by
  by_cases h40 : n ≤ 40
  · rw [if_pos h40]
    have SA := Lib.hid hs
    have ST := Lib.hid (AppL.start w 1)
    clear hs
    go_enter Try.func13, Try.ntmps13
    go_wp2
    go_loopw [4] (fun i wr => ∃ (k : Nat) (sa : Option Addr) (sn sc : Nat), k ≤ n ∧ i = .int .i64 k ∧ AppL w wr 1 (itF (fun i => logI (f i)) k) sa sn sc) (fun i _ => n - (intOf i).toNat)
    case atStart => exact ⟨0, none, 0, 0, Nat.zero_le _, rfl, ST.out⟩
    case round =>
      obtain ⟨k, sa, sn, sc, hk, rfl, hap⟩ := hrel
      have AP := Lib.hid hap
      clear hap
      by_cases hlt : k < n
      · obtain ⟨b, off, rfl, hbB, hc0⟩ := SA.out k hlt
        have hc := (AP.out.below.cell (p := ⟨b, off + k, none⟩) (Nat.lt_of_lt_of_le hbB hB)).trans hc0
        have LN := Lib.hid (show (itF (fun i => logI (f i)) k).length ≤ 1048576 by rw [itF_len]; omega)
        have HZ := Lib.hid AP.out.big
        have NX := Lib.hid (itF_succ (fun i => logI (f i)) k)
        have IN := Lib.hid (fun W => in01 (f k) W)
        have FAR := Lib.hid (fun C q hq => AP.out.far2 (C := C) (q := q) hq)
        have hz := AP.out.big
        have hbw : b < wr.heap.size := Nat.lt_of_lt_of_le (Nat.lt_of_lt_of_le hbB hB) AP.out.below.size
        go_wp2_with fail
        obtain ⟨w1, hw1⟩ : ∃ W, wr.alloc (.cells #[.int .i64 0, .int .i64 0, .string ⟨#[]⟩] 62) = W := ⟨_, rfl⟩
        have B1 := Lib.hid (show Below wr.heap.size wr w1 from hw1 ▸ below1 wr _)
        have X1 := Lib.hid (show w1.heap[wr.heap.size]? = some (.cells #[.int .i64 0, .int .i64 0, .string ⟨#[]⟩] 62 (0, 0)) from hw1 ▸ blk_new wr _ rfl)
        rw [hw1]
        clear hw1
        have hc1 := (B1.out.cell (p := ⟨b, off + k, none⟩) (Nat.lt_of_lt_of_le (Nat.lt_of_lt_of_le hbB hB) AP.out.below.size)).trans hc
        with_reducible refine (IN.out _).mono ?_
        rintro e w' ⟨rfl, rfl⟩
        by_cases h01 : f k = 0 ∨ f k = 1
        · rw [decide_eq_true h01]
          have LV := Lib.hid (show logI (f k) = ⟨f k, 1, ⟨#[]⟩⟩ by rcases h01 with h | h <;> rw [h] <;> rfl)
          have NU := Lib.hid (fun W => specNum2 (f k) W)
          clear h01
          go_wp2_with fail
          with_reducible refine (NU.out _).mono ?_
          rintro e w2 ⟨rfl, b2⟩
          have A2 := Lib.hid (AP.out.keep (below_then B1.out b2))
          have X2 := Lib.hid (blk_below b2 X1.out)
          have FX := Lib.hid (freeOf X2.out : w2.frozen? ⟨wr.heap.size, 0, none⟩ = false)
          have hlt2 := (Array.getElem?_eq_some_iff.1 X2.out).1
          have q0 : w2.cell? ⟨wr.heap.size, 0, none⟩ = some (.int .i64 0) := cellOf X2.out rfl
          have q1 : w2.cell? ⟨wr.heap.size, 1, none⟩ = some (.int .i64 0) := cellOf X2.out rfl
          have q2 : w2.cell? ⟨wr.heap.size, 2, none⟩ = some (.string ⟨#[]⟩) := cellOf X2.out rfl
          have f0 : w2.frozen? ⟨wr.heap.size, 0, none⟩ = false := freeOf X2.out
          have f1 : w2.frozen? ⟨wr.heap.size, 1, none⟩ = false := freeOf X2.out
          have f2 : w2.frozen? ⟨wr.heap.size, 2, none⟩ = false := freeOf X2.out
          clear b2
          go_upto_region 8 with (fail)
          obtain ⟨w3, hw3⟩ : ∃ W, ((w2.setCell ⟨wr.heap.size, 0, none⟩ (.int .i64 (f k))).setCell ⟨wr.heap.size, 1, none⟩ (.int .i64 1)).setCell ⟨wr.heap.size, 2, none⟩ (.string ⟨#[]⟩) = W := ⟨_, rfl⟩
          have A3 := Lib.hid (show AppL w w3 1 (itF (fun i => logI (f i)) k) sa sn sc from hw3 ▸ A2.out.set3 (AP.out.below.size) (fun j hj => by have := (AP.out.row.lt j hj).2; omega) hz)
          have X3 := Lib.hid (show w3.heap[wr.heap.size]? = some (.cells #[.int .i64 (f k), .int .i64 1, .string ⟨#[]⟩] 62 (0, 0)) from hw3 ▸ cells_set3 X2.out)
          rw [hw3]
          clear hw3 q0 q1 q2 f0 f1 f2
          have H := Lib.hid (heldC_cons A3.out.heldC X3.out)
          have OR := Lib.hid A3.out.row
          refine run_region_seq (ops := (opsOf Try.f13 8)) (S := fun w' => HeldC w w' ([(wr.heap.size, 62, #[.int .i64 (f k), .int .i64 1, .string ⟨#[]⟩]), (w.heap.size, 27, #[.int .i64 0, .slice none 0 0, .slice none 0 0, .slice none 0 0, .slice none 0 0, .slice none 0 0, .int .i64 0, .int .i64 0]), (w.heap.size + 1, 27, #[.int .i64 1, .slice sa sn sc, .slice none 0 0, .slice none 0 0, .slice none 0 0, .slice none 0 0, .int .i64 0, .int .i64 0])])) [(0, true), (1, true), (2, true), (3, false), (4, false), (5, true), (6, false)] (by kernel_rfl) (by kernel_rfl) (by kernel_rfl) H.out ?_
          refine runC_partV (b := w.heap.size + 1) (by kernel_rfl) (show opAt (opsOf Try.f13 8) 0 = some (some 29, .fieldAddr 27 (.tmp 3) 1, none) from by kernel_rfl) (by kernel_rfl) (by kernel_rfl) (by kernel_rfl) ?_
          refine runC_cell (b := w.heap.size + 1) (j := 1) (v := .slice sa sn sc) load_its (show opAt (opsOf Try.f13 8) 1 = some (some 30, .load 23 (.tmp 29), none) from by kernel_rfl) (by kernel_rfl) (by kernel_rfl) (by kernel_rfl) (List.Mem.tail _ (List.Mem.tail _ (List.Mem.head _))) rfl ?_
          refine runC_itm (b := wr.heap.size) (show opAt (opsOf Try.f13 8) 2 = some (some 31, .load 62 (.tmp 5), none) from by kernel_rfl) (by kernel_rfl) (by kernel_rfl) (by kernel_rfl) (List.Mem.head _) ?_
          refine tail_item ⟨f k, 1, ⟨#[]⟩⟩ (show opAt (opsOf Try.f13 8) 3 = some (some 32, .buildSlice 23 1 #[(0, (.tmp 31))], none) from by kernel_rfl) (by kernel_rfl) (by kernel_rfl) (show opAt (opsOf Try.f13 8) 4 = some (some 33, .call { callee := .builtin .append, args := [(.tmp 30), (.tmp 32)].toArray, argTypes := [23, 23].toArray }, none) from by kernel_rfl) (by kernel_rfl) (fun _ => by kernel_rfl) (show opAt (opsOf Try.f13 8) 5 = some (some 34, .fieldAddr 27 (.tmp 3) 1, none) from by kernel_rfl) (by kernel_rfl) (by kernel_rfl) (fun _ _ => by kernel_rfl) (show opAt (opsOf Try.f13 8) 6 = some (none, .store 23 (.tmp 34) (.tmp 33), none) from by kernel_rfl) (by kernel_rfl) (by kernel_rfl) H.out OR.out LN.out (Nat.succ_le_of_lt (Array.getElem?_eq_some_iff.1 (heldC_at H.out (List.Mem.tail _ (List.Mem.tail _ (List.Mem.head _))))).1) (Nat.le_add_right _ 2) (List.Mem.tail _ (List.Mem.tail _ (List.Mem.head _))) rfl (Nat.lt_succ_self _) (Nat.le_succ _) (fun q hq => FAR.out _ q hq) ?_
          rintro v' w2 ⟨sa, sn, sc, rfl⟩ hK hO hB hZ hR
          simp only [putAll, Act.put, List.setIfInBounds_toArray, List.set_cons_zero, List.set_cons_succ]
          have NX := Lib.hid (show itF (fun i => logI (f i)) k ++ [⟨f k, 1, ⟨#[]⟩⟩] = itF (fun i => logI (f i)) (k + 1) by rw [← LV.out]; exact NX.out)
          have AN := Lib.hid (AppL.next (kind := 1) hK hO hB (fun q hq => hR q (List.Mem.tail _ hq)))
          clear hK hO hB hR H OR FAR HZ LN
          go_wp2
          go_roundw
          case rel => exact ⟨k + 1, sa, sn, sc, by omega, by go_num, NX.out ▸ AN.out⟩
          case measure => simp [intOf]; omega
        · rw [decide_eq_false h01]
          have LV := Lib.hid (show logI (f k) = ⟨0, 0, ⟨#[]⟩⟩ by unfold logI; rw [if_neg (fun h => h01 (.inl h)), if_neg (fun h => h01 (.inr h))]; rfl)
          clear h01
          have A3 := Lib.hid (AP.out.keep B1.out)
          go_upto_region 8 with (fail)
          have H := Lib.hid (heldC_cons A3.out.heldC X1.out)
          have OR := Lib.hid A3.out.row
          refine run_region_seq (ops := (opsOf Try.f13 8)) (S := fun w' => HeldC w w' ([(wr.heap.size, 62, #[.int .i64 0, .int .i64 0, .string ⟨#[]⟩]), (w.heap.size, 27, #[.int .i64 0, .slice none 0 0, .slice none 0 0, .slice none 0 0, .slice none 0 0, .slice none 0 0, .int .i64 0, .int .i64 0]), (w.heap.size + 1, 27, #[.int .i64 1, .slice sa sn sc, .slice none 0 0, .slice none 0 0, .slice none 0 0, .slice none 0 0, .int .i64 0, .int .i64 0])])) [(0, true), (1, true), (2, true), (3, false), (4, false), (5, true), (6, false)] (by kernel_rfl) (by kernel_rfl) (by kernel_rfl) H.out ?_
          refine runC_partV (b := w.heap.size + 1) (by kernel_rfl) (show opAt (opsOf Try.f13 8) 0 = some (some 29, .fieldAddr 27 (.tmp 3) 1, none) from by kernel_rfl) (by kernel_rfl) (by kernel_rfl) (by kernel_rfl) ?_
          refine runC_cell (b := w.heap.size + 1) (j := 1) (v := .slice sa sn sc) load_its (show opAt (opsOf Try.f13 8) 1 = some (some 30, .load 23 (.tmp 29), none) from by kernel_rfl) (by kernel_rfl) (by kernel_rfl) (by kernel_rfl) (List.Mem.tail _ (List.Mem.tail _ (List.Mem.head _))) rfl ?_
          refine runC_itm (b := wr.heap.size) (show opAt (opsOf Try.f13 8) 2 = some (some 31, .load 62 (.tmp 5), none) from by kernel_rfl) (by kernel_rfl) (by kernel_rfl) (by kernel_rfl) (List.Mem.head _) ?_
          refine tail_item ⟨0, 0, ⟨#[]⟩⟩ (show opAt (opsOf Try.f13 8) 3 = some (some 32, .buildSlice 23 1 #[(0, (.tmp 31))], none) from by kernel_rfl) (by kernel_rfl) (by kernel_rfl) (show opAt (opsOf Try.f13 8) 4 = some (some 33, .call { callee := .builtin .append, args := [(.tmp 30), (.tmp 32)].toArray, argTypes := [23, 23].toArray }, none) from by kernel_rfl) (by kernel_rfl) (fun _ => by kernel_rfl) (show opAt (opsOf Try.f13 8) 5 = some (some 34, .fieldAddr 27 (.tmp 3) 1, none) from by kernel_rfl) (by kernel_rfl) (by kernel_rfl) (fun _ _ => by kernel_rfl) (show opAt (opsOf Try.f13 8) 6 = some (none, .store 23 (.tmp 34) (.tmp 33), none) from by kernel_rfl) (by kernel_rfl) (by kernel_rfl) H.out OR.out LN.out (Nat.succ_le_of_lt (Array.getElem?_eq_some_iff.1 (heldC_at H.out (List.Mem.tail _ (List.Mem.tail _ (List.Mem.head _))))).1) (Nat.le_add_right _ 2) (List.Mem.tail _ (List.Mem.tail _ (List.Mem.head _))) rfl (Nat.lt_succ_self _) (Nat.le_succ _) (fun q hq => FAR.out _ q hq) ?_
          rintro v' w2 ⟨sa, sn, sc, rfl⟩ hK hO hB hZ hR
          simp only [putAll, Act.put, List.setIfInBounds_toArray, List.set_cons_zero, List.set_cons_succ]
          have NX := Lib.hid (show itF (fun i => logI (f i)) k ++ [⟨0, 0, ⟨#[]⟩⟩] = itF (fun i => logI (f i)) (k + 1) by rw [← LV.out]; exact NX.out)
          have AN := Lib.hid (AppL.next (kind := 1) hK hO hB (fun q hq => hR q (List.Mem.tail _ hq)))
          clear hK hO hB hR H OR FAR HZ LN
          go_wp2
          go_roundw
          case rel => exact ⟨k + 1, sa, sn, sc, by omega, by go_num, NX.out ▸ AN.out⟩
          case measure => simp [intOf]; omega
      · obtain rfl : k = n := by omega
        have K1 := Lib.hid AP.out.vec
        have K0 := Lib.hid AP.out.res
        have FN := Lib.hid AP.out.fin
        obtain ⟨k0, k1, k2, k3, k4, k5, k6, k7⟩ := vec8 K1.out
        obtain ⟨z0, z1, z2, z3, z4, z5, z6, z7⟩ := vec8 K0.out
        obtain ⟨f0, f1, f2, f3, f4, f5, f6, f7⟩ := free8 K0.out
        go_wp2
        exact vec_end rfl rfl rfl K0.out FN.out
  · rw [if_neg h40]
    have Z := Lib.hid (fun hi W => own_zero w.heap.size hi W)
    clear hs
    go_enter Try.func13, Try.ntmps13
    go_wp2
    refine wp_loop_rounds 1 ?_
    rw [rounds_succ]
    go_wp2
    exact vec_ret0 rfl rfl rfl (blk_old (blk_new w _ rfl)) ⟨_, rfl, Z.out _ _, (below1 w _).alloc (by simp) _⟩
end Go.Proofs.Yteigfhenbmhepaa

/- NumberVector on both sides. -/
namespace Go.Proofs.Yteigfhenbmhepaa
open Go.RowKit
set_option maxRecDepth 100000
set_option linter.unusedVariables false

def numI (x : Int) : It := ⟨(mkI x 1).n, (mkI x 1).d, ⟨#[]⟩⟩
theorem numI_t (x : Int) : (numI x).t.size ≤ 1048576 := Nat.zero_le _
theorem numI_in (x : Int) : InB (numI x) := by
  have h : mkI x 1 = noI ∨ isN (mkI x 1) = true := by
    unfold mkI; split
    · exact (ofQ_cases _).imp id (fun h => h.1)
    · exact .inl rfl
  rcases h with h | h
  · unfold numI; rw [h]; exact ⟨by decide, by decide, Nat.zero_le _⟩
  · have := isN_iff.1 h
    exact ⟨by unfold numI; simp only; omega, by unfold numI; simp only; omega, Nat.zero_le _⟩
set_option maxHeartbeats 2000000 in
theorem implNumVec (a : Option Addr) (n cap : Nat) (f : Nat → Int) (B : Nat) (w : World) (hs : IntsAt B w a n f) (hB : B ≤ w.heap.size) (hn : n ≤ 1048576) (hin : ∀ i, i < n → -9223372036854775808 ≤ f i ∧ f i ≤ 9223372036854775807) :
    Calls Try.prog 22 #[.slice a n cap] w (ResV 1 (if n ≤ 40 then vecOf 2 (itF (fun i => numI (f i)) n) else noV) w) := by
  by_cases h40 : n ≤ 40
  · rw [if_pos h40]
    have SA := Lib.hid hs
    have ST := Lib.hid (AppL.start w 2)
    clear hs
    go_enter Try.func22, Try.ntmps22
    go_wp2
    go_loopw [13] (fun i wr => ∃ (k : Nat) (sa : Option Addr) (sn sc : Nat), k ≤ n ∧ i = .int .i64 k ∧ AppL w wr 2 (itF (fun i => numI (f i)) k) sa sn sc) (fun i _ => n - (intOf i).toNat)
    case atStart => exact ⟨0, none, 0, 0, Nat.zero_le _, rfl, ST.out⟩
    case round =>
      obtain ⟨k, sa, sn, sc, hk, rfl, hap⟩ := hrel
      have AP := Lib.hid hap
      clear hap
      by_cases hlt : k < n
      · obtain ⟨b, off, rfl, hbB, hc⟩ := (SA.out.below (AP.out.below.mono hB)) k hlt
        have LN := Lib.hid (show (itF (fun i => numI (f i)) k).length ≤ 1048576 by rw [itF_len]; omega)
        have HZ := Lib.hid AP.out.big
        have H := Lib.hid AP.out.heldC
        have OR := Lib.hid AP.out.row
        have FAR := Lib.hid (fun q hq => AP.out.far (q := q) hq)
        have NX := Lib.hid (itF_succ (fun i => numI (f i)) k)
        have IN := hin k hlt
        have CI := Lib.hid (fun W => implMake (f k) 1 W IN ⟨by decide, by decide⟩)
        clear IN
        go_wp2
        refine run_region (ops := (opsOf Try.f22 7)) (S := fun w' => HeldC w w' ([(w.heap.size, 27, #[.int .i64 0, .slice none 0 0, .slice none 0 0, .slice none 0 0, .slice none 0 0, .slice none 0 0, .int .i64 0, .int .i64 0]), (w.heap.size + 1, 27, #[.int .i64 2, .slice sa sn sc, .slice none 0 0, .slice none 0 0, .slice none 0 0, .slice none 0 0, .int .i64 0, .int .i64 0])])) [(0, true), (1, true), (2, true), (3, false), (4, false), (5, false), (6, true), (7, false)] (by kernel_rfl) (by kernel_rfl) (by kernel_rfl) (by kernel_rfl) (by kernel_rfl) (fun _ _ _ _ _ h => h) (heldC_drew H.out) ?_
        have H := Lib.hid (heldC_drew H.out)
        have OR := Lib.hid (ownsRow_below OR.out (below_drew' (Below.refl _ _)))
        refine runC_partV (b := w.heap.size + 1) (by kernel_rfl) (show opAt (opsOf Try.f22 7) 0 = some (some 17, .fieldAddr 27 (.tmp 3) 1, none) from by kernel_rfl) (by kernel_rfl) (by kernel_rfl) (by kernel_rfl) ?_
        refine runC_cell (b := w.heap.size + 1) (j := 1) (v := .slice sa sn sc) load_its (show opAt (opsOf Try.f22 7) 1 = some (some 18, .load 23 (.tmp 17), none) from by kernel_rfl) (by kernel_rfl) (by kernel_rfl) (by kernel_rfl) (List.Mem.tail _ (List.Mem.head _)) rfl ?_
        refine run_mov (v := .int .i64 (f k)) (show opAt (opsOf Try.f22 7) 2 = some (some 19, .move (.tmp 5), none) from by kernel_rfl) (by kernel_rfl) (by kernel_rfl) (by kernel_rfl) ?_
        refine run_call (args := [.int .i64 (f k), .int .i64 1]) (show opAt (opsOf Try.f22 7) 3 = some (some 20, .call { callee := .value (.func 59), args := [(.tmp 19), (.const (.int .i64 1))].toArray, argTypes := [3, 3].toArray }, none) from by kernel_rfl) (by kernel_rfl) (by kernel_rfl) (by kernel_rfl) (by kernel_rfl) ?_
        refine (CI.out _).mono ?_
        rintro en rw1 ⟨rfl, hb⟩
        refine ⟨_, rfl, heldC_call H.out hb, ?_⟩
        have H := Lib.hid (heldC_call H.out hb)
        have OR := Lib.hid (ownsRow_below OR.out hb)
        clear hb
        refine tail_item (numI (f k)) (show opAt (opsOf Try.f22 7) 4 = some (some 21, .buildSlice 23 1 #[(0, (.tmp 20))], none) from by kernel_rfl) (by kernel_rfl) (by kernel_rfl) (show opAt (opsOf Try.f22 7) 5 = some (some 22, .call { callee := .builtin .append, args := [(.tmp 18), (.tmp 21)].toArray, argTypes := [23, 23].toArray }, none) from by kernel_rfl) (by kernel_rfl) (fun _ => by kernel_rfl) (show opAt (opsOf Try.f22 7) 6 = some (some 23, .fieldAddr 27 (.tmp 3) 1, none) from by kernel_rfl) (by kernel_rfl) (by kernel_rfl) (fun _ _ => by kernel_rfl) (show opAt (opsOf Try.f22 7) 7 = some (none, .store 23 (.tmp 23) (.tmp 22), none) from by kernel_rfl) (by kernel_rfl) (by kernel_rfl) H.out OR.out LN.out (Nat.succ_le_of_lt (Array.getElem?_eq_some_iff.1 (heldC_at H.out (List.Mem.tail _ (List.Mem.head _)))).1) (Nat.le_add_right _ 2) (List.Mem.tail _ (List.Mem.head _)) rfl (Nat.lt_succ_self _) (Nat.le_succ _) (fun q hq => FAR.out q hq) ?_
        rintro v' w2 ⟨sa, sn, sc, rfl⟩ hK hO hB hZ hR
        simp only [putAll, Act.put, List.setIfInBounds_toArray, List.set_cons_zero, List.set_cons_succ]
        have AN := Lib.hid (AppL.next (kind := 2) hK hO hB hR)
        clear hK hO hB hR H OR FAR HZ LN
        go_wp2
        go_roundw
        case rel => exact ⟨k + 1, sa, sn, sc, by omega, by go_num, NX.out ▸ AN.out⟩
        case measure => simp [intOf]; omega
      · obtain rfl : k = n := by omega
        have K1 := Lib.hid AP.out.vec
        have K0 := Lib.hid AP.out.res
        have FN := Lib.hid AP.out.fin
        obtain ⟨k0, k1, k2, k3, k4, k5, k6, k7⟩ := vec8 K1.out
        obtain ⟨z0, z1, z2, z3, z4, z5, z6, z7⟩ := vec8 K0.out
        obtain ⟨f0, f1, f2, f3, f4, f5, f6, f7⟩ := free8 K0.out
        go_wp2
        exact vec_end rfl rfl rfl K0.out FN.out
  · rw [if_neg h40]
    have Z := Lib.hid (fun hi W => own_zero w.heap.size hi W)
    clear hs
    go_enter Try.func22, Try.ntmps22
    go_wp2
    exact vec_ret0 rfl rfl rfl (blk_new _ _ rfl) ⟨_, rfl, Z.out _ _, below1 w _⟩
set_option maxHeartbeats 2000000 in
theorem specNumVec (a : Option Addr) (n cap : Nat) (f : Nat → Int) (B : Nat) (w : World) (hs : IntsAt B w a n f) (hB : B ≤ w.heap.size) (hn : n ≤ 1048576) (hin : ∀ i, i < n → -9223372036854775808 ≤ f i ∧ f i ≤ 9223372036854775807) :
    Calls Try.prog 21 #[.slice a n cap] w (ResV 1 (if n ≤ 40 then vecOf 2 (itF (fun i => numI (f i)) n) else noV) w) := by
  by_cases h40 : n ≤ 40
  · rw [if_pos h40]
    have SA := Lib.hid hs
    have ST := Lib.hid (AppL.start w 2)
    clear hs
    go_enter Try.func21, Try.ntmps21
    go_wp2
    go_loopw [4] (fun i wr => ∃ (k : Nat) (sa : Option Addr) (sn sc : Nat), k ≤ n ∧ i = .int .i64 k ∧ AppL w wr 2 (itF (fun i => numI (f i)) k) sa sn sc) (fun i _ => n - (intOf i).toNat)
    case atStart => exact ⟨0, none, 0, 0, Nat.zero_le _, rfl, ST.out⟩
    case round =>
      obtain ⟨k, sa, sn, sc, hk, rfl, hap⟩ := hrel
      have AP := Lib.hid hap
      clear hap
      by_cases hlt : k < n
      · obtain ⟨b, off, rfl, hbB, hc0⟩ := SA.out k hlt
        have LN := Lib.hid (show (itF (fun i => numI (f i)) k).length ≤ 1048576 by rw [itF_len]; omega)
        have HZ := Lib.hid AP.out.big
        have H := Lib.hid AP.out.heldC
        have OR := Lib.hid AP.out.row
        have FAR := Lib.hid (fun q hq => AP.out.far (q := q) hq)
        have NX := Lib.hid (itF_succ (fun i => numI (f i)) k)
        have IN := hin k hlt
        have CI := Lib.hid (fun W => specMake (f k) 1 W IN ⟨by decide, by decide⟩)
        clear IN
        go_wp2
        refine run_region (ops := (opsOf Try.f21 5)) (S := fun w' => HeldC w w' ([(w.heap.size, 27, #[.int .i64 0, .slice none 0 0, .slice none 0 0, .slice none 0 0, .slice none 0 0, .slice none 0 0, .int .i64 0, .int .i64 0]), (w.heap.size + 1, 27, #[.int .i64 2, .slice sa sn sc, .slice none 0 0, .slice none 0 0, .slice none 0 0, .slice none 0 0, .int .i64 0, .int .i64 0])])) [(0, true), (1, true), (2, true), (3, true), (4, true), (5, true), (6, false), (7, false), (8, false), (9, true), (10, false)] (by kernel_rfl) (by kernel_rfl) (by kernel_rfl) (by kernel_rfl) (by kernel_rfl) (fun _ _ _ _ _ h => h) (heldC_drew H.out) ?_
        have H := Lib.hid (heldC_drew H.out)
        have OR := Lib.hid (ownsRow_below OR.out (below_drew' (Below.refl _ _)))
        refine runC_partV (b := w.heap.size + 1) (by kernel_rfl) (show opAt (opsOf Try.f21 5) 0 = some (some 17, .fieldAddr 27 (.tmp 3) 1, none) from by kernel_rfl) (by kernel_rfl) (by kernel_rfl) (by kernel_rfl) ?_
        refine runC_cell (b := w.heap.size + 1) (j := 1) (v := .slice sa sn sc) load_its (show opAt (opsOf Try.f21 5) 1 = some (some 18, .load 23 (.tmp 17), none) from by kernel_rfl) (by kernel_rfl) (by kernel_rfl) (by kernel_rfl) (List.Mem.tail _ (List.Mem.head _)) rfl ?_
        refine run_mov (v := .slice (some ⟨b, off, none⟩) n cap) (show opAt (opsOf Try.f21 5) 2 = some (some 19, .move (.tmp 0), none) from by kernel_rfl) (by kernel_rfl) (by kernel_rfl) (by kernel_rfl) ?_
        refine run_mov (v := .int .i64 ((k : Int))) (show opAt (opsOf Try.f21 5) 3 = some (some 20, .move (.tmp 4), none) from by kernel_rfl) (by kernel_rfl) (by kernel_rfl) (by kernel_rfl) ?_
        refine run_idx1 (n := n) (c := cap) (b := b) (off := off) (k := k) (show opAt (opsOf Try.f21 5) 4 = some (some 21, .indexAddr 22 (.tmp 19) (.tmp 20), none) from by kernel_rfl) (by kernel_rfl) (by kernel_rfl) (by kernel_rfl) (by kernel_rfl) hlt Try.underlying22 (by kernel_rfl) infoInt ?_
        refine runC_old (b := b) (j := off + k) (v := .int .i64 (f k)) load_int (show opAt (opsOf Try.f21 5) 5 = some (some 22, .load 3 (.tmp 21), none) from by kernel_rfl) (by kernel_rfl) (by kernel_rfl) (by kernel_rfl) (Nat.lt_of_lt_of_le hbB hB) hc0 ?_
        refine run_call (args := [.int .i64 (f k), .int .i64 1]) (show opAt (opsOf Try.f21 5) 6 = some (some 23, .call { callee := .value (.func 58), args := [(.tmp 22), (.const (.int .i64 1))].toArray, argTypes := [3, 3].toArray }, none) from by kernel_rfl) (by kernel_rfl) (by kernel_rfl) (by kernel_rfl) (by kernel_rfl) ?_
        refine (CI.out _).mono ?_
        rintro en rw1 ⟨rfl, hb⟩
        refine ⟨_, rfl, heldC_call H.out hb, ?_⟩
        have H := Lib.hid (heldC_call H.out hb)
        have OR := Lib.hid (ownsRow_below OR.out hb)
        clear hb
        refine tail_item (numI (f k)) (show opAt (opsOf Try.f21 5) 7 = some (some 24, .buildSlice 23 1 #[(0, (.tmp 23))], none) from by kernel_rfl) (by kernel_rfl) (by kernel_rfl) (show opAt (opsOf Try.f21 5) 8 = some (some 25, .call { callee := .builtin .append, args := [(.tmp 18), (.tmp 24)].toArray, argTypes := [23, 23].toArray }, none) from by kernel_rfl) (by kernel_rfl) (fun _ => by kernel_rfl) (show opAt (opsOf Try.f21 5) 9 = some (some 26, .fieldAddr 27 (.tmp 3) 1, none) from by kernel_rfl) (by kernel_rfl) (by kernel_rfl) (fun _ _ => by kernel_rfl) (show opAt (opsOf Try.f21 5) 10 = some (none, .store 23 (.tmp 26) (.tmp 25), none) from by kernel_rfl) (by kernel_rfl) (by kernel_rfl) H.out OR.out LN.out (Nat.succ_le_of_lt (Array.getElem?_eq_some_iff.1 (heldC_at H.out (List.Mem.tail _ (List.Mem.head _)))).1) (Nat.le_add_right _ 2) (List.Mem.tail _ (List.Mem.head _)) rfl (Nat.lt_succ_self _) (Nat.le_succ _) (fun q hq => FAR.out q hq) ?_
        rintro v' w2 ⟨sa, sn, sc, rfl⟩ hK hO hB hZ hR
        simp only [putAll, Act.put, List.setIfInBounds_toArray, List.set_cons_zero, List.set_cons_succ]
        have AN := Lib.hid (AppL.next (kind := 2) hK hO hB hR)
        clear hK hO hB hR H OR FAR HZ LN
        go_wp2
        go_roundw
        case rel => exact ⟨k + 1, sa, sn, sc, by omega, by go_num, NX.out ▸ AN.out⟩
        case measure => simp [intOf]; omega
      · obtain rfl : k = n := by omega
        have K1 := Lib.hid AP.out.vec
        have K0 := Lib.hid AP.out.res
        have FN := Lib.hid AP.out.fin
        obtain ⟨k0, k1, k2, k3, k4, k5, k6, k7⟩ := vec8 K1.out
        obtain ⟨z0, z1, z2, z3, z4, z5, z6, z7⟩ := vec8 K0.out
        obtain ⟨f0, f1, f2, f3, f4, f5, f6, f7⟩ := free8 K0.out
        go_wp2
        exact vec_end rfl rfl rfl K0.out FN.out
  · rw [if_neg h40]
    have Z := Lib.hid (fun hi W => own_zero w.heap.size hi W)
    clear hs
    go_enter Try.func21, Try.ntmps21
    go_wp2
    refine wp_loop_rounds 1 ?_
    rw [rounds_succ]
    go_wp2
    exact vec_ret0 rfl rfl rfl (blk_old (blk_new w _ rfl)) ⟨_, rfl, Z.out _ _, (below1 w _).alloc (by simp) _⟩
end Go.Proofs.Yteigfhenbmhepaa

/- Functions that return a vector and a text. -/
namespace Go.Proofs.Yteigfhenbmhepaa
open Go.RowKit
set_option maxRecDepth 100000
set_option linter.unusedVariables false

/-- A vector that lies in the result's block as it was made, and a text. -/
theorem vec_ret0S {fn : Func} {R : Ending → World → Prop} {act : Act} {w : World} {g : Nat} {p q : Tmp} {a b c d e f h i s : Value} {t : TypeId} {fr : Nat × Nat}
    (hfn : fn.results = #[.cell p 27, .tmp q]) (hp : act.tmps.getD p undef = .pointer (some ⟨g, 0, none⟩)) (hq : act.tmps.getD q undef = s) (hd : act.defers = []) (hg : w.heap[g]? = some (.cells #[a, b, c, d, e, f, h, i] t fr))
    (hR : R (.returned (.tuple #[.agg #[a, b, c, d, e, f, h, i], s])) w) : bodyPost Try.prog fn R .ret act w :=
  bodyPost_ret (by
    have e1 := run_loadVar_row (P := Try.prog) w g t 27 #[a, b, c, d, e, f, h, i] fr _ hg Try.underlying27 rfl infoVec
    rw [results_cell_tmp hfn, hp, hq]
    show ((loadVar 27 ⟨g, 0, none⟩).run Try.prog w).andThen _ = _
    rw [e1]; rfl) hd hR
theorem vec_endS {fn : Func} {R : Ending → World → Prop} {act : Act} {w : World} {g : Nat} {p q : Tmp} {s z0 z1 z2 z3 z4 z5 z6 z7 c0 c1 c2 c3 c4 c5 c6 c7 : Value} {t : TypeId}
    (hfn : fn.results = #[.cell p 27, .tmp q]) (hp : act.tmps.getD p undef = .pointer (some ⟨g, 0, none⟩)) (hq : act.tmps.getD q undef = s) (hd : act.defers = []) (hg : w.heap[g]? = some (.cells #[z0, z1, z2, z3, z4, z5, z6, z7] t (0, 0)))
    (hR : R (.returned (.tuple #[.agg #[c0, c1, c2, c3, c4, c5, c6, c7], s])) (put8 w g 0 c0 c1 c2 c3 c4 c5 c6 c7)) :
    bodyPost Try.prog fn R .ret act ((((((((w.setCell ⟨g, 0, none⟩ c0).setCell ⟨g, 1, none⟩ c1).setCell ⟨g, 2, none⟩ c2).setCell ⟨g, 3, none⟩ c3).setCell ⟨g, 4, none⟩ c4).setCell ⟨g, 5, none⟩ c5).setCell ⟨g, 6, none⟩ c6).setCell ⟨g, 7, none⟩ c7) :=
  vec_ret0S hfn hp hq hd (put8_lit hg) hR
theorem ResV.withS {d : Nat} {V : Vec} {w : World} {y : Value} {w' : World} {s : ByteArray} (h : ResV d V w (.returned y) w') : ResVS d V s w (.returned (.tuple #[y, .string s])) w' := by
  obtain ⟨z, e, r⟩ := h
  cases e
  exact ⟨_, rfl, r⟩
/-- "result is too large" -/
def bigB : ByteArray := ⟨#[114, 101, 115, 117, 108, 116, 32, 105, 115, 32, 116, 111, 111, 32, 108, 97, 114, 103, 101]⟩
theorem zeroS (s : ByteArray) (w w' : World) (hb : Below w.heap.size w w') : ResVS 1 noV s w (.returned (.tuple #[.agg #[.int .i64 0, .slice none 0 0, .slice none 0 0, .slice none 0 0, .slice none 0 0, .slice none 0 0, .int .i64 0, .int .i64 0], .string s])) w' := ⟨_, rfl, own_zero _ _ _, hb⟩
section
variable {P : Program} {ops : Array Oper} {Q : Exit → Act → World → Prop} {S : World → Prop}
variable {r : List (Nat × Bool)} {a : Act} {e : List (Nat × Value)} {w : World} {i d : Nat} {g : Option (Nat × Bool)} {v : Value}
theorem run_add {x y : Operand} {t t' : TypeId} {k : IntKind} {p q z : Int} (ho : opAt ops i = some (some d, .binOp .add t x y t', g)) (hd : Nat.blt d a.tmps.size = true)
    (hw : wantE ops a e g = some true) (hx : lookO a e x = .int k p) (hy : lookO a e y = .int k q) (hz : k.wrap (p + q) = z)
    (h : RunE P ops Q S r a ((d, .int k z) :: e) w) : RunE P ops Q S ((i, true) :: r) a e w :=
  run_yield ho hd hw (fun o w' h1 _ => by
    unfold execOp; rw [h1]; simp only [hx, hy]; subst hz
    simp [eqGuard, binOp, Op.intArith, go_sem] <;> rfl) h
end
end Go.Proofs.Yteigfhenbmhepaa

/- Vectors of items alone as results of laws: they are small, they fit, and their marks are few; ints that come in, with their bounds. -/
namespace Go.Proofs.Yteigfhenbmhepaa
open Go.RowKit
set_option maxRecDepth 100000
set_option linter.unusedVariables false

theorem mem_itF {g : Nat → It} {n : Nat} {x : It} (h : x ∈ itF g n) : ∃ i, i < n ∧ x = g i := by
  obtain ⟨i, hi, rfl⟩ := List.mem_map.1 h
  exact ⟨i, List.mem_range.1 hi, rfl⟩
theorem cnt_vecOf (k : Int) (l : List It) : cntM 1 (vecOf k l) = 3 * l.length := by
  show cntM 1 (.mk k l [] [] [] [] 0 0) = _
  rw [cntM_eq]
  show 3 * l.length + sumN _ 0 + 0 + 0 + 0 = _
  simp [sumN]
theorem cnt_noV : cntM 1 noV = 0 := by
  show cntM 1 (.mk 0 [] [] [] [] [] 0 0) = _
  rw [cntM_eq]
  show 3 * 0 + sumN _ 0 + 0 + 0 + 0 = _
  simp [sumN]
theorem small_res (k : Int) (g : Nat → It) (n : Nat) (h : ∀ i, (g i).t.size ≤ 1048576) : Small 1 (if n ≤ 40 then vecOf k (itF g n) else noV) := by
  split
  · exact small_vecOf (by rw [itF_len]; omega) (fun x hx => by obtain ⟨i, _, rfl⟩ := mem_itF hx; exact h i)
  · exact small_noV
theorem fits_res (k : Int) (g : Nat → It) (n : Nat) (hk : -9223372036854775808 ≤ k ∧ k ≤ 9223372036854775807) (h : ∀ i, InB (g i)) : Fits 1 (if n ≤ 40 then vecOf k (itF g n) else noV) := by
  split
  · exact fits_vecOf hk (by rw [itF_len]; omega) (fun x hx => by obtain ⟨i, _, rfl⟩ := mem_itF hx; exact h i)
  · exact fits_noV
theorem cnt_res (k : Int) (g : Nat → It) (n : Nat) : 1 + cntM 1 (if n ≤ 40 then vecOf k (itF g n) else noV) ≤ 8000000 := by
  split
  · rw [cnt_vecOf, itF_len]; omega
  · rw [cnt_noV]; omega
theorem logI_t (x : Int) : (logI x).t.size ≤ 1048576 := by
  unfold logI; repeat' split
  all_goals exact Nat.zero_le _
theorem inB_small {n d : Int} (h : (-9223372036854775808 ≤ n ∧ n ≤ 9223372036854775807) ∧ (-9223372036854775808 ≤ d ∧ d ≤ 9223372036854775807)) : InB ⟨n, d, ⟨#[]⟩⟩ := ⟨h.1, h.2, Nat.zero_le _⟩
theorem inB_noI : InB noI := inB_small (by decide)
theorem logI_in (x : Int) : InB (logI x) := by
  unfold logI; split
  · exact inB_small (by decide)
  · split
    · exact inB_small (by decide)
    · exact inB_noI
/-- What a slice of ints that came in holds, with the bounds of its ints. -/
theorem ints_inb {H : Type} {enc : TypeId × Value → H} {W : World} {base : Nat} {sp : Nat → Bool} {held : Bool} {fuel : Nat} {a : Option Addr} {n cap : Nat} {x : DataW H × List MemPlace}
    (hf : DataW.trod enc Try.prog W base sp held fuel 22 (Value.slice a n cap).cells.toList = some x) :
    ∃ f : Nat → Int, IntsAt W.heap.size W a n f ∧ n ≤ maxLen ∧ ∀ i, -9223372036854775808 ≤ f i ∧ f i ≤ 9223372036854775807 := by
  rcases ChangeShapes.open_ints Try.underlying22 Try.underlying3 cellsIntOf hf with ⟨hcs, _⟩ | ⟨b, l, c, zs, hcs, _, hl, hm, hz, _, hcell, hws⟩
  · simp [Value.cells] at hcs
    obtain ⟨rfl, rfl, rfl⟩ := hcs
    exact ⟨fun _ => 0, fun i hi => absurd hi (Nat.not_lt_zero _), Nat.zero_le _, fun _ => ⟨by simp, by simp⟩⟩
  · simp [Value.cells] at hcs
    obtain ⟨rfl, rfl, rfl⟩ := hcs
    refine ⟨fun i => zs.getD i 0, fun i hi => ?_, by omega, fun i => ?_⟩
    · have hlen : i < zs.length := by rw [hz]; split <;> omega
      have hc := hcell i hlen
      obtain ⟨bb, off, spot⟩ := b
      have hspot : spot = none := by simpa [Addr.add] using World.cell?_spot (hcell 0 (by omega))
      subst hspot
      rw [addr_add] at hc
      exact ⟨bb, off, rfl, cellI_lt hc, hc⟩
    · rcases Nat.lt_or_ge i zs.length with h | h
      · have e : zs.getD i 0 = zs[i] := by simp [List.getD_eq_getElem?_getD, List.getElem?_eq_getElem h]
        show -9223372036854775808 ≤ zs.getD i 0 ∧ zs.getD i 0 ≤ 9223372036854775807
        rw [e]
        exact Go.bounds_i64 (hws _ (List.getElem_mem h))
      · have e : zs.getD i 0 = 0 := by simp [List.getD_eq_getElem?_getD, List.getElem?_eq_none h]
        show -9223372036854775808 ≤ zs.getD i 0 ∧ zs.getD i 0 ≤ 9223372036854775807
        rw [e]; decide
end Go.Proofs.Yteigfhenbmhepaa

/- SequenceOf on both sides. -/
namespace Go.Proofs.Yteigfhenbmhepaa
open Go.RowKit
set_option maxRecDepth 100000
set_option linter.unusedVariables false

def InW (x : Int) : Prop := -999999999 ≤ x ∧ x ≤ 999999999
def SeqOk (a b : Int) : Prop := InW a ∧ InW b ∧ (b - a).natAbs < 40
def seqI (a b : Int) (i : Nat) : Int := if a ≤ b then a + (i : Int) else a - (i : Int)
def seqG (a b : Int) (i : Nat) : It := ⟨seqI a b i, 1, ⟨#[]⟩⟩
noncomputable def seqV (a b : Int) : Vec := match bB (SeqOk a b) with | true => vecOf 2 (itF (seqG a b) ((b - a).natAbs + 1)) | false => noV
noncomputable def seqS (a b : Int) : ByteArray := match bB (SeqOk a b) with | true => ⟨#[]⟩ | false => bigB
theorem seqV_yes {a b : Int} (h : SeqOk a b) : seqV a b = vecOf 2 (itF (seqG a b) ((b - a).natAbs + 1)) := by unfold seqV; rw [bB_yes h]
theorem seqV_no {a b : Int} (h : ¬ SeqOk a b) : seqV a b = noV := by unfold seqV; rw [bB_no h]
theorem seqS_yes {a b : Int} (h : SeqOk a b) : seqS a b = ⟨#[]⟩ := by unfold seqS; rw [bB_yes h]
theorem seqS_no {a b : Int} (h : ¬ SeqOk a b) : seqS a b = bigB := by unfold seqS; rw [bB_no h]
theorem wrap64_id {x : Int} (h0 : -9223372036854775808 ≤ x) (h1 : x ≤ 9223372036854775807) : IntKind.wrap .i64 x = x := by
  exact IntWalk.i64_in x ⟨h0, h1⟩
theorem numI_whole {x : Int} (h : InW x) : numI x = ⟨x, 1, ⟨#[]⟩⟩ := by
  have e : Rat.divInt x 1 = (x : Rat) := by rw [Rat.divInt_eq_div]; grind
  have hn : isN ⟨(Rat.divInt x 1).num, (Rat.divInt x 1).den, ⟨#[]⟩⟩ = true := by
    rw [e, isN_iff]
    obtain ⟨h0, h1⟩ := h
    refine ⟨rfl, by simp, by simp, by simpa using h0, by simpa using h1, by simp⟩
  unfold numI
  obtain ⟨h0, h1⟩ := h
  rw [mkI_ok (by unfold okR; omega), ofQ_yes hn, e]
  simp
theorem seqI_in {a b : Int} (h : SeqOk a b) {i : Nat} (hi : i < (b - a).natAbs + 1) : InW (seqI a b i) := by
  obtain ⟨⟨h0, h1⟩, ⟨h2, h3⟩, h4⟩ := h
  unfold seqI InW; split <;> omega
theorem itF_congr {g h : Nat → It} {n : Nat} (e : ∀ i, i < n → g i = h i) : itF g n = itF h n := by
  unfold itF
  exact List.map_congr_left (fun i hi => e i (List.mem_range.1 hi))
theorem seq_items {a b : Int} (h : SeqOk a b) : itF (fun i => numI (seqI a b i)) ((b - a).natAbs + 1) = itF (seqG a b) ((b - a).natAbs + 1) :=
  itF_congr (fun i hi => numI_whole (seqI_in h hi))
set_option maxHeartbeats 4000000 in
theorem specSeq (a b : Int) (w : World) (ha : -9223372036854775808 ≤ a ∧ a ≤ 9223372036854775807) (hb : -9223372036854775808 ≤ b ∧ b ≤ 9223372036854775807) :
    Calls Try.prog 29 #[.int .i64 a, .int .i64 b] w (ResVS 1 (seqV a b) (seqS a b) w) := by
  have ZS := Lib.hid (fun W (hB : Below w.heap.size w W) => zeroS bigB w W hB)
  by_cases h1 : InW a
  · by_cases h2 : InW b
    · have I1 := Lib.hid (fun W => inYes a (-999999999) 999999999 W h1.1 h1.2)
      have I2 := Lib.hid (fun W => inYes b (-999999999) 999999999 W h2.1 h2.2)
      have a0 : -999999999 ≤ a := h1.1
      have a1 : a ≤ 999999999 := h1.2
      have b0 : -999999999 ≤ b := h2.1
      have b1 : b ≤ 999999999 := h2.2
      have AB := Lib.hid (fun W => specAbs (b - a) W (by omega) (by omega))
      by_cases h3 : (b - a).natAbs < 40
      · have hok : SeqOk a b := ⟨h1, h2, h3⟩
        rw [seqV_yes hok, seqS_yes hok]
        obtain ⟨n, hn⟩ : ∃ n, (b - a).natAbs = n := ⟨_, rfl⟩
        have HN := Lib.hid hn
        rw [hn] at h3 AB ⊢
        clear hn hok h1 h2 ha hb
        have ST := Lib.hid (AppL.start w 2)
        have NU := Lib.hid (fun x W => specNum2 x W)
        go_enter Try.func29, Try.ntmps29
        go_wp2_with fail
        with_reducible refine (I1.out _).mono ?_
        rintro e w' ⟨rfl, rfl⟩
        go_wp2_with fail
        with_reducible refine (I2.out _).mono ?_
        rintro e w' ⟨rfl, rfl⟩
        go_wp2_with fail
        with_reducible refine (AB.out _).mono ?_
        rintro e w' ⟨rfl, rfl⟩
        go_wp2
        go_loopw [7] (fun i wr => ∃ (k : Nat) (sa : Option Addr) (sn sc : Nat), k ≤ n + 1 ∧ i = .int .i64 k ∧ AppL w wr 2 (itF (seqG a b) k) sa sn sc) (fun i _ => n + 1 - (intOf i).toNat)
        case atStart => exact ⟨0, none, 0, 0, Nat.zero_le _, rfl, ST.out⟩
        case round =>
          obtain ⟨k, sa, sn, sc, hk, rfl, hap⟩ := hrel
          have AP := Lib.hid hap
          clear hap
          by_cases hlt : k < n + 1
          · have LN := Lib.hid (show (itF (seqG a b) k).length ≤ 1048576 by rw [itF_len]; omega)
            have HZ := Lib.hid AP.out.big
            have H := Lib.hid AP.out.heldC
            have OR := Lib.hid AP.out.row
            have FAR := Lib.hid (fun q hq => AP.out.far (q := q) hq)
            have NX0 := Lib.hid (itF_succ (seqG a b) k)
            go_wp2_with fail
            with_reducible refine (AB.out _).mono ?_
            rintro e w' ⟨rfl, rfl⟩
            have hle : (k : Int) ≤ (n : Int) := by omega
            by_cases hab : a ≤ b
            · have NX := Lib.hid (show itF (seqG a b) k ++ [⟨a + (k : Int), 1, ⟨#[]⟩⟩] = itF (seqG a b) (k + 1) by rw [← NX0.out]; unfold seqG seqI; rw [if_pos hab])
              go_wp2
              refine run_region (ops := (opsOf Try.f29 8)) (S := fun w' => HeldC w w' ([(w.heap.size, 27, #[.int .i64 0, .slice none 0 0, .slice none 0 0, .slice none 0 0, .slice none 0 0, .slice none 0 0, .int .i64 0, .int .i64 0]), (w.heap.size + 1, 27, #[.int .i64 2, .slice sa sn sc, .slice none 0 0, .slice none 0 0, .slice none 0 0, .slice none 0 0, .int .i64 0, .int .i64 0])])) [(0, true), (1, true), (2, true), (3, true), (4, true), (5, false), (6, false), (7, false), (8, true), (9, false)] (by kernel_rfl) (by kernel_rfl) (by kernel_rfl) (by kernel_rfl) (by kernel_rfl) (fun _ _ _ _ _ h => h) (heldC_drew H.out) ?_
              have H := Lib.hid (heldC_drew H.out)
              have OR := Lib.hid (ownsRow_below OR.out (below_drew' (Below.refl _ _)))
              refine runC_partV (b := w.heap.size + 1) (by kernel_rfl) (show opAt (opsOf Try.f29 8) 0 = some (some 36, .fieldAddr 27 (.tmp 6) 1, none) from by kernel_rfl) (by kernel_rfl) (by kernel_rfl) (by kernel_rfl) ?_
              refine runC_cell (b := w.heap.size + 1) (j := 1) (v := .slice sa sn sc) load_its (show opAt (opsOf Try.f29 8) 1 = some (some 37, .load 23 (.tmp 36), none) from by kernel_rfl) (by kernel_rfl) (by kernel_rfl) (by kernel_rfl) (List.Mem.tail _ (List.Mem.head _)) rfl ?_
              refine run_mov (v := .int .i64 a) (show opAt (opsOf Try.f29 8) 2 = some (some 38, .move (.tmp 0), none) from by kernel_rfl) (by kernel_rfl) (by kernel_rfl) (by kernel_rfl) ?_
              refine run_mov (v := .int .i64 ((k : Int))) (show opAt (opsOf Try.f29 8) 3 = some (some 39, .move (.tmp 7), none) from by kernel_rfl) (by kernel_rfl) (by kernel_rfl) (by kernel_rfl) ?_
              refine run_add (k := .i64) (p := a) (q := (k : Int)) (z := (a + (k : Int))) (show opAt (opsOf Try.f29 8) 4 = some (some 40, .binOp .add 3 (.tmp 38) (.tmp 39) 3, none) from by kernel_rfl) (by kernel_rfl) (by kernel_rfl) (by kernel_rfl) (by kernel_rfl) (wrap64_id (by omega) (by omega)) ?_
              refine run_call (args := [.int .i64 ((a + (k : Int)))]) (show opAt (opsOf Try.f29 8) 5 = some (some 41, .call { callee := .value (.func 50), args := [(.tmp 40)].toArray, argTypes := [3].toArray }, none) from by kernel_rfl) (by kernel_rfl) (by kernel_rfl) (by kernel_rfl) (by kernel_rfl) ?_
              refine (NU.out (a + (k : Int)) _).mono ?_
              rintro en rw1 ⟨rfl, hb⟩
              refine ⟨_, rfl, heldC_call H.out hb, ?_⟩
              have H := Lib.hid (heldC_call H.out hb)
              have OR := Lib.hid (ownsRow_below OR.out hb)
              clear hb
              refine tail_item ⟨a + (k : Int), 1, ⟨#[]⟩⟩ (show opAt (opsOf Try.f29 8) 6 = some (some 42, .buildSlice 23 1 #[(0, (.tmp 41))], none) from by kernel_rfl) (by kernel_rfl) (by kernel_rfl) (show opAt (opsOf Try.f29 8) 7 = some (some 43, .call { callee := .builtin .append, args := [(.tmp 37), (.tmp 42)].toArray, argTypes := [23, 23].toArray }, none) from by kernel_rfl) (by kernel_rfl) (fun _ => by kernel_rfl) (show opAt (opsOf Try.f29 8) 8 = some (some 44, .fieldAddr 27 (.tmp 6) 1, none) from by kernel_rfl) (by kernel_rfl) (by kernel_rfl) (fun _ _ => by kernel_rfl) (show opAt (opsOf Try.f29 8) 9 = some (none, .store 23 (.tmp 44) (.tmp 43), none) from by kernel_rfl) (by kernel_rfl) (by kernel_rfl) H.out OR.out LN.out (Nat.succ_le_of_lt (Array.getElem?_eq_some_iff.1 (heldC_at H.out (List.Mem.tail _ (List.Mem.head _)))).1) (Nat.le_add_right _ 2) (List.Mem.tail _ (List.Mem.head _)) rfl (Nat.lt_succ_self _) (Nat.le_succ _) (fun q hq => FAR.out q hq) ?_
              rintro v' w2 ⟨sa, sn, sc, rfl⟩ hK hO hB hZ hR
              simp only [putAll, Act.put, List.setIfInBounds_toArray, List.set_cons_zero, List.set_cons_succ]
              have AN := Lib.hid (AppL.next (kind := 2) hK hO hB hR)
              clear hK hO hB hR H OR FAR HZ LN
              go_wp2
              go_roundw
              case rel => exact ⟨k + 1, sa, sn, sc, by omega, by go_num, NX.out ▸ AN.out⟩
              case measure => simp [intOf]; omega
            · have NX := Lib.hid (show itF (seqG a b) k ++ [⟨a - (k : Int), 1, ⟨#[]⟩⟩] = itF (seqG a b) (k + 1) by rw [← NX0.out]; unfold seqG seqI; rw [if_neg hab])
              have hba : b < a := by omega
              go_wp2
              refine run_region (ops := (opsOf Try.f29 9)) (S := fun w' => HeldC w w' ([(w.heap.size, 27, #[.int .i64 0, .slice none 0 0, .slice none 0 0, .slice none 0 0, .slice none 0 0, .slice none 0 0, .int .i64 0, .int .i64 0]), (w.heap.size + 1, 27, #[.int .i64 2, .slice sa sn sc, .slice none 0 0, .slice none 0 0, .slice none 0 0, .slice none 0 0, .int .i64 0, .int .i64 0])])) [(0, true), (1, true), (2, true), (3, true), (4, true), (5, false), (6, false), (7, false), (8, true), (9, false)] (by kernel_rfl) (by kernel_rfl) (by kernel_rfl) (by kernel_rfl) (by kernel_rfl) (fun _ _ _ _ _ h => h) (heldC_drew H.out) ?_
              have H := Lib.hid (heldC_drew H.out)
              have OR := Lib.hid (ownsRow_below OR.out (below_drew' (Below.refl _ _)))
              refine runC_partV (b := w.heap.size + 1) (by kernel_rfl) (show opAt (opsOf Try.f29 9) 0 = some (some 45, .fieldAddr 27 (.tmp 6) 1, none) from by kernel_rfl) (by kernel_rfl) (by kernel_rfl) (by kernel_rfl) ?_
              refine runC_cell (b := w.heap.size + 1) (j := 1) (v := .slice sa sn sc) load_its (show opAt (opsOf Try.f29 9) 1 = some (some 46, .load 23 (.tmp 45), none) from by kernel_rfl) (by kernel_rfl) (by kernel_rfl) (by kernel_rfl) (List.Mem.tail _ (List.Mem.head _)) rfl ?_
              refine run_mov (v := .int .i64 a) (show opAt (opsOf Try.f29 9) 2 = some (some 47, .move (.tmp 0), none) from by kernel_rfl) (by kernel_rfl) (by kernel_rfl) (by kernel_rfl) ?_
              refine run_mov (v := .int .i64 ((k : Int))) (show opAt (opsOf Try.f29 9) 3 = some (some 48, .move (.tmp 7), none) from by kernel_rfl) (by kernel_rfl) (by kernel_rfl) (by kernel_rfl) ?_
              refine run_sub (k := .i64) (p := a) (q := (k : Int)) (z := (a - (k : Int))) (show opAt (opsOf Try.f29 9) 4 = some (some 49, .binOp .sub 3 (.tmp 47) (.tmp 48) 3, none) from by kernel_rfl) (by kernel_rfl) (by kernel_rfl) (by kernel_rfl) (by kernel_rfl) (wrap64_id (by omega) (by omega)) ?_
              refine run_call (args := [.int .i64 ((a - (k : Int)))]) (show opAt (opsOf Try.f29 9) 5 = some (some 50, .call { callee := .value (.func 50), args := [(.tmp 49)].toArray, argTypes := [3].toArray }, none) from by kernel_rfl) (by kernel_rfl) (by kernel_rfl) (by kernel_rfl) (by kernel_rfl) ?_
              refine (NU.out (a - (k : Int)) _).mono ?_
              rintro en rw1 ⟨rfl, hb⟩
              refine ⟨_, rfl, heldC_call H.out hb, ?_⟩
              have H := Lib.hid (heldC_call H.out hb)
              have OR := Lib.hid (ownsRow_below OR.out hb)
              clear hb
              refine tail_item ⟨a - (k : Int), 1, ⟨#[]⟩⟩ (show opAt (opsOf Try.f29 9) 6 = some (some 51, .buildSlice 23 1 #[(0, (.tmp 50))], none) from by kernel_rfl) (by kernel_rfl) (by kernel_rfl) (show opAt (opsOf Try.f29 9) 7 = some (some 52, .call { callee := .builtin .append, args := [(.tmp 46), (.tmp 51)].toArray, argTypes := [23, 23].toArray }, none) from by kernel_rfl) (by kernel_rfl) (fun _ => by kernel_rfl) (show opAt (opsOf Try.f29 9) 8 = some (some 53, .fieldAddr 27 (.tmp 6) 1, none) from by kernel_rfl) (by kernel_rfl) (by kernel_rfl) (fun _ _ => by kernel_rfl) (show opAt (opsOf Try.f29 9) 9 = some (none, .store 23 (.tmp 53) (.tmp 52), none) from by kernel_rfl) (by kernel_rfl) (by kernel_rfl) H.out OR.out LN.out (Nat.succ_le_of_lt (Array.getElem?_eq_some_iff.1 (heldC_at H.out (List.Mem.tail _ (List.Mem.head _)))).1) (Nat.le_add_right _ 2) (List.Mem.tail _ (List.Mem.head _)) rfl (Nat.lt_succ_self _) (Nat.le_succ _) (fun q hq => FAR.out q hq) ?_
              rintro v' w2 ⟨sa, sn, sc, rfl⟩ hK hO hB hZ hR
              simp only [putAll, Act.put, List.setIfInBounds_toArray, List.set_cons_zero, List.set_cons_succ]
              have AN := Lib.hid (AppL.next (kind := 2) hK hO hB hR)
              clear hK hO hB hR H OR FAR HZ LN
              go_wp2
              go_roundw
              case rel => exact ⟨k + 1, sa, sn, sc, by omega, by go_num, NX.out ▸ AN.out⟩
              case measure => simp [intOf]; omega
          · obtain rfl : k = n + 1 := by omega
            have K1 := Lib.hid AP.out.vec
            have K0 := Lib.hid AP.out.res
            have FN := Lib.hid AP.out.fin
            obtain ⟨k0, k1, k2, k3, k4, k5, k6, k7⟩ := vec8 K1.out
            obtain ⟨z0, z1, z2, z3, z4, z5, z6, z7⟩ := vec8 K0.out
            obtain ⟨f0, f1, f2, f3, f4, f5, f6, f7⟩ := free8 K0.out
            go_wp2_with fail
            with_reducible refine (AB.out _).mono ?_
            rintro e w' ⟨rfl, rfl⟩
            go_wp2
            exact vec_endS rfl rfl rfl rfl K0.out FN.out.withS
      · have hno : ¬ SeqOk a b := fun h => h3 h.2.2
        rw [seqV_no hno, seqS_no hno]
        obtain ⟨n, hn⟩ : ∃ n, (b - a).natAbs = n := ⟨_, rfl⟩
        rw [hn] at h3 AB
        have hn0 : (n : Int) ≤ 1999999998 := by omega
        clear hn hno h1 h2 ha hb
        go_enter Try.func29, Try.ntmps29
        go_wp2_with fail
        with_reducible refine (I1.out _).mono ?_
        rintro e w' ⟨rfl, rfl⟩
        go_wp2_with fail
        with_reducible refine (I2.out _).mono ?_
        rintro e w' ⟨rfl, rfl⟩
        go_wp2_with fail
        with_reducible refine (AB.out _).mono ?_
        rintro e w' ⟨rfl, rfl⟩
        go_wp2
        exact vec_ret0S rfl rfl rfl rfl (blk_old (blk_new w _ rfl)) (ZS.out _ ((below1 w _).alloc (by simp) _))
    · have hno : ¬ SeqOk a b := fun h => h2 h.2.1
      rw [seqV_no hno, seqS_no hno]
      have I1 := Lib.hid (fun W => inYes a (-999999999) 999999999 W h1.1 h1.2)
      have I2 := Lib.hid (fun W => inNo b (-999999999) 999999999 W (by unfold InW at h2; omega))
      clear hno h1 h2 ha hb
      go_enter Try.func29, Try.ntmps29
      go_wp2_with fail
      with_reducible refine (I1.out _).mono ?_
      rintro e w' ⟨rfl, rfl⟩
      go_wp2_with fail
      with_reducible refine (I2.out _).mono ?_
      rintro e w' ⟨rfl, rfl⟩
      go_wp2
      exact vec_ret0S rfl rfl rfl rfl (blk_old (blk_new w _ rfl)) (ZS.out _ ((below1 w _).alloc (by simp) _))
  · have hno : ¬ SeqOk a b := fun h => h1 h.1
    rw [seqV_no hno, seqS_no hno]
    have I1 := Lib.hid (fun W => inNo a (-999999999) 999999999 W (by unfold InW at h1; omega))
    clear hno h1 ha hb
    go_enter Try.func29, Try.ntmps29
    go_wp2_with fail
    with_reducible refine (I1.out _).mono ?_
    rintro e w' ⟨rfl, rfl⟩
    go_wp2
    exact vec_ret0S rfl rfl rfl rfl (blk_old (blk_new w _ rfl)) (ZS.out _ ((below1 w _).alloc (by simp) _))
theorem wholeYes (x : Int) (w : World) (h : InW x) : Calls Try.prog 67 #[.int .i64 x] w fun e w' => e = .returned (.bool true) ∧ w = w' := by
  have h0 : -999999999 ≤ x := h.1
  have h1 : x ≤ 999999999 := h.2
  go_enter Try.func67, Try.ntmps67
  go_wp2
  go_ret
  exact ⟨rfl, rfl⟩
theorem wholeNo (x : Int) (w : World) (h : ¬ InW x) : Calls Try.prog 67 #[.int .i64 x] w fun e w' => e = .returned (.bool false) ∧ w = w' := by
  by_cases h0 : x < -999999999
  · have h2 : x ≤ 999999999 := by omega
    go_enter Try.func67, Try.ntmps67
    go_wp2
    go_ret
    exact ⟨rfl, rfl⟩
  · have h1 : 999999999 < x := by unfold InW at h; omega
    have h2 : -999999999 ≤ x := by omega
    clear h
    go_enter Try.func67, Try.ntmps67
    go_wp2
    go_ret
    exact ⟨by first | rfl | exact ret_bB (decide_eq_false (by omega)), rfl⟩
theorem implNaN (x : Int) (w : World) : Calls Try.prog 112 #[.int .i64 x] w fun e w' => e = .returned (.bool false) ∧ w = w' := by
  go_enter Try.func112, Try.ntmps112
  go_wp2
  go_ret
  exact ⟨rfl, rfl⟩
/-- -1, 0 or 1. -/
def cmpZ (x y : Int) : Int := if x < y then -1 else if y < x then 1 else 0
theorem implCmp (x y : Int) (w : World) : Calls Try.prog 68 #[.int .i64 x, .int .i64 y] w fun e w' => e = .returned (.int .i64 (cmpZ x y)) ∧ w = w' := by
  have N := Lib.hid (fun x W => implNaN x W)
  by_cases h1 : x < y
  · have X := Lib.hid (show cmpZ x y = -1 by unfold cmpZ; rw [if_pos h1])
    go_enter Try.func68, Try.ntmps68
    go_wp2_with fail
    with_reducible refine (N.out _ _).mono ?_
    rintro e w' ⟨rfl, rfl⟩
    go_wp2_with fail
    with_reducible refine (N.out _ _).mono ?_
    rintro e w' ⟨rfl, rfl⟩
    go_wp2
    go_ret
    exact ⟨ret_i64S X.out.symm, rfl⟩
  · by_cases h2 : y < x
    · have X := Lib.hid (show cmpZ x y = 1 by unfold cmpZ; rw [if_neg h1, if_pos h2])
      go_enter Try.func68, Try.ntmps68
      go_wp2_with (go_at_call 112; with_reducible refine (N.out _ _).mono ?_; rintro e w' ⟨rfl, rfl⟩)
      go_ret
      exact ⟨ret_i64S X.out.symm, rfl⟩
    · have X := Lib.hid (show cmpZ x y = 0 by unfold cmpZ; rw [if_neg h1, if_neg h2])
      obtain rfl : x = y := by omega
      clear h1 h2
      go_enter Try.func68, Try.ntmps68
      go_wp2_with (go_at_call 112; with_reducible refine (N.out _ _).mono ?_; rintro e w' ⟨rfl, rfl⟩)
      go_ret
      exact ⟨ret_i64S X.out.symm, rfl⟩
/-- What an element of the program's list is. -/
theorem seqI_step {a b : Int} (i : Nat) (h : a = b → i = 0) : a + (i : Int) * cmpZ b a = seqI a b i := by
  unfold cmpZ seqI
  by_cases h1 : b < a
  · rw [if_pos h1, if_neg (by omega)]; omega
  · by_cases h2 : a < b
    · rw [if_neg h1, if_pos h2, if_pos (by omega)]; omega
    · have e : a = b := by omega
      rw [if_neg h1, if_neg h2, if_pos (by omega), h e]; simp
def intsF (f : Nat → Int) (n : Nat) : List Value := (List.range n).map (fun i => .int .i64 (f i))
theorem intsF_succ (f : Nat → Int) (n : Nat) : intsF f n ++ [.int .i64 (f n)] = intsF f (n + 1) := by unfold intsF; rw [List.range_succ, List.map_append]; rfl
/-- A row of the call's own that holds ints. -/
theorem ints_of_row {w : World} {B m : Nat} {v : Value} {f : Nat → Int} (h : w.ownsRow B 3 1 v m (intsF f m)) : ∃ sa c, v = .slice sa m c ∧ IntsAt w.heap.size w sa m f := by
  obtain ⟨_, h⟩ := h
  rcases h with ⟨rfl, rfl⟩ | ⟨g, cap, cur, rfl, hB, hg, hc, _, hs, ht⟩
  · exact ⟨none, 0, rfl, fun i hi => absurd hi (Nat.not_lt_zero _)⟩
  · refine ⟨some ⟨g, 0, none⟩, cap, rfl, fun i hi => ⟨g, 0, rfl, (Array.getElem?_eq_some_iff.1 hg).1, ?_⟩⟩
    rw [Nat.zero_add]
    refine cellOf hg ?_
    have h1 : (cur.toList.take (m * 1))[i]? = (intsF f m)[i]? := by rw [ht]
    rw [List.getElem?_take_of_lt (by omega), Array.getElem?_toList] at h1
    rw [h1]; unfold intsF; simp [hi]
/-- What the program's loop keeps: the result's block, the ints so far. -/
structure IntL (w wr : World) (f : Nat → Int) (k : Nat) (v : Value) : Prop where
  res : wr.heap[w.heap.size]? = some (.cells #[.int .i64 0, .slice none 0 0, .slice none 0 0, .slice none 0 0, .slice none 0 0, .slice none 0 0, .int .i64 0, .int .i64 0] 27 (0, 0))
  row : wr.ownsRow (w.heap.size + 1) 3 1 v k (intsF f k)
  below : Below w.heap.size w wr
theorem IntL.next {w wr w1 : World} {f : Nat → Int} {k : Nat} {z : Int} {v v' : Value} {o : Obj} (h : IntL w wr f k v) (hg : (wr.alloc o).grownBy w1 v.ownBlock) (hr : w1.ownsRow (w.heap.size + 1) 3 1 v' (k + 1) (intsF f k ++ [.int .i64 z])) (hz : z = f k) : IntL w w1 f (k + 1) v' := by
  subst hz
  have hlt := (Array.getElem?_eq_some_iff.1 h.res).1
  refine ⟨?_, intsF_succ f k ▸ hr, ?_⟩
  · refine (hg.block _ (by simp; omega) (fun e => ?_)).trans (blk_old h.res)
    have := (h.row.lt _ e.symm).1
    omega
  · exact (h.below.alloc h.below.size o).grown hg (by have := h.below.size; simp; omega) (fun r hr' => by have := (h.row.lt r hr').1; omega)
theorem IntL.start (w : World) (f : Nat → Int) : IntL w (w.alloc (.cells #[.int .i64 0, .slice none 0 0, .slice none 0 0, .slice none 0 0, .slice none 0 0, .slice none 0 0, .int .i64 0, .int .i64 0] 27)) f 0 (.slice none 0 0) := ⟨blk_new w _ rfl, ⟨rfl, .inl ⟨rfl, rfl⟩⟩, below1 w _⟩
set_option maxHeartbeats 4000000 in
theorem implSeq (a b : Int) (w : World) (ha : -9223372036854775808 ≤ a ∧ a ≤ 9223372036854775807) (hb : -9223372036854775808 ≤ b ∧ b ≤ 9223372036854775807) :
    Calls Try.prog 30 #[.int .i64 a, .int .i64 b] w (ResVS 1 (seqV a b) (seqS a b) w) := by
  have ZS := Lib.hid (fun W (hB : Below w.heap.size w W) => zeroS bigB w W hB)
  by_cases h1 : InW a
  · have I1 := Lib.hid (fun W => wholeYes a W h1)
    by_cases h2 : InW b
    · have I2 := Lib.hid (fun W => wholeYes b W h2)
      have a0 : -999999999 ≤ a := h1.1
      have a1 : a ≤ 999999999 := h1.2
      have b0 : -999999999 ≤ b := h2.1
      have b1 : b ≤ 999999999 := h2.2
      by_cases h3 : (b - a).natAbs < 40
      · have hok : SeqOk a b := ⟨h1, h2, h3⟩
        have ST0 := Lib.hid (fun i (hi : i < (b - a).natAbs + 1) => seqI_step (a := a) (b := b) i (fun e => by omega))
        have SI := Lib.hid (fun i (hi : i < (b - a).natAbs + 1) => seqI_in hok hi)
        have IT := Lib.hid (seq_items hok)
        rw [seqV_yes hok, seqS_yes hok]
        obtain ⟨n, hn⟩ : ∃ n, (b - a).natAbs = n := ⟨_, rfl⟩
        rw [hn] at h3 ST0 SI IT ⊢
        obtain ⟨s, hs⟩ : ∃ s, cmpZ b a = s := ⟨_, rfl⟩
        have CM := Lib.hid (fun W => implCmp b a W)
        rw [hs] at CM ST0
        have HS := Lib.hid hs
        have HN := Lib.hid hn
        clear hn hok h1 h2 ha hb hs
        have NV := Lib.hid (fun (W : World) (sa : Option Addr) (c : Nat) (h : IntsAt W.heap.size W sa (n + 1) (seqI a b)) => (by
          have h' := implNumVec sa (n + 1) c (seqI a b) W.heap.size W h (Nat.le_refl _) (by omega) (fun i hi => by have := SI.out i hi; unfold InW at this; omega)
          rw [if_pos (by omega), IT.out] at h'
          exact h' : Calls Try.prog 22 #[.slice sa (n + 1) c] W (ResV 1 (vecOf 2 (itF (seqG a b) (n + 1))) W)))
        obtain ⟨i0, hi0, hz0, hz1, hz2⟩ := info_parts infoInt
        rcases (show a < b ∨ a = b ∨ b < a by omega) with hab | hab | hab
        · have hd0 : b - a ≤ (n : Int) := by have := HN.out; omega
          have hd1 : (n : Int) ≤ b - a := by have := HN.out; omega
          have hd2 : a - b ≤ 0 := by omega
          have hd3 : a < b := hab
          have hs1 : s = 1 := by rw [← HS.out]; unfold cmpZ; rw [if_neg (by omega), if_pos (by omega)]
          subst hs1
          have IL0 := Lib.hid (IntL.start w (seqI a b))
          clear hab
          go_enter Try.func30, Try.ntmps30
          go_wp2_with fail
          with_reducible refine (I1.out _).mono ?_
          rintro e w' ⟨rfl, rfl⟩
          go_wp2_with fail
          with_reducible refine (I2.out _).mono ?_
          rintro e w' ⟨rfl, rfl⟩
          go_wp2_with fail
          with_reducible refine (CM.out _).mono ?_
          rintro e w' ⟨rfl, rfl⟩
          go_wp2
          go_loopw [7, 39] (fun v i wr => ∃ k : Nat, k ≤ n + 1 ∧ i = .int .i64 k ∧ IntL w wr (seqI a b) k v) (fun _ i _ => n + 1 - (intOf i).toNat)
          case atStart => exact ⟨0, Nat.zero_le _, rfl, IL0.out⟩
          case round =>
            obtain ⟨k, hk, rfl, hil⟩ := hrel
            have IL := Lib.hid hil
            clear hil
            by_cases hlt : k < n + 1
            · have OR := Lib.hid (IL.out.row.alloc (.cells #[.int .i64 (a + (k : Int))] 3))
              have EQK := Lib.hid (show a + (k : Int) = seqI a b k by have h := ST0.out k hlt; omega)
              have hkn : (k : Int) ≤ (n : Int) := by omega
              go_wp2_with (at_builtin; refine wpList_append_own _ rfl _ _ 22 rfl (w.heap.size + 1) 3 i0 (.int .i64 0) 1 8 Try.underlying22 hi0 hz0 hz1 hz2 rfl (by decide) _ k (intsF (seqI a b) k) rfl OR.out ⟨wr.heap.size, 0, none⟩ 1 1 [.int .i64 (a + (k : Int))] rfl rfl ?c1 ?c2 ?c3 ?c4 ?c5 ?_)
              case c1 =>
                intro j u hj
                obtain rfl : j = 0 := by have := (List.getElem?_eq_some_iff.1 hj).1; simpa using this
                obtain rfl : Value.int .i64 (a + (k : Int)) = u := by simpa using hj
                rw [addr_add]
                exact cellOf (blk_new wr _ rfl) rfl
              case c2 => intro u hu; obtain rfl := List.mem_singleton.1 hu; rfl
              case c3 => unfold maxLen; omega
              case c4 => omega
              case c5 => have := (Array.getElem?_eq_some_iff.1 IL.out.res).1; simp; omega
              intro v' w1 hown' hgrow _
              have NX := Lib.hid (IL.out.next hgrow hown' EQK.out)
              clear hown' hgrow
              go_wp2
              go_roundw
              case rel => exact ⟨k + 1, by omega, by go_num, NX.out⟩
              case measure => simp [intOf]; omega
            · obtain rfl : k = n + 1 := by omega
              obtain ⟨sa, c, rfl, hints⟩ := ints_of_row IL.out.row
              have HI := Lib.hid hints
              clear hints
              go_wp2_with fail
              with_reducible refine (NV.out _ _ _ HI.out).mono ?_
              rintro e w2 ⟨y, rfl, ho, hb⟩
              obtain ⟨yk, ya1, yn1, ym1, ya2, yn2, ym2, ya3, yn3, ym3, ya4, yn4, ym4, ya5, yn5, ym5, yc, ye, rfl⟩ := ho.agg
              have K0 := Lib.hid (blk_below hb IL.out.res)
              have BB := Lib.hid (below_then IL.out.below hb)
              have HO := Lib.hid ho
              have hlt0 := (Array.getElem?_eq_some_iff.1 IL.out.res).1
              clear ho hb
              obtain ⟨z0, z1, z2, z3, z4, z5, z6, z7⟩ := vec8 K0.out
              obtain ⟨f0, f1, f2, f3, f4, f5, f6, f7⟩ := free8 K0.out
              go_wp2
              exact vec_endS rfl rfl rfl rfl K0.out ⟨_, rfl, (HO.out.put8 hlt0 _ _ _ _ _ _ _ _).wide (Nat.le_of_lt hlt0) (by rw [put8_size]; exact Nat.le_refl _), put8_below BB.out (Nat.le_refl _)⟩
        · have hd0 : (n : Int) ≤ 0 := by have := HN.out; omega
          have hd1 : a ≤ b := by omega
          have hd2 : b ≤ a := by omega
          have hs1 : s = 0 := by rw [← HS.out]; unfold cmpZ; rw [if_neg (by omega), if_neg (by omega)]
          subst hs1
          have IL0 := Lib.hid (IntL.start w (seqI a b))
          clear hab
          go_enter Try.func30, Try.ntmps30
          go_wp2_with fail
          with_reducible refine (I1.out _).mono ?_
          rintro e w' ⟨rfl, rfl⟩
          go_wp2_with fail
          with_reducible refine (I2.out _).mono ?_
          rintro e w' ⟨rfl, rfl⟩
          go_wp2_with fail
          with_reducible refine (CM.out _).mono ?_
          rintro e w' ⟨rfl, rfl⟩
          go_wp2
          go_loopw [7, 39] (fun v i wr => ∃ k : Nat, k ≤ n + 1 ∧ i = .int .i64 k ∧ IntL w wr (seqI a b) k v) (fun _ i _ => n + 1 - (intOf i).toNat)
          case atStart => exact ⟨0, Nat.zero_le _, rfl, IL0.out⟩
          case round =>
            obtain ⟨k, hk, rfl, hil⟩ := hrel
            have IL := Lib.hid hil
            clear hil
            by_cases hlt : k < n + 1
            · have OR := Lib.hid (IL.out.row.alloc (.cells #[.int .i64 (a)] 3))
              have EQK := Lib.hid (show a = seqI a b k by have h := ST0.out k hlt; omega)
              have hkn : (k : Int) ≤ (n : Int) := by omega
              go_wp2_with (at_builtin; refine wpList_append_own _ rfl _ _ 22 rfl (w.heap.size + 1) 3 i0 (.int .i64 0) 1 8 Try.underlying22 hi0 hz0 hz1 hz2 rfl (by decide) _ k (intsF (seqI a b) k) rfl OR.out ⟨wr.heap.size, 0, none⟩ 1 1 [.int .i64 (a)] rfl rfl ?c1 ?c2 ?c3 ?c4 ?c5 ?_)
              case c1 =>
                intro j u hj
                obtain rfl : j = 0 := by have := (List.getElem?_eq_some_iff.1 hj).1; simpa using this
                obtain rfl : Value.int .i64 (a) = u := by simpa using hj
                rw [addr_add]
                exact cellOf (blk_new wr _ rfl) rfl
              case c2 => intro u hu; obtain rfl := List.mem_singleton.1 hu; rfl
              case c3 => unfold maxLen; omega
              case c4 => omega
              case c5 => have := (Array.getElem?_eq_some_iff.1 IL.out.res).1; simp; omega
              intro v' w1 hown' hgrow _
              have NX := Lib.hid (IL.out.next hgrow hown' EQK.out)
              clear hown' hgrow
              go_wp2
              go_roundw
              case rel => exact ⟨k + 1, by omega, by go_num, NX.out⟩
              case measure => simp [intOf]; omega
            · obtain rfl : k = n + 1 := by omega
              obtain ⟨sa, c, rfl, hints⟩ := ints_of_row IL.out.row
              have HI := Lib.hid hints
              clear hints
              go_wp2_with fail
              with_reducible refine (NV.out _ _ _ HI.out).mono ?_
              rintro e w2 ⟨y, rfl, ho, hb⟩
              obtain ⟨yk, ya1, yn1, ym1, ya2, yn2, ym2, ya3, yn3, ym3, ya4, yn4, ym4, ya5, yn5, ym5, yc, ye, rfl⟩ := ho.agg
              have K0 := Lib.hid (blk_below hb IL.out.res)
              have BB := Lib.hid (below_then IL.out.below hb)
              have HO := Lib.hid ho
              have hlt0 := (Array.getElem?_eq_some_iff.1 IL.out.res).1
              clear ho hb
              obtain ⟨z0, z1, z2, z3, z4, z5, z6, z7⟩ := vec8 K0.out
              obtain ⟨f0, f1, f2, f3, f4, f5, f6, f7⟩ := free8 K0.out
              go_wp2
              exact vec_endS rfl rfl rfl rfl K0.out ⟨_, rfl, (HO.out.put8 hlt0 _ _ _ _ _ _ _ _).wide (Nat.le_of_lt hlt0) (by rw [put8_size]; exact Nat.le_refl _), put8_below BB.out (Nat.le_refl _)⟩
        · have hd0 : a - b ≤ (n : Int) := by have := HN.out; omega
          have hd1 : (n : Int) ≤ a - b := by have := HN.out; omega
          have hd2 : b - a ≤ 0 := by omega
          have hd3 : b < a := hab
          have hs1 : s = -1 := by rw [← HS.out]; unfold cmpZ; rw [if_pos (by omega)]
          subst hs1
          have IL0 := Lib.hid (IntL.start w (seqI a b))
          clear hab
          go_enter Try.func30, Try.ntmps30
          go_wp2_with fail
          with_reducible refine (I1.out _).mono ?_
          rintro e w' ⟨rfl, rfl⟩
          go_wp2_with fail
          with_reducible refine (I2.out _).mono ?_
          rintro e w' ⟨rfl, rfl⟩
          go_wp2_with fail
          with_reducible refine (CM.out _).mono ?_
          rintro e w' ⟨rfl, rfl⟩
          go_wp2
          go_loopw [7, 39] (fun v i wr => ∃ k : Nat, k ≤ n + 1 ∧ i = .int .i64 k ∧ IntL w wr (seqI a b) k v) (fun _ i _ => n + 1 - (intOf i).toNat)
          case atStart => exact ⟨0, Nat.zero_le _, rfl, IL0.out⟩
          case round =>
            obtain ⟨k, hk, rfl, hil⟩ := hrel
            have IL := Lib.hid hil
            clear hil
            by_cases hlt : k < n + 1
            · have OR := Lib.hid (IL.out.row.alloc (.cells #[.int .i64 (a + -(k : Int))] 3))
              have EQK := Lib.hid (show a + -(k : Int) = seqI a b k by have h := ST0.out k hlt; omega)
              have hkn : (k : Int) ≤ (n : Int) := by omega
              go_wp2_with (at_builtin; refine wpList_append_own _ rfl _ _ 22 rfl (w.heap.size + 1) 3 i0 (.int .i64 0) 1 8 Try.underlying22 hi0 hz0 hz1 hz2 rfl (by decide) _ k (intsF (seqI a b) k) rfl OR.out ⟨wr.heap.size, 0, none⟩ 1 1 [.int .i64 (a + -(k : Int))] rfl rfl ?c1 ?c2 ?c3 ?c4 ?c5 ?_)
              case c1 =>
                intro j u hj
                obtain rfl : j = 0 := by have := (List.getElem?_eq_some_iff.1 hj).1; simpa using this
                obtain rfl : Value.int .i64 (a + -(k : Int)) = u := by simpa using hj
                rw [addr_add]
                exact cellOf (blk_new wr _ rfl) rfl
              case c2 => intro u hu; obtain rfl := List.mem_singleton.1 hu; rfl
              case c3 => unfold maxLen; omega
              case c4 => omega
              case c5 => have := (Array.getElem?_eq_some_iff.1 IL.out.res).1; simp; omega
              intro v' w1 hown' hgrow _
              have NX := Lib.hid (IL.out.next hgrow hown' EQK.out)
              clear hown' hgrow
              go_wp2
              go_roundw
              case rel => exact ⟨k + 1, by omega, by go_num, NX.out⟩
              case measure => simp [intOf]; omega
            · obtain rfl : k = n + 1 := by omega
              obtain ⟨sa, c, rfl, hints⟩ := ints_of_row IL.out.row
              have HI := Lib.hid hints
              clear hints
              go_wp2_with fail
              with_reducible refine (NV.out _ _ _ HI.out).mono ?_
              rintro e w2 ⟨y, rfl, ho, hb⟩
              obtain ⟨yk, ya1, yn1, ym1, ya2, yn2, ym2, ya3, yn3, ym3, ya4, yn4, ym4, ya5, yn5, ym5, yc, ye, rfl⟩ := ho.agg
              have K0 := Lib.hid (blk_below hb IL.out.res)
              have BB := Lib.hid (below_then IL.out.below hb)
              have HO := Lib.hid ho
              have hlt0 := (Array.getElem?_eq_some_iff.1 IL.out.res).1
              clear ho hb
              obtain ⟨z0, z1, z2, z3, z4, z5, z6, z7⟩ := vec8 K0.out
              obtain ⟨f0, f1, f2, f3, f4, f5, f6, f7⟩ := free8 K0.out
              go_wp2
              exact vec_endS rfl rfl rfl rfl K0.out ⟨_, rfl, (HO.out.put8 hlt0 _ _ _ _ _ _ _ _).wide (Nat.le_of_lt hlt0) (by rw [put8_size]; exact Nat.le_refl _), put8_below BB.out (Nat.le_refl _)⟩
      · have hno : ¬ SeqOk a b := fun h => h3 h.2.2
        rw [seqV_no hno, seqS_no hno]
        rcases (show a < b ∨ b < a by omega) with hab | hab
        · have hd0 : 40 ≤ b - a := by omega
          have hd2 : a - b ≤ 0 := by omega
          have hd3 : a < b := hab
          clear hab hno h1 h2 h3 ha hb
          go_enter Try.func30, Try.ntmps30
          go_wp2_with fail
          with_reducible refine (I1.out _).mono ?_
          rintro e w' ⟨rfl, rfl⟩
          go_wp2_with fail
          with_reducible refine (I2.out _).mono ?_
          rintro e w' ⟨rfl, rfl⟩
          go_wp2
          exact vec_ret0S rfl rfl rfl rfl (blk_new w _ rfl) (ZS.out _ (below1 w _))
        · have hd0 : 40 ≤ a - b := by omega
          have hd2 : b - a ≤ 0 := by omega
          have hd3 : b < a := hab
          clear hab hno h1 h2 h3 ha hb
          go_enter Try.func30, Try.ntmps30
          go_wp2_with fail
          with_reducible refine (I1.out _).mono ?_
          rintro e w' ⟨rfl, rfl⟩
          go_wp2_with fail
          with_reducible refine (I2.out _).mono ?_
          rintro e w' ⟨rfl, rfl⟩
          go_wp2
          exact vec_ret0S rfl rfl rfl rfl (blk_new w _ rfl) (ZS.out _ (below1 w _))
    · have hno : ¬ SeqOk a b := fun h => h2 h.2.1
      rw [seqV_no hno, seqS_no hno]
      have I2 := Lib.hid (fun W => wholeNo b W h2)
      clear hno h1 h2 ha hb
      go_enter Try.func30, Try.ntmps30
      go_wp2_with fail
      with_reducible refine (I1.out _).mono ?_
      rintro e w' ⟨rfl, rfl⟩
      go_wp2_with fail
      with_reducible refine (I2.out _).mono ?_
      rintro e w' ⟨rfl, rfl⟩
      go_wp2
      exact vec_ret0S rfl rfl rfl rfl (blk_new w _ rfl) (ZS.out _ (below1 w _))
  · have hno : ¬ SeqOk a b := fun h => h1 h.1
    rw [seqV_no hno, seqS_no hno]
    have I1 := Lib.hid (fun W => wholeNo a W h1)
    clear hno h1 ha hb
    go_enter Try.func30, Try.ntmps30
    go_wp2_with fail
    with_reducible refine (I1.out _).mono ?_
    rintro e w' ⟨rfl, rfl⟩
    go_wp2
    exact vec_ret0S rfl rfl rfl rfl (blk_new w _ rfl) (ZS.out _ (below1 w _))
end Go.Proofs.Yteigfhenbmhepaa

/- What a law needs of a result that is a vector of items alone, or the zero value. -/
namespace Go.Proofs.Yteigfhenbmhepaa
open Go.RowKit
set_option maxRecDepth 100000
set_option linter.unusedVariables false

/-- The zero value, or a vector of items alone that fit. -/
def PlainV (V : Vec) : Prop := V = noV ∨ ∃ k l, V = vecOf k l ∧ (-9223372036854775808 ≤ k ∧ k ≤ 9223372036854775807) ∧ l.length ≤ 40 ∧ ∀ x ∈ l, InB x ∧ x.t.size ≤ 1048576
theorem PlainV.small {V : Vec} (h : PlainV V) : Small 1 V := by
  rcases h with rfl | ⟨k, l, rfl, hk, hl, hx⟩
  · exact small_noV
  · exact small_vecOf (by omega) (fun x h => (hx x h).2)
theorem PlainV.fits {V : Vec} (h : PlainV V) : Fits 1 V := by
  rcases h with rfl | ⟨k, l, rfl, hk, hl, hx⟩
  · exact fits_noV
  · exact fits_vecOf hk (by omega) (fun x h => (hx x h).1)
theorem PlainV.cnt {V : Vec} (h : PlainV V) : 1 + cntM 1 V ≤ 8000000 := by
  rcases h with rfl | ⟨k, l, rfl, hk, hl, hx⟩
  · rw [cnt_noV]; omega
  · rw [cnt_vecOf]; omega
theorem plain_itF {k : Int} {g : Nat → It} {n : Nat} (hk : -9223372036854775808 ≤ k ∧ k ≤ 9223372036854775807) (hn : n ≤ 40) (h : ∀ i, i < n → InB (g i) ∧ (g i).t.size ≤ 1048576) : PlainV (vecOf k (itF g n)) :=
  .inr ⟨k, _, rfl, hk, by rw [itF_len]; exact hn, fun x hx => by obtain ⟨i, hi, rfl⟩ := mem_itF hx; exact h i hi⟩
end Go.Proofs.Yteigfhenbmhepaa

/- Vectors with names that a call builds; texts copied by append, whatever their number. -/
namespace Go.Proofs.Yteigfhenbmhepaa
open Go.RowKit
set_option maxRecDepth 100000
set_option linter.unusedVariables false

/-- A vector of items and names. -/
def mkN (k : Int) (l : List It) (names : List ByteArray) : Vec := .mk k l [] names [] [] 0 0
/-- An append of nothing onto nothing. -/
theorem run_app0 {w : World} {dst : Value} {ty : TypeId} (hd : dst = .slice none 0 0 ∨ ∃ g, dst = .slice (some ⟨g, 0, none⟩) 0 0) (ad : Option Addr) (c : Nat) :
    (Builtin.append_ #[25, 25] ty #[dst, .slice ad 0 c]).run Try.prog w = .ok dst w := by
  obtain ⟨i0, hi0, hz0, hz1, hz2⟩ := info_parts infoStr
  rcases ad with _ | ad <;> rcases hd with rfl | ⟨g, rfl⟩ <;> simp [Builtin.append_, run_underlying Try.underlying25, sizeOf, typeInfo, hi0, Builtin.lenOf, Builtin.firstCells, loadCells, loadCellsFrom, storeCells]
theorem wpList_app0 {w : World} {ops : Array Oper} {rest : List Oper} {o : Oper} {a : Act} {Q : Exit → Act → World → Prop} (hgd : o.guard = none) (s x : Operand)
    (ho : o.op = .call { callee := .builtin .append, args := #[s, x], argTypes := #[25, 25] }) (dst : Value) (hs : a.eval s = dst) (hd : dst = .slice none 0 0 ∨ ∃ g, dst = .slice (some ⟨g, 0, none⟩) 0 0) (ad : Option Addr) (c : Nat) (hx : a.eval x = .slice ad 0 c)
    (h : wpList Try.prog ops Q rest (a.put o.dst dst) w) : wpList Try.prog ops Q (o :: rest) a w := by
  refine wpList_plain hgd fun K hK => ?_
  unfold Oper.wp
  simp [execOp, ho, resolve, invoke, builtin, hs, hx, run_app0 hd ad c, Result.andThen]
  exact hK _ _ h
/-- What a copy of texts is. -/
def CopyTx (base : Nat) (l : List ByteArray) (v : Value) (w : World) : Prop := ∃ sa sc F, v = .slice sa l.length sc ∧ OwnTxs w sa l F ∧ F.Nodup ∧ (∀ b ∈ F, base ≤ b ∧ b < w.heap.size) ∧ l.length ≤ sc
theorem wpList_copyTexts {w : World} {ops : Array Oper} {rest : List Oper} {o : Oper} {a : Act} {Q : Exit → Act → World → Prop} (hgd : o.guard = none) (s x : Operand)
    (ho : o.op = .call { callee := .builtin .append, args := #[s, x], argTypes := #[25, 25] }) (base : Nat) (v0 : Value) (hs : a.eval s = v0)
    (hv0 : v0 = .slice none 0 0 ∨ ∃ g, base ≤ g ∧ v0 = .slice (some ⟨g, 0, none⟩) 0 0 ∧ w.heap[g]? = some (.cells #[] 9 (0, 0)))
    (ad : Option Addr) (c : Nat) (l : List ByteArray) (lo hi : Nat) (hx : a.eval x = .slice ad l.length c) (hT : TextsAt lo hi w ad l) (hn : l.length ≤ 1048576) (hbase : base ≤ w.heap.size)
    (h : ∀ v' w', CopyTx base l v' w' → Below base w w' → wpList Try.prog ops Q rest (a.put o.dst v') w') : wpList Try.prog ops Q (o :: rest) a w := by
  by_cases hpos : 0 < l.length
  · obtain ⟨b, off, rfl⟩ := texts_some hT hpos
    obtain ⟨i0, hi0, hz0, hz1, hz2⟩ := info_parts infoStr
    have hown : w.ownsRow base 9 1 v0 0 [] := by
      rcases hv0 with rfl | ⟨g, hg, rfl, hb⟩
      · exact ⟨rfl, .inl ⟨rfl, rfl⟩⟩
      · exact ⟨rfl, .inr ⟨g, 0, #[], rfl, hg, hb, Nat.le_refl _, Nat.zero_le _, rfl, rfl⟩⟩
    refine wpList_append_own w hgd s x 25 ho base 9 i0 (.string ⟨#[]⟩) 1 16 Try.underlying25 hi0 hz0 hz1 hz2 rfl (by decide) v0 0 [] hs hown ⟨b, off, none⟩ l.length c (l.map Value.string) hx (by simp) (news_cells hT) (fun u hu => by obtain ⟨s, _, rfl⟩ := List.mem_map.1 hu; rfl) (by unfold maxLen; omega) (by omega) hbase (fun v' w' h1 h2 _ => ?_)
    have h1' : w'.ownsRow base 9 1 v' l.length (l.map Value.string) := by simpa using h1
    obtain ⟨g, c', rfl, ho, hB, hlt, hc⟩ := own_of_row hpos h1'
    refine h _ _ ⟨_, _, [g], rfl, ho, by simp, fun b hb => by obtain rfl := List.mem_singleton.1 hb; exact ⟨hB, hlt⟩, hc⟩ ((Below.refl base w).grown h2 hbase (fun r hr => ?_))
    exact (hown.lt r hr).1
  · obtain rfl : l = [] := List.eq_nil_of_length_eq_zero (by omega)
    refine wpList_app0 hgd s x ho v0 hs (hv0.imp id (fun ⟨g, _, e, _⟩ => ⟨g, e⟩)) ad c hx (h _ _ ?_ (Below.refl _ _))
    rcases hv0 with rfl | ⟨g, _, rfl, _⟩
    · exact ⟨none, 0, [], rfl, .inl ⟨rfl, rfl⟩, List.nodup_nil, (fun _ h => by cases h), Nat.le_refl _⟩
    · exact ⟨some ⟨g, 0, none⟩, 0, [], rfl, .inl ⟨rfl, rfl⟩, List.nodup_nil, (fun _ h => by cases h), Nat.le_refl _⟩
set_option maxHeartbeats 1000000 in
theorem implCopyAny (l : List ByteArray) (a : Option Addr) (c lo hi : Nat) (w : World) (h : TextsAt lo hi w a l) (hn : l.length ≤ 1048576) :
    Calls Try.prog 81 #[.slice a l.length c] w fun e w' => ∃ v, e = .returned v ∧ CopyTx w.heap.size l v w' ∧ Below w.heap.size w w' := by
  have HT := Lib.hid h
  clear h
  go_enter Try.func81, Try.ntmps81
  go_wp2_with (at_builtin; refine wpList_copyTexts rfl _ _ rfl w.heap.size _ rfl (.inl rfl) a c l lo hi rfl HT.out hn (Nat.le_refl _) ?_)
  intro v' w' hc hb
  have HC := Lib.hid hc
  have HB := Lib.hid hb
  obtain ⟨sa, sc, F, rfl, _⟩ := hc
  clear hb
  go_wp2
  go_ret
  exact ⟨_, rfl, HC.out, HB.out⟩
/-- What a loop that appends items to a vector with names keeps. -/
structure AppN (w wr : World) (r b : Nat) (kind : Int) (l : List It) (sa : Option Addr) (sn sc : Nat) (names : List ByteArray) (na : Option Addr) (nc : Nat) (F : List Nat) : Prop where
  res : wr.heap[r]? = some (.cells #[.int .i64 0, .slice none 0 0, .slice none 0 0, .slice none 0 0, .slice none 0 0, .slice none 0 0, .int .i64 0, .int .i64 0] 27 (0, 0))
  vec : wr.heap[b]? = some (.cells #[.int .i64 kind, .slice sa sn sc, .slice none 0 0, .slice na names.length nc, .slice none 0 0, .slice none 0 0, .int .i64 0, .int .i64 0] 27 (0, 0))
  row : wr.ownsRow (b + 1) 62 3 (.slice sa sn sc) l.length (itCells l)
  nms : OwnTxs wr na names F
  cap : names.length ≤ nc
  nd : F.Nodup
  rng : ∀ g ∈ F, w.heap.size ≤ g ∧ g < b ∧ g ≠ r
  below : Below w.heap.size w wr
  o1 : w.heap.size ≤ r
  o2 : r < b
theorem AppN.big {w wr : World} {r b : Nat} {kind : Int} {l : List It} {sa : Option Addr} {sn sc : Nat} {names : List ByteArray} {na : Option Addr} {nc : Nat} {F : List Nat} (h : AppN w wr r b kind l sa sn sc names na nc F) : b < wr.heap.size := (Array.getElem?_eq_some_iff.1 h.vec).1
theorem AppN.keep {w wr w1 : World} {r b : Nat} {kind : Int} {l : List It} {sa : Option Addr} {sn sc : Nat} {names : List ByteArray} {na : Option Addr} {nc : Nat} {F : List Nat} (h : AppN w wr r b kind l sa sn sc names na nc F) (hb : Below wr.heap.size wr w1) : AppN w w1 r b kind l sa sn sc names na nc F :=
  ⟨blk_below hb h.res, blk_below hb h.vec, ownsRow_below h.row hb, h.nms.kept (fun g hg => hb.block g (by have := h.rng g hg; have := h.big; omega)), h.cap, h.nd, h.rng, below_then h.below hb, h.o1, h.o2⟩
theorem AppN.heldC {w wr : World} {r b : Nat} {kind : Int} {l : List It} {sa : Option Addr} {sn sc : Nat} {names : List ByteArray} {na : Option Addr} {nc : Nat} {F : List Nat} (h : AppN w wr r b kind l sa sn sc names na nc F) : HeldC w wr [(r, 27, #[.int .i64 0, .slice none 0 0, .slice none 0 0, .slice none 0 0, .slice none 0 0, .slice none 0 0, .int .i64 0, .int .i64 0]), (b, 27, #[.int .i64 kind, .slice sa sn sc, .slice none 0 0, .slice na names.length nc, .slice none 0 0, .slice none 0 0, .int .i64 0, .int .i64 0])] := heldC_two h.below h.res h.vec
theorem AppN.far {w wr : World} {r b : Nat} {kind : Int} {l : List It} {sa : Option Addr} {sn sc : Nat} {names : List ByteArray} {na : Option Addr} {nc : Nat} {F : List Nat} (h : AppN w wr r b kind l sa sn sc names na nc F) {C : Array Value} {q : Nat × TypeId × Array Value} (hq : q ∈ (wr.heap.size, 62, C) :: [(r, 27, #[.int .i64 0, .slice none 0 0, .slice none 0 0, .slice none 0 0, .slice none 0 0, .slice none 0 0, .int .i64 0, .int .i64 0]), (b, 27, #[.int .i64 kind, .slice sa sn sc, .slice none 0 0, .slice na names.length nc, .slice none 0 0, .slice none 0 0, .int .i64 0, .int .i64 0])]) : ∀ k, (Value.slice sa sn sc).ownBlock = some k → q.1 ≠ k := by
  intro k hk e
  have h1 := h.row.lt k hk
  have h2 := h.o2
  rcases List.mem_cons.1 hq with rfl | hq
  · simp only at e; omega
  rcases List.mem_cons.1 hq with rfl | hq
  · simp only at e; omega
  · obtain rfl := List.mem_singleton.1 hq
    simp only at e; omega
theorem AppN.next {w wr W : World} {r b : Nat} {kind : Int} {l : List It} {z : It} {sa sa' : Option Addr} {sn sc sn' sc' : Nat} {names : List ByteArray} {na : Option Addr} {nc : Nat} {F : List Nat} (h : AppN w wr r b kind l sa sn sc names na nc F)
    (hK : W.heap[b]? = some (.cells (#[.int .i64 kind, .slice sa sn sc, .slice none 0 0, .slice na names.length nc, .slice none 0 0, .slice none 0 0, .int .i64 0, .int .i64 0].setIfInBounds 1 (.slice sa' sn' sc')) 27 (0, 0)))
    (hO : W.ownsRow (b + 1) 62 3 (.slice sa' sn' sc') (l ++ [z]).length (itCells (l ++ [z]))) (hB : Below w.heap.size w W)
    (hR : W.heap[r]? = some (.cells #[.int .i64 0, .slice none 0 0, .slice none 0 0, .slice none 0 0, .slice none 0 0, .slice none 0 0, .int .i64 0, .int .i64 0] 27 (0, 0))) (hF : ∀ g ∈ F, W.heap[g]? = wr.heap[g]?) : AppN w W r b kind (l ++ [z]) sa' sn' sc' names na nc F :=
  ⟨hR, hK, hO, h.nms.kept hF, h.cap, h.nd, h.rng, hB, h.o1, h.o2⟩
/-- The vector itself, where the function ends. -/
theorem AppN.own {w wr : World} {r b : Nat} {kind : Int} {l : List It} {sa : Option Addr} {sn sc : Nat} {names : List ByteArray} {na : Option Addr} {nc : Nat} {F : List Nat} (h : AppN w wr r b kind l sa sn sc names na nc F) : ∃ G, OwnVec wr 1 (mkN kind l names) (.agg #[.int .i64 kind, .slice sa sn sc, .slice none 0 0, .slice na names.length nc, .slice none 0 0, .slice none 0 0, .int .i64 0, .int .i64 0]) G ∧ G.Nodup ∧ ∀ g ∈ G, w.heap.size ≤ g ∧ g < wr.heap.size ∧ g ≠ r := by
  obtain ⟨a, c, Fi, e, ho, hn, hr, hc⟩ := own_of_its h.row
  obtain ⟨rfl, rfl, rfl⟩ : sa = a ∧ sn = l.length ∧ sc = c := by simpa using e
  refine ⟨Fi ++ F, ?_, ?_, ?_⟩
  · show OwnVec wr 1 (.mk kind l [] names [] [] 0 0) _ _
    unfold OwnVec
    exact ⟨sa, sc, none, 0, na, nc, none, 0, none, 0, Fi, [], F, [], [], rfl, by simp, ⟨hc, Nat.le_refl _, h.cap, Nat.le_refl _, Nat.le_refl _⟩, ho, h.nms, .inl ⟨rfl, rfl⟩, .inl ⟨rfl, rfl⟩, .inl ⟨rfl, rfl⟩⟩
  · rw [List.nodup_append]
    exact ⟨hn, h.nd, fun x hx y hy e => by have := hr x hx; have := h.rng y hy; omega⟩
  · intro g hg
    have h1 := h.o1; have h2 := h.o2; have h3 := h.big
    rcases List.mem_append.1 hg with hg | hg
    · have := hr g hg; omega
    · have := h.rng g hg; omega
theorem AppN.fin {w wr : World} {r b : Nat} {kind : Int} {l : List It} {sa : Option Addr} {sn sc : Nat} {names : List ByteArray} {na : Option Addr} {nc : Nat} {F : List Nat} (h : AppN w wr r b kind l sa sn sc names na nc F) : ResV 1 (mkN kind l names) w (.returned (.agg #[.int .i64 kind, .slice sa sn sc, .slice none 0 0, .slice na names.length nc, .slice none 0 0, .slice none 0 0, .int .i64 0, .int .i64 0])) (put8 wr r 0 (.int .i64 kind) (.slice sa sn sc) (.slice none 0 0) (.slice na names.length nc) (.slice none 0 0) (.slice none 0 0) (.int .i64 0) (.int .i64 0)) := by
  obtain ⟨G, ho, hn, hr⟩ := h.own
  exact ⟨_, rfl, ⟨G, ho.kept _ _ _ _ (fun g hg => put8_other (hr g hg).2.2), hn, fun g hg => by rw [put8_size]; have := hr g hg; omega⟩, put8_below h.below h.o1⟩
theorem small_mkN {k : Int} {l : List It} {names : List ByteArray} (h : l.length ≤ 1048576) (ht : ∀ x ∈ l, x.t.size ≤ 1048576) (hn : names.length ≤ 1048576) (hs : ∀ s ∈ names, s.size ≤ 1048576) : Small 1 (mkN k l names) := by
  show Small 1 (.mk k l [] names [] [] 0 0)
  unfold Small
  exact ⟨h, Nat.zero_le _, hn, Nat.zero_le _, Nat.zero_le _, ht, hs, (fun _ h => by cases h), (fun _ h => by cases h), (fun _ h => by cases h)⟩
theorem fits_mkN {k : Int} {l : List It} {names : List ByteArray} (hk : -9223372036854775808 ≤ k ∧ k ≤ 9223372036854775807) (h : l.length ≤ 1048576) (ht : ∀ x ∈ l, InB x) (hn : names.length ≤ 1048576) (hs : ∀ s ∈ names, s.size ≤ 1048576) : Fits 1 (mkN k l names) := by
  show Fits 1 (.mk k l [] names [] [] 0 0)
  unfold Fits
  refine ⟨hk, ⟨by decide, by decide⟩, ⟨by decide, by decide⟩, by unfold maxLen; omega, Nat.zero_le _, by unfold maxLen; omega, Nat.zero_le _, Nat.zero_le _, fun x hx => ht x hx, fun s hx => by have := hs s hx; unfold maxLen; omega, (fun _ h => by cases h), (fun _ h => by cases h), (fun _ h => by cases h)⟩
theorem cnt_mkN (k : Int) (l : List It) (names : List ByteArray) : cntM 1 (mkN k l names) = 3 * l.length + names.length := by
  show cntM 1 (.mk k l [] names [] [] 0 0) = _
  rw [cntM_eq]
  show 3 * l.length + sumN _ 0 + names.length + 0 + 0 = _
  simp [sumN]
end Go.Proofs.Yteigfhenbmhepaa

/- The end of an appending region, with all that it leaves alone. -/
namespace Go.Proofs.Yteigfhenbmhepaa
open Go.RowKit
set_option maxRecDepth 100000
set_option linter.unusedVariables false

/-- The same, and every other block is as it was. -/
theorem tail_item2 {ops : Array Oper} {Q : Exit → Act → World → Prop} {a : Act} {e : List (Nat × Value)} {w0 w1 : World} {L : List (Nat × TypeId × Array Value)} {i1 i2 i3 i4 d1 d2 d4 b j base : Nat} {x s p : Operand} {v0 c : Value} {C : Array Value} {tt : TypeId} (z : It) {l : List It}
    (ho1 : opAt ops i1 = some (some d1, .buildSlice 23 1 #[(0, x)], none)) (hd1 : Nat.blt d1 a.tmps.size = true) (hx : lookO a e x = .agg #[.int .i64 z.n, .int .i64 z.d, .string z.t])
    (ho2 : opAt ops i2 = some (some d2, .call { callee := .builtin .append, args := [s, .tmp d1].toArray, argTypes := [23, 23].toArray }, none)) (hd2 : Nat.blt d2 a.tmps.size = true) (hs : ∀ u, lookO a ((d1, u) :: e) s = v0)
    (ho4 : opAt ops i4 = some (some d4, .fieldAddr 27 p j, none)) (hd4 : Nat.blt d4 a.tmps.size = true) (hf : Nat.blt j 8 = true) (hp : ∀ u u', lookO a ((d2, u') :: (d1, u) :: e) p = .pointer (some ⟨b, 0, none⟩))
    (ho3 : opAt ops i3 = some (none, .store 23 (.tmp d4) (.tmp d2), none)) (hl : lastK ops i3 = true) (hne : Nat.beq d4 d2 = false)
    (H : HeldC w0 w1 L) (hown : w1.ownsRow base 62 3 v0 l.length (itCells l)) (hn : l.length ≤ 1048576) (hbase : base ≤ w1.heap.size) (hw0 : w0.heap.size ≤ base) (m : (b, tt, C) ∈ L) (hj : C[j]? = some c) (hb : b < base) (hb0 : w0.heap.size ≤ b)
    (hL : ∀ q ∈ L, ∀ k, v0.ownBlock = some k → q.1 ≠ k)
    (h : ∀ v' W, (∃ sa n c, v' = .slice sa n c) → W.heap[b]? = some (.cells (C.setIfInBounds j v') tt (0, 0)) → W.ownsRow base 62 3 v' (l ++ [z]).length (itCells (l ++ [z])) → Below w0.heap.size w0 W → w1.heap.size ≤ W.heap.size →
      (∀ q ∈ L, q.1 ≠ b → W.heap[q.1]? = some (.cells q.2.2 q.2.1 (0, 0))) → (∀ g, g < w1.heap.size → g ≠ b → (∀ k, v0.ownBlock = some k → g ≠ k) → W.heap[g]? = w1.heap[g]?) → Q .normal (putAll a ((d4, .pointer (some ⟨b, j, none⟩)) :: (d2, v') :: (d1, .slice (some ⟨w1.heap.size, 0, none⟩) 1 1) :: e)) W) :
    RunE Try.prog ops Q (fun w' => HeldC w0 w' L) [(i1, false), (i2, false), (i4, true), (i3, false)] a e w1 := by
  refine run_build_item z ho1 hd1 rfl hx (fun W1 hW1 => ?_)
  have H1 : HeldC w0 W1 L := hW1 ▸ heldC_alloc H _
  have hK : W1.heap[w1.heap.size]? = some (.cells #[.int .i64 z.n, .int .i64 z.d, .string z.t] 62 (0, 0)) := hW1 ▸ blk_new w1 _ rfl
  have hO : W1.ownsRow base 62 3 v0 l.length (itCells l) := hW1 ▸ ownsRow_below hown (below1 w1 _)
  have hS1 : w1.heap.size ≤ W1.heap.size := hW1 ▸ (below1 w1 _).size
  refine ⟨H1, run_app_item (b := w1.heap.size) z ho2 hd2 rfl (hs _) (look_new _ _) hO hK hn (by omega) (fun v' W2 hO2 hg2 => ?_)⟩
  have H2 : HeldC w0 W2 L := heldC_grown H1 hg2 (fun k hk => ⟨by have := (hO.lt k hk).1; omega, fun q hq => hL q hq k hk⟩)
  have hv : ∃ sa n c, v' = .slice sa n c := by
    obtain ⟨_, h | ⟨g, cap, cur, e, _⟩⟩ := hO2
    · exact ⟨_, _, _, h.1⟩
    · exact ⟨_, _, _, e⟩
  obtain ⟨sa, n, c', rfl⟩ := hv
  refine ⟨H2, runC_partV hf ho4 hd4 rfl (hp _ _) (run_last_field hl ho3 rfl store_its (look_new _ _) (look_next hne) (heldC_at H2 m) hj (fun W3 hW3 => run_done (h _ W3 ⟨_, _, _, rfl⟩ ?_ ?_ ?_ ?_ ?_ ?_)))⟩
  · subst hW3; exact Joins.block_setCell (heldC_at H2 m) _
  · subst hW3; exact ownsRow_set hO2 hb
  · subst hW3; exact H2.1.setCell (p := ⟨b, j, none⟩) hb0 _
  · subst hW3; have := hg2.size; simp; omega
  · intro q hq hne; subst hW3; rw [Below.heap_setCell _ _ _ _ hne]; exact H2.2 q hq
  · intro g hg hne hk; subst hW3; rw [Below.heap_setCell _ _ _ _ hne, hg2.block g (by omega) (fun e => hk g e.symm rfl), hW1]; exact (below1 w1 _).block g hg
end Go.Proofs.Yteigfhenbmhepaa

/- Logical values of vectors. -/
namespace Go.Proofs.Yteigfhenbmhepaa
open Go.RowKit
set_option maxRecDepth 100000
set_option linter.unusedVariables false

/-- "invalid vector", "non-logical argument" -/
def badB : ByteArray := ⟨#[105, 110, 118, 97, 108, 105, 100, 32, 118, 101, 99, 116, 111, 114]⟩
def nonLogB : ByteArray := ⟨#[110, 111, 110, 45, 108, 111, 103, 105, 99, 97, 108, 32, 97, 114, 103, 117, 109, 101, 110, 116]⟩
/-- Does a vector count as numbers? -/
def Counts (v : Vec) : Prop := match v with | .mk k _ _ _ _ levels _ _ => k ≤ 2 ∧ levels.length = 0
def truthI (x : It) : Int := if x.d = 0 then 2 else if x.n = 0 then 0 else 1
theorem truth_three (x : It) : L3 (truthI x) := by unfold truthI L3; split <;> (try split) <;> omega
/-- An element of a vector that counts as numbers. -/
structure NumIt (x : It) : Prop where
  t : x.t = ⟨#[]⟩
  n0 : -999999999 ≤ x.n
  n1 : x.n ≤ 999999999
  d0 : 0 ≤ x.d
  d1 : x.d ≤ 999999999
  z : x.d = 0 → x = noI
theorem numIt_of {k : Int} {x : It} (h : ItOk k x) (hk : k ≤ 2) : NumIt x := by
  rcases h with rfl | ⟨_, h1, h2, h3, h4⟩ | ⟨_, h1⟩ | ⟨h1, _⟩
  · exact ⟨rfl, by decide, by decide, by decide, by decide, fun _ => rfl⟩
  · exact ⟨empty_of_size h4, by omega, by omega, by omega, by omega, fun h => by omega⟩
  · obtain ⟨g1, g2, g3, g4, g5, _⟩ := isN_iff.1 h1
    exact ⟨g1, g4, g5, by omega, g3, fun h => by omega⟩
  · omega
theorem num_at {k : Int} {items : List It} {parts : List Vec} {names cls levels : List ByteArray} {code env : Int} (h : ValidV (.mk k items parts names cls levels code env)) (hc : Counts (.mk k items parts names cls levels code env)) {i : Nat} (hi : i < items.length) : NumIt (items.getD i noI) := by
  have hf : FlatOk k items parts.length names cls levels code env := h.1.flat
  exact numIt_of (hf.h_items i hi).1 hc.1
theorem count_len {k : Int} {items : List It} {parts : List Vec} {names cls levels : List ByteArray} {code env : Int} (h : ValidV (.mk k items parts names cls levels code env)) (hc : Counts (.mk k items parts names cls levels code env)) : items.length ≤ 40 := by
  have hf : FlatOk k items parts.length names cls levels code env := h.1.flat
  have h1 := hf.h_len
  have h2 : k ≤ 2 := hc.1
  unfold lenV at h1
  rw [if_neg (by omega)] at h1
  omega
theorem implCountsY (k : Int) (ai ap an ac al : Option Addr) (ni ci np cp nn cn nc cc nl cl : Nat) (code env : Int) (w : World) (h : k ≤ 2) (hl : nl = 0) :
    Calls Try.prog 85 #[.agg #[.int .i64 k, .slice ai ni ci, .slice ap np cp, .slice an nn cn, .slice ac nc cc, .slice al nl cl, .int .i64 code, .int .i64 env]] w fun e w' => e = .returned (.bool true) ∧ Below w.heap.size w w' := by
  subst hl
  go_enter Try.func85, Try.ntmps85
  go_wp2
  go_ret
  exact ⟨rfl, below1 _ _⟩
theorem implCountsN (k : Int) (ai ap an ac al : Option Addr) (ni ci np cp nn cn nc cc nl cl : Nat) (code env : Int) (w : World) (h : ¬ (k ≤ 2 ∧ nl = 0)) :
    Calls Try.prog 85 #[.agg #[.int .i64 k, .slice ai ni ci, .slice ap np cp, .slice an nn cn, .slice ac nc cc, .slice al nl cl, .int .i64 code, .int .i64 env]] w fun e w' => e = .returned (.bool false) ∧ Below w.heap.size w w' := by
  by_cases h2 : k ≤ 2
  · have hl : 0 < nl := by omega
    have hl' : ¬ ((nl : Int) = 0) := by omega
    have hb : ((nl : Int) == 0) = false := beq_eq_false_iff_ne.2 hl'
    clear h
    go_enter Try.func85, Try.ntmps85
    go_wp2
    go_ret
    exact ⟨rfl, below1 _ _⟩
  · have h3 : 2 < k := by omega
    clear h h2
    go_enter Try.func85, Try.ntmps85
    go_wp2
    go_ret
    exact ⟨rfl, below1 _ _⟩
theorem implTruth (x : It) (w : World) (h : NumIt x) :
    Calls Try.prog 86 #[.agg #[.int .i64 x.n, .int .i64 x.d, .string x.t]] w fun e w' => e = .returned (.int .i64 (truthI x)) ∧ Below w.heap.size w w' := by
  obtain ⟨n, d, t⟩ := x
  obtain rfl : t = ⟨#[]⟩ := h.t
  by_cases hd : d = 0
  · obtain ⟨rfl, rfl⟩ : n = 0 ∧ d = 0 := by have := h.z hd; exact ⟨congrArg It.n this, hd⟩
    clear h hd
    go_enter Try.func86, Try.ntmps86
    go_wp2
    go_ret
    exact ⟨rfl, below1 _ _⟩
  · have X := Lib.hid (show truthI ⟨n, d, ⟨#[]⟩⟩ = if n = 0 then 0 else 1 by unfold truthI; rw [if_neg hd])
    have hb : (d == 0) = false := by simp [hd]
    clear h
    by_cases hn : n = 0
    · subst hn
      have Y := Lib.hid (show truthI ⟨0, d, ⟨#[]⟩⟩ = 0 by rw [X.out]; rfl)
      go_enter Try.func86, Try.ntmps86
      go_wp2
      go_ret
      exact ⟨ret_i64S Y.out.symm, below1 _ _⟩
    · have Y := Lib.hid (show truthI ⟨n, d, ⟨#[]⟩⟩ = 1 by rw [X.out, if_neg hn])
      have hb2 : (n == 0) = false := by simp [hn]
      go_enter Try.func86, Try.ntmps86
      go_wp2
      go_ret
      exact ⟨ret_i64S Y.out.symm, below1 _ _⟩
end Go.Proofs.Yteigfhenbmhepaa

/- NotVector on both sides. -/
namespace Go.Proofs.Yteigfhenbmhepaa
open Go.RowKit
set_option maxRecDepth 100000
set_option linter.unusedVariables false

def notIt (x : It) : It := logI (nL (truthI x))
theorem notIt_t (x : It) : (notIt x).t.size ≤ 1048576 := logI_t _
/-- What NotVector answers. -/
noncomputable def notV (v : Vec) : Vec := match bB (ValidV v ∧ Counts v), v with
  | true, .mk _ items _ names _ _ _ _ => mkN 1 (itF (fun i => notIt (items.getD i noI)) items.length) names
  | false, _ => noV
noncomputable def notS (v : Vec) : ByteArray := match bB (ValidV v), bB (Counts v) with
  | false, _ => badB
  | true, false => nonLogB
  | true, true => ⟨#[]⟩
theorem notV_yes {k : Int} {items : List It} {parts : List Vec} {names cls levels : List ByteArray} {code env : Int} (h : ValidV (.mk k items parts names cls levels code env)) (hc : Counts (.mk k items parts names cls levels code env)) : notV (.mk k items parts names cls levels code env) = mkN 1 (itF (fun i => notIt (items.getD i noI)) items.length) names := by
  unfold notV; rw [bB_yes ⟨h, hc⟩]
theorem notV_bad {v : Vec} (h : ¬ ValidV v) : notV v = noV := by unfold notV; rw [bB_no (fun k => h k.1)]
theorem notV_non {v : Vec} (h : ¬ Counts v) : notV v = noV := by unfold notV; rw [bB_no (fun k => h k.2)]
theorem notS_yes {v : Vec} (h : ValidV v) (hc : Counts v) : notS v = ⟨#[]⟩ := by unfold notS; rw [bB_yes h, bB_yes hc]
theorem notS_bad {v : Vec} (h : ¬ ValidV v) : notS v = badB := by unfold notS; rw [bB_no h]
theorem notS_non {v : Vec} (h : ValidV v) (hc : ¬ Counts v) : notS v = nonLogB := by unfold notS; rw [bB_yes h, bB_no hc]
set_option maxHeartbeats 4000000 in
theorem implNot (d : Nat) (v : Vec) (val : Value) (lo hi : Nat) (w : World) (hv : VecAt lo hi w d v val) (hhi : hi ≤ w.heap.size) (hsm : Small d v) :
    Calls Try.prog 42 #[val] w (ResVS 1 (notV v) (notS v) w) := by
  have C1 := Lib.hid (fun (w1 : World) (hb : Below w.heap.size w w1) => implIsVector d v val lo hi w1 (hv.below hb hhi) (Nat.le_trans hhi hb.size) hsm)
  obtain ⟨VV, hVV⟩ : ∃ V, v = V := ⟨_, rfl⟩
  rw [hVV] at C1 ⊢
  obtain ⟨kk, items, parts, names, cls, levels, code, env⟩ := v
  obtain ⟨d', ai, ci, ap, cp, an, cn, ac, cc, al, cl, ed, rfl, hI, hN, hC, hL, hP⟩ := vecAt_open hv
  have ln : names.length ≤ 1048576 := by subst ed; exact hsm.2.2.1
  have AI := Lib.hid (fun (k : Nat) (w1 : World) (hk : k < items.length) (hb : Below w.heap.size w w1) => (hI.below hb hhi).at_ hk)
  have CC := Lib.hid (fun (w1 : World) (hb : Below w.heap.size w w1) => implCopyAny names an cn lo hi w1 (hN.below hb hhi) ln)
  have XN := Lib.hid (fun (h : ValidV VV) (hc : Counts VV) (i : Nat) (hi : i < items.length) => (by rw [← hVV] at h hc; exact num_at h hc hi : NumIt (items.getD i noI)))
  have XL := Lib.hid (fun (h : ValidV VV) (hc : Counts VV) => (by rw [← hVV] at h hc; exact count_len h hc : items.length ≤ 40))
  have XV := Lib.hid (fun (h : ValidV VV) (hc : Counts VV) => (by rw [← hVV] at h hc ⊢; exact notV_yes h hc : notV VV = mkN 1 (itF (fun i => notIt (items.getD i noI)) items.length) names))
  have XC := Lib.hid (show Counts VV ↔ (kk ≤ 2 ∧ levels.length = 0) by rw [← hVV]; exact Iff.rfl)
  clear hv hI hN hC hL hP hsm ed hVV
  go_enter Try.func42, Try.ntmps42
  go_wp2_with fail
  obtain ⟨w1, hw1⟩ : ∃ W, (w.alloc (.cells #[.int .i64 kk, .slice ai items.length ci, .slice ap parts.length cp, .slice an names.length cn, .slice ac cls.length cc, .slice al levels.length cl, .int .i64 code, .int .i64 env] 27)).alloc (.cells #[.int .i64 0, .slice none 0 0, .slice none 0 0, .slice none 0 0, .slice none 0 0, .slice none 0 0, .int .i64 0, .int .i64 0] 27) = W := ⟨_, rfl⟩
  have hsz : (w.alloc (.cells #[.int .i64 kk, .slice ai items.length ci, .slice ap parts.length cp, .slice an names.length cn, .slice ac cls.length cc, .slice al levels.length cl, .int .i64 code, .int .i64 env] 27)).heap.size = w.heap.size + 1 := by simp
  have B1 := Lib.hid (show Below w.heap.size w w1 from hw1 ▸ (below1 w _).alloc (by simp) _)
  have KA := Lib.hid (show w1.heap[w.heap.size]? = some (.cells #[.int .i64 kk, .slice ai items.length ci, .slice ap parts.length cp, .slice an names.length cn, .slice ac cls.length cc, .slice al levels.length cl, .int .i64 code, .int .i64 env] 27 (0, 0)) from hw1 ▸ blk_old (blk_new w _ rfl))
  have KR := Lib.hid (show w1.heap[w.heap.size + 1]? = some (.cells #[.int .i64 0, .slice none 0 0, .slice none 0 0, .slice none 0 0, .slice none 0 0, .slice none 0 0, .int .i64 0, .int .i64 0] 27 (0, 0)) from hw1 ▸ hsz ▸ blk_new (w.alloc (.cells #[.int .i64 kk, .slice ai items.length ci, .slice ap parts.length cp, .slice an names.length cn, .slice ac cls.length cc, .slice al levels.length cl, .int .i64 code, .int .i64 env] 27)) (.cells #[.int .i64 0, .slice none 0 0, .slice none 0 0, .slice none 0 0, .slice none 0 0, .slice none 0 0, .int .i64 0, .int .i64 0] 27) rfl)
  rw [hw1]
  clear hw1 hsz
  with_reducible refine (C1.out _ B1.out).mono ?_
  rintro e w2 ⟨rfl, b⟩
  have B2 := Lib.hid (below_then B1.out b)
  have KA2 := Lib.hid (blk_below b KA.out)
  have KR2 := Lib.hid (blk_below b KR.out)
  clear b
  obtain ⟨k0, k1, k2, k3, k4, k5, k6, k7⟩ := vec8 KA2.out
  by_cases q : ValidV VV
  · rw [bB_yes q]
    by_cases hc : Counts VV
    · have XV1 := Lib.hid (XV.out q hc)
      have XS1 := Lib.hid (notS_yes q hc)
      have hl := XL.out q hc
      have HC := XC.out.1 hc
      have XNI := Lib.hid (XN.out q hc)
      have CO := Lib.hid (fun W => implCountsY kk ai ap an ac al items.length ci parts.length cp names.length cn cls.length cc levels.length cl code env W HC.1 HC.2)
      clear q hc HC
      go_wp2_with fail
      with_reducible refine (CO.out _).mono ?_
      rintro e w3 ⟨rfl, b⟩
      have B3 := Lib.hid (below_then B2.out b)
      have KA3 := Lib.hid (blk_below b KA2.out)
      have KR3 := Lib.hid (blk_below b KR2.out)
      clear b k0 k1 k2 k3 k4 k5 k6 k7
      obtain ⟨k0, k1, k2, k3, k4, k5, k6, k7⟩ := vec8 KA3.out
      go_wp2_with fail
      with_reducible refine (CC.out _ B3.out).mono ?_
      rintro e w4 ⟨v, rfl, ⟨na, nc, F, rfl, hT, hnd, hr, hcap⟩, b⟩
      have B4 := Lib.hid (below_then B3.out b)
      have KA4 := Lib.hid (blk_below b KA3.out)
      have KR4 := Lib.hid (blk_below b KR3.out)
      have S34 := Lib.hid b.size
      have hltA := (Array.getElem?_eq_some_iff.1 KA4.out).1
      have hltR := (Array.getElem?_eq_some_iff.1 KR4.out).1
      have ST := Lib.hid (show AppN w (w4.alloc (.cells #[.int .i64 1, .slice none 0 0, .slice none 0 0, .slice na names.length nc, .slice none 0 0, .slice none 0 0, .int .i64 0, .int .i64 0] 27)) (w.heap.size + 1) w4.heap.size 1 (itF (fun i => notIt (items.getD i noI)) 0) none 0 0 names na nc F from
        ⟨blk_old KR4.out, blk_new w4 _ rfl, ⟨rfl, .inl ⟨rfl, rfl⟩⟩, hT.kept (fun g hg => (below1 w4 _).block g (hr g hg).2), hcap, hnd, fun g hg => by have h1 := hr g hg; have h2 := (Array.getElem?_eq_some_iff.1 KR3.out).1; omega, B4.out.alloc B4.out.size _, by omega, hltR⟩)
      clear b hT hnd hr hcap k0 k1 k2 k3 k4 k5 k6 k7
      obtain ⟨k0, k1, k2, k3, k4, k5, k6, k7⟩ := vec8 KA4.out
      go_wp2
      clear k0 k1 k2 k3 k4 k5 k6 k7
      obtain ⟨b, hb⟩ : ∃ b, w4.heap.size = b := ⟨_, rfl⟩
      rw [hb] at ST ⊢
      obtain ⟨n, hn⟩ : ∃ n, items.length = n := ⟨_, rfl⟩
      rw [hn] at AI XNI hl XV1 ⊢
      clear hn
      clear hb hltA hltR XN XL XV
      go_loopw [24] (fun i wr => ∃ (k : Nat) (sa : Option Addr) (sn sc : Nat), k ≤ n ∧ i = .int .i64 k ∧ AppN w wr (w.heap.size + 1) b 1 (itF (fun i => notIt (items.getD i noI)) k) sa sn sc names na nc F) (fun i _ => n - (intOf i).toNat)
      case atStart => exact ⟨0, none, 0, 0, Nat.zero_le _, rfl, ST.out⟩
      case round =>
        obtain ⟨k, sa, sn, sc, hk, rfl, hap⟩ := hrel
        have AP := Lib.hid hap
        clear hap
        by_cases hlt : k < n
        · obtain ⟨ba, off, rfl, hbB, c0, c1, c2⟩ := AI.out _ _ hlt AP.out.below
          have hxn := XNI.out k hlt
          have hxt : txtI items k = ⟨#[]⟩ := hxn.t
          rw [hxt] at c2
          obtain ⟨⟨xn, xd, xt⟩, hx⟩ : ∃ x : It, items.getD k noI = x := ⟨_, rfl⟩
          have hxt' : xt = ⟨#[]⟩ := by have := hxn.t; rw [hx] at this; exact this
          subst hxt'
          rw [hx] at hxn
          simp only [hx] at c0 c1
          have CT := Lib.hid (fun W => (implTruth ⟨xn, xd, ⟨#[]⟩⟩ W hxn : Calls Try.prog 86 #[.agg #[.int .i64 xn, .int .i64 xd, .string ⟨#[]⟩]] W _))
          have CN := Lib.hid (fun W => implNot3 (truthI ⟨xn, xd, ⟨#[]⟩⟩) W (truth_three _))
          have EK := Lib.hid (show notIt (items.getD k noI) = logI (nL (truthI ⟨xn, xd, ⟨#[]⟩⟩)) by rw [hx]; rfl)
          have CI := Lib.hid (fun W => (by have h := implLogItem (nL (truthI ⟨xn, xd, ⟨#[]⟩⟩)) W (nL_three _); rw [← EK.out] at h; exact h : Calls Try.prog 51 #[.int .i64 (nL (truthI ⟨xn, xd, ⟨#[]⟩⟩))] W (fun e w' => e = .returned (.agg #[.int .i64 (notIt (items.getD k noI)).n, .int .i64 (notIt (items.getD k noI)).d, .string (notIt (items.getD k noI)).t]) ∧ Below W.heap.size W w')))
          have LN := Lib.hid (show (itF (fun i => notIt (items.getD i noI)) k).length ≤ 1048576 by rw [itF_len]; omega)
          have NX := Lib.hid (itF_succ (fun i => notIt (items.getD i noI)) k)
          have hbw : ba < wr.heap.size := Nat.lt_of_lt_of_le (Nat.lt_of_lt_of_le hbB hhi) AP.out.below.size
          have FAR := Lib.hid (fun C q hq => AP.out.far (C := C) (q := q) hq)
          have W0 := Lib.hid (show w.heap.size ≤ b + 1 by have := AP.out.o2; omega)
          have B0' := Lib.hid (show w.heap.size ≤ b by have := AP.out.o2; omega)
          have hbb := AP.out.big
          clear hx hxn hxt
          go_wp2
          obtain ⟨w5, hw5⟩ : ∃ W, wr.alloc (.cells #[.int .i64 xn, .int .i64 xd, .string ⟨#[]⟩] 62) = W := ⟨_, rfl⟩
          have AP0 := AP
          have AP := Lib.hid (show AppN w w5 (w.heap.size + 1) b 1 (itF (fun i => notIt (items.getD i noI)) k) sa sn sc names na nc F from hw5 ▸ AP.out.keep (below1 wr _))
          have X1 := Lib.hid (show w5.heap[wr.heap.size]? = some (.cells #[.int .i64 xn, .int .i64 xd, .string ⟨#[]⟩] 62 (0, 0)) from hw5 ▸ blk_new wr _ rfl)
          rw [hw5]
          clear hw5
          have H := Lib.hid (heldC_cons AP.out.heldC X1.out)
          refine run_region (ops := (opsOf Try.f42 9)) (S := fun w' => HeldC w w' ([(wr.heap.size, 62, #[.int .i64 xn, .int .i64 xd, .string ⟨#[]⟩]), ((w.heap.size + 1), 27, #[.int .i64 0, .slice none 0 0, .slice none 0 0, .slice none 0 0, .slice none 0 0, .slice none 0 0, .int .i64 0, .int .i64 0]), (b, 27, #[.int .i64 1, .slice sa sn sc, .slice none 0 0, .slice na names.length nc, .slice none 0 0, .slice none 0 0, .int .i64 0, .int .i64 0])])) [(0, true), (1, true), (2, true), (3, false), (4, false), (5, false), (6, false), (7, false), (8, true), (9, false)] (by kernel_rfl) (by kernel_rfl) (by kernel_rfl) (by kernel_rfl) (by kernel_rfl) (fun _ _ _ _ _ h => h) (heldC_drew H.out) ?_
          have H := Lib.hid (heldC_drew H.out)
          have AP := Lib.hid (AP.out.keep (below_drew' (Below.refl _ _)))
          refine runC_partV (b := b) (by kernel_rfl) (show opAt (opsOf Try.f42 9) 0 = some (some 28, .fieldAddr 27 (.tmp 4) 1, none) from by kernel_rfl) (by kernel_rfl) (by kernel_rfl) (by kernel_rfl) ?_
          refine runC_cell (b := b) (j := 1) (v := .slice sa sn sc) load_its (show opAt (opsOf Try.f42 9) 1 = some (some 29, .load 23 (.tmp 28), none) from by kernel_rfl) (by kernel_rfl) (by kernel_rfl) (by kernel_rfl) (List.Mem.tail _ (List.Mem.tail _ (List.Mem.head _))) rfl ?_
          refine runC_itm (b := wr.heap.size) (show opAt (opsOf Try.f42 9) 2 = some (some 30, .load 62 (.tmp 6), none) from by kernel_rfl) (by kernel_rfl) (by kernel_rfl) (by kernel_rfl) (List.Mem.head _) ?_
          refine run_call (args := [.agg #[.int .i64 xn, .int .i64 xd, .string ⟨#[]⟩]]) (show opAt (opsOf Try.f42 9) 3 = some (some 31, .call { callee := .value (.func 86), args := [(.tmp 30)].toArray, argTypes := [62].toArray }, none) from by kernel_rfl) (by kernel_rfl) (by kernel_rfl) (by kernel_rfl) (by kernel_rfl) ?_
          refine (CT.out _).mono ?_
          rintro en rw1 ⟨rfl, hb⟩
          refine ⟨_, rfl, heldC_call H.out hb, ?_⟩
          have H := Lib.hid (heldC_call H.out hb)
          have AP := Lib.hid (AP.out.keep hb)
          clear hb
          refine run_call (args := [.int .i64 ((truthI ⟨xn, xd, ⟨#[]⟩⟩))]) (show opAt (opsOf Try.f42 9) 4 = some (some 32, .call { callee := .value (.func 87), args := [(.tmp 31)].toArray, argTypes := [66].toArray }, none) from by kernel_rfl) (by kernel_rfl) (by kernel_rfl) (by kernel_rfl) (by kernel_rfl) ?_
          refine (CN.out _).mono ?_
          rintro en rw2 ⟨rfl, rfl⟩
          refine ⟨_, rfl, H.out, ?_⟩
          refine run_call (args := [.int .i64 ((nL (truthI ⟨xn, xd, ⟨#[]⟩⟩)))]) (show opAt (opsOf Try.f42 9) 5 = some (some 33, .call { callee := .value (.func 51), args := [(.tmp 32)].toArray, argTypes := [66].toArray }, none) from by kernel_rfl) (by kernel_rfl) (by kernel_rfl) (by kernel_rfl) (by kernel_rfl) ?_
          refine (CI.out _).mono ?_
          rintro en rw3 ⟨rfl, hb⟩
          refine ⟨_, rfl, heldC_call H.out hb, ?_⟩
          have H := Lib.hid (heldC_call H.out hb)
          have AP := Lib.hid (AP.out.keep hb)
          clear hb
          refine tail_item2 (notIt (items.getD k noI)) (show opAt (opsOf Try.f42 9) 6 = some (some 34, .buildSlice 23 1 #[(0, (.tmp 33))], none) from by kernel_rfl) (by kernel_rfl) (by kernel_rfl) (show opAt (opsOf Try.f42 9) 7 = some (some 35, .call { callee := .builtin .append, args := [(.tmp 29), (.tmp 34)].toArray, argTypes := [23, 23].toArray }, none) from by kernel_rfl) (by kernel_rfl) (fun _ => by kernel_rfl) (show opAt (opsOf Try.f42 9) 8 = some (some 36, .fieldAddr 27 (.tmp 4) 1, none) from by kernel_rfl) (by kernel_rfl) (by kernel_rfl) (fun _ _ => by kernel_rfl) (show opAt (opsOf Try.f42 9) 9 = some (none, .store 23 (.tmp 36) (.tmp 35), none) from by kernel_rfl) (by kernel_rfl) (by kernel_rfl) H.out AP.out.row LN.out (Nat.succ_le_of_lt (Array.getElem?_eq_some_iff.1 (heldC_at H.out (List.Mem.tail _ (List.Mem.tail _ (List.Mem.head _))))).1) W0.out (List.Mem.tail _ (List.Mem.tail _ (List.Mem.head _))) rfl (Nat.lt_succ_self _) B0'.out (fun q hq => FAR.out _ q hq) ?_
          rintro v' w2 ⟨sa, sn, sc, rfl⟩ hK hO hB hZ hR hG
          simp only [putAll, Act.put, List.setIfInBounds_toArray, List.set_cons_zero, List.set_cons_succ]
          have AN := Lib.hid (AP.out.next hK hO hB (hR _ (List.Mem.tail _ (List.Mem.head _)) (by have := AP.out.o2; simp only; omega)) (fun g hg => hG g (by have := AP.out.rng g hg; have := AP.out.big; omega) (by have := AP.out.rng g hg; omega) (fun j hj => by have := (AP.out.row.lt j hj).1; have := AP.out.rng g hg; omega)))
          clear hK hO hB hR hG H FAR LN
          go_wp2
          go_roundw
          case rel => exact ⟨k + 1, sa, sn, sc, by omega, by go_num, NX.out ▸ AN.out⟩
          case measure => simp [intOf]; omega
        · obtain rfl : k = n := by omega
          have K1 := Lib.hid AP.out.vec
          have K0 := Lib.hid AP.out.res
          have FN := Lib.hid AP.out.fin
          obtain ⟨k0, k1, k2, k3, k4, k5, k6, k7⟩ := vec8 K1.out
          obtain ⟨z0, z1, z2, z3, z4, z5, z6, z7⟩ := vec8 K0.out
          obtain ⟨f0, f1, f2, f3, f4, f5, f6, f7⟩ := free8 K0.out
          go_wp2
          rw [XV1.out, XS1.out]
          exact vec_endS rfl rfl rfl rfl K0.out FN.out.withS
    · have XV1 := Lib.hid (notV_non hc)
      have XS1 := Lib.hid (notS_non q hc)
      have CO := Lib.hid (fun W => implCountsN kk ai ap an ac al items.length ci parts.length cp names.length cn cls.length cc levels.length cl code env W (fun h => hc (XC.out.2 h)))
      clear q hc
      go_wp2_with fail
      with_reducible refine (CO.out _).mono ?_
      rintro e w3 ⟨rfl, b⟩
      have B3 := Lib.hid (below_then B2.out b)
      have K0 := Lib.hid (blk_below b KR2.out)
      clear b k0 k1 k2 k3 k4 k5 k6 k7
      obtain ⟨z0, z1, z2, z3, z4, z5, z6, z7⟩ := vec8 K0.out
      obtain ⟨f0, f1, f2, f3, f4, f5, f6, f7⟩ := free8 K0.out
      go_wp2
      rw [XV1.out, XS1.out]
      exact vec_endS rfl rfl rfl rfl K0.out (zeroS _ w _ (put8_below B3.out (Nat.le_succ _)))
  · rw [bB_no q]
    have XV1 := Lib.hid (notV_bad q)
    have XS1 := Lib.hid (notS_bad q)
    clear q k0 k1 k2 k3 k4 k5 k6 k7
    have K0 := Lib.hid KR2.out
    obtain ⟨z0, z1, z2, z3, z4, z5, z6, z7⟩ := vec8 K0.out
    obtain ⟨f0, f1, f2, f3, f4, f5, f6, f7⟩ := free8 K0.out
    go_wp2
    rw [XV1.out, XS1.out]
    exact vec_endS rfl rfl rfl rfl K0.out (zeroS _ w _ (put8_below B2.out (Nat.le_succ _)))
end Go.Proofs.Yteigfhenbmhepaa

/- The reference's view of a vector as numbers and as logical values. -/
namespace Go.Proofs.Yteigfhenbmhepaa
open Go.RowKit
set_option maxRecDepth 100000
set_option linter.unusedVariables false

theorem specNumsY (k : Int) (ai ap an ac al : Option Addr) (ni ci np cp nn cn nc cc nl cl : Nat) (code env : Int) (w : World) (h : k ≤ 2) (hl : nl = 0) :
    Calls Try.prog 100 #[.agg #[.int .i64 k, .slice ai ni ci, .slice ap np cp, .slice an nn cn, .slice ac nc cc, .slice al nl cl, .int .i64 code, .int .i64 env]] w fun e w' => e = .returned (.tuple #[.slice ai ni ci, .bool true]) ∧ Below w.heap.size w w' := by
  subst hl
  go_enter Try.func100, Try.ntmps100
  go_wp2
  go_ret2
  exact ⟨rfl, below1 _ _⟩
theorem specNumsN (k : Int) (ai ap an ac al : Option Addr) (ni ci np cp nn cn nc cc nl cl : Nat) (code env : Int) (w : World) (h : ¬ (k ≤ 2 ∧ nl = 0)) :
    Calls Try.prog 100 #[.agg #[.int .i64 k, .slice ai ni ci, .slice ap np cp, .slice an nn cn, .slice ac nc cc, .slice al nl cl, .int .i64 code, .int .i64 env]] w fun e w' => (∃ sa c, e = .returned (.tuple #[.slice sa 0 c, .bool false])) ∧ Below w.heap.size w w' := by
  by_cases h2 : k ≤ 2
  · have hl : 0 < nl := by omega
    clear h
    go_enter Try.func100, Try.ntmps100
    go_wp2
    go_ret2
    exact ⟨⟨_, _, rfl⟩, (below1 _ _).alloc (by simp) _⟩
  · have h3 : 2 < k := by omega
    clear h h2
    go_enter Try.func100, Try.ntmps100
    go_wp2
    go_ret2
    exact ⟨⟨_, _, rfl⟩, (below1 _ _).alloc (by simp) _⟩
/-- What a loop that appends ints keeps. -/
structure IntR (w wr : World) (f : Nat → Int) (k : Nat) (v : Value) : Prop where
  row : wr.ownsRow w.heap.size 3 1 v k (intsF f k)
  below : Below w.heap.size w wr
theorem IntR.next {w wr w1 : World} {f : Nat → Int} {k : Nat} {z : Int} {v v' : Value} {o : Obj} (h : IntR w wr f k v) (hg : (wr.alloc o).grownBy w1 v.ownBlock) (hr : w1.ownsRow w.heap.size 3 1 v' (k + 1) (intsF f k ++ [.int .i64 z])) (hz : z = f k) : IntR w w1 f (k + 1) v' := by
  subst hz
  exact ⟨intsF_succ f k ▸ hr, (h.below.alloc h.below.size o).grown hg (by have := h.below.size; simp; omega) (fun r hr' => (h.row.lt r hr').1)⟩
theorem IntR.below' {w wr w1 : World} {f : Nat → Int} {k : Nat} {v : Value} (h : IntR w wr f k v) (hb : Below wr.heap.size wr w1) : IntR w w1 f k v := ⟨ownsRow_below h.row hb, below_then h.below hb⟩
set_option maxHeartbeats 2000000 in
theorem specLogY (k : Int) (items : List It) (ai ap an ac al : Option Addr) (ci np cp nn cn nc cc nl cl : Nat) (code env : Int) (lo hi : Nat) (w : World) (hI : ItemsAt lo hi w ai items) (hhi : hi ≤ w.heap.size) (hk : k ≤ 2) (hl : nl = 0) (hn : items.length ≤ 1048576) (hit : ∀ i, i < items.length → NumIt (items.getD i noI)) :
    Calls Try.prog 83 #[.agg #[.int .i64 k, .slice ai items.length ci, .slice ap np cp, .slice an nn cn, .slice ac nc cc, .slice al nl cl, .int .i64 code, .int .i64 env]] w fun e w' => ∃ sa c, e = .returned (.tuple #[.slice sa items.length c, .bool true]) ∧ w'.ownsRow w.heap.size 3 1 (.slice sa items.length c) items.length (intsF (fun i => truthI (items.getD i noI)) items.length) ∧ Below w.heap.size w w' := by
  have AI := Lib.hid (fun (k : Nat) (w1 : World) (hk : k < items.length) (hb : Below w.heap.size w w1) => (hI.below hb hhi).at_ hk)
  have XI := Lib.hid hit
  have CN := Lib.hid (fun W => specNumsY k ai ap an ac al items.length ci np cp nn cn nc cc nl cl code env W hk hl)
  obtain ⟨n, h_⟩ : ∃ x, items.length = x := ⟨_, rfl⟩
  rw [h_] at AI XI CN hn ⊢
  obtain ⟨f, hf⟩ : ∃ f : Nat → Int, (fun i => truthI (items.getD i noI)) = f := ⟨_, rfl⟩
  rw [hf]
  have TR := Lib.hid (fun i => (by rw [← hf] : f i = truthI (items.getD i noI)))
  obtain ⟨i0, hi0, hz0, hz1, hz2⟩ := info_parts infoInt
  clear h_ hI hit hk hl hf
  go_enter Try.func83, Try.ntmps83
  go_wp2_with fail
  obtain ⟨w1, hw1⟩ : ∃ W, (w.alloc (.cells #[.int .i64 k, .slice ai n ci, .slice ap np cp, .slice an nn cn, .slice ac nc cc, .slice al nl cl, .int .i64 code, .int .i64 env] 27)).alloc (.cells #[] 3) = W := ⟨_, rfl⟩
  have hsz : (w.alloc (.cells #[.int .i64 k, .slice ai n ci, .slice ap np cp, .slice an nn cn, .slice ac nc cc, .slice al nl cl, .int .i64 code, .int .i64 env] 27)).heap.size = w.heap.size + 1 := by simp
  have B1 := Lib.hid (show Below w.heap.size w w1 from hw1 ▸ (below1 w _).alloc (by simp) _)
  have K1 := Lib.hid (show w1.heap[w.heap.size + 1]? = some (.cells #[] 3 (0, 0)) from hw1 ▸ hsz ▸ blk_new (w.alloc (.cells #[.int .i64 k, .slice ai n ci, .slice ap np cp, .slice an nn cn, .slice ac nc cc, .slice al nl cl, .int .i64 code, .int .i64 env] 27)) (.cells #[] 3) rfl)
  rw [hw1]
  clear hw1 hsz
  with_reducible refine (CN.out _).mono ?_
  rintro e w2 ⟨rfl, b⟩
  have ST := Lib.hid (show IntR w w2 f 0 (.slice (some ⟨w.heap.size + 1, 0, none⟩) 0 0) from ⟨⟨rfl, .inr ⟨w.heap.size + 1, 0, #[], rfl, Nat.le_succ _, blk_below b K1.out, Nat.le_refl _, Nat.zero_le _, rfl, rfl⟩⟩, below_then B1.out b⟩)
  clear b B1 K1
  go_wp2
  go_loopw [4, 7] (fun v i wr => ∃ k : Nat, k ≤ n ∧ i = .int .i64 k ∧ IntR w wr f k v) (fun _ i _ => n - (intOf i).toNat)
  case atStart => exact ⟨0, Nat.zero_le _, rfl, ST.out⟩
  case round =>
    obtain ⟨k, hk, rfl, hil⟩ := hrel
    have IL := Lib.hid hil
    clear hil
    by_cases hlt : k < n
    · obtain ⟨ba, off, rfl, hbB, c0, c1, c2⟩ := AI.out _ _ hlt IL.out.below
      have hxn := XI.out k hlt
      obtain ⟨⟨xn, xd, xt⟩, hx⟩ : ∃ x : It, items.getD k noI = x := ⟨_, rfl⟩
      rw [hx] at hxn
      have hn0 : -999999999 ≤ xn := hxn.n0
      have hn1 : xn ≤ 999999999 := hxn.n1
      simp only [hx] at c0 c1
      clear c2 hxn
      by_cases hd : xd = 0
      · have EQK := Lib.hid (show (2 : Int) = f k by rw [TR.out, hx]; unfold truthI; rw [if_pos hd])
        have OR := Lib.hid (IL.out.row.alloc (.cells #[.int .i64 2] 3))
        clear hx
        subst hd
        go_wp2_with (at_builtin; refine wpList_append_own _ rfl _ _ 22 rfl w.heap.size 3 i0 (.int .i64 0) 1 8 Try.underlying22 hi0 hz0 hz1 hz2 rfl (by decide) _ k (intsF f k) rfl OR.out ⟨wr.heap.size, 0, none⟩ 1 1 [.int .i64 2] rfl rfl ?c1 ?c2 ?c3 ?c4 ?c5 ?_)
        case c1 =>
          intro j u hj
          obtain rfl : j = 0 := by have := (List.getElem?_eq_some_iff.1 hj).1; simpa using this
          obtain rfl : Value.int .i64 2 = u := by simpa using hj
          rw [addr_add]
          exact cellOf (blk_new wr _ rfl) rfl
        case c2 => intro u hu; obtain rfl := List.mem_singleton.1 hu; rfl
        case c3 => unfold maxLen; omega
        case c4 => omega
        case c5 => have := IL.out.below.size; simp; omega
        intro v' w1 hown' hgrow _
        have NX := Lib.hid (IL.out.next hgrow hown' EQK.out)
        clear hown' hgrow
        go_wp2
        go_roundw
        case rel => exact ⟨k + 1, by omega, by go_num, NX.out⟩
        case measure => simp [intOf]; omega
      · have hdb : (xd == 0) = false := by simp [hd]
        have AB := Lib.hid (fun W => specAbs xn W (by omega) (by omega))
        obtain ⟨q, hq⟩ : ∃ q, xn.natAbs = q := ⟨_, rfl⟩
        rw [hq] at AB
        by_cases hxz : xn = 0
        · have EQK := Lib.hid (show (0 : Int) = f k by rw [TR.out, hx]; unfold truthI; rw [if_neg hd, if_pos hxz])
          have OR := Lib.hid (IL.out.row.alloc (.cells #[.int .i64 0] 3))
          obtain rfl : q = 0 := by omega
          clear hx hq hxz
          go_wp2_with fail
          with_reducible refine (AB.out _).mono ?_
          rintro e w' ⟨rfl, rfl⟩
          go_wp2_with (at_builtin; refine wpList_append_own _ rfl _ _ 22 rfl w.heap.size 3 i0 (.int .i64 0) 1 8 Try.underlying22 hi0 hz0 hz1 hz2 rfl (by decide) _ k (intsF f k) rfl OR.out ⟨wr.heap.size, 0, none⟩ 1 1 [.int .i64 0] rfl rfl ?c1 ?c2 ?c3 ?c4 ?c5 ?_)
          case c1 =>
            intro j u hj
            obtain rfl : j = 0 := by have := (List.getElem?_eq_some_iff.1 hj).1; simpa using this
            obtain rfl : Value.int .i64 0 = u := by simpa using hj
            rw [addr_add]
            exact cellOf (blk_new wr _ rfl) rfl
          case c2 => intro u hu; obtain rfl := List.mem_singleton.1 hu; rfl
          case c3 => unfold maxLen; omega
          case c4 => omega
          case c5 => have := IL.out.below.size; simp; omega
          intro v' w1 hown' hgrow _
          have NX := Lib.hid (IL.out.next hgrow hown' EQK.out)
          clear hown' hgrow
          go_wp2
          go_roundw
          case rel => exact ⟨k + 1, by omega, by go_num, NX.out⟩
          case measure => simp [intOf]; omega
        · have EQK := Lib.hid (show (1 : Int) = f k by rw [TR.out, hx]; unfold truthI; rw [if_neg hd, if_neg hxz])
          have OR := Lib.hid (IL.out.row.alloc (.cells #[.int .i64 1] 3))
          have hq1 : 1 ≤ (q : Int) := by omega
          have hq2 : (q : Int) ≤ 999999999 := by omega
          clear hx hq hxz
          go_wp2_with fail
          with_reducible refine (AB.out _).mono ?_
          rintro e w' ⟨rfl, rfl⟩
          go_wp2_with (at_builtin; refine wpList_append_own _ rfl _ _ 22 rfl w.heap.size 3 i0 (.int .i64 0) 1 8 Try.underlying22 hi0 hz0 hz1 hz2 rfl (by decide) _ k (intsF f k) rfl OR.out ⟨wr.heap.size, 0, none⟩ 1 1 [.int .i64 1] rfl rfl ?c1 ?c2 ?c3 ?c4 ?c5 ?_)
          case c1 =>
            intro j u hj
            obtain rfl : j = 0 := by have := (List.getElem?_eq_some_iff.1 hj).1; simpa using this
            obtain rfl : Value.int .i64 1 = u := by simpa using hj
            rw [addr_add]
            exact cellOf (blk_new wr _ rfl) rfl
          case c2 => intro u hu; obtain rfl := List.mem_singleton.1 hu; rfl
          case c3 => unfold maxLen; omega
          case c4 => omega
          case c5 => have := IL.out.below.size; simp; omega
          intro v' w1 hown' hgrow _
          have NX := Lib.hid (IL.out.next hgrow hown' EQK.out)
          clear hown' hgrow
          go_wp2
          go_roundw
          case rel => exact ⟨k + 1, by omega, by go_num, NX.out⟩
          case measure => simp [intOf]; omega
    · obtain rfl : k = n := by omega
      have h1 := IL.out.row
      obtain ⟨sa, c, rfl, _⟩ := ints_of_row h1
      go_wp2
      go_ret2
      exact ⟨sa, c, rfl, IL.out.row, IL.out.below⟩
set_option maxHeartbeats 2000000 in
theorem specLogN (k : Int) (ai ap an ac al : Option Addr) (ni ci np cp nn cn nc cc nl cl : Nat) (code env : Int) (w : World) (h : ¬ (k ≤ 2 ∧ nl = 0)) :
    Calls Try.prog 83 #[.agg #[.int .i64 k, .slice ai ni ci, .slice ap np cp, .slice an nn cn, .slice ac nc cc, .slice al nl cl, .int .i64 code, .int .i64 env]] w fun e w' => (∃ sa c, e = .returned (.tuple #[.slice sa 0 c, .bool false])) ∧ Below w.heap.size w w' := by
  have CN := Lib.hid (fun W => specNumsN k ai ap an ac al ni ci np cp nn cn nc cc nl cl code env W h)
  have B1 := Lib.hid ((below1 w (.cells #[.int .i64 k, .slice ai ni ci, .slice ap np cp, .slice an nn cn, .slice ac nc cc, .slice al nl cl, .int .i64 code, .int .i64 env] 27)).alloc (by simp) (.cells #[] 3))
  clear h
  go_enter Try.func83, Try.ntmps83
  go_wp2_with fail
  with_reducible refine (CN.out _).mono ?_
  rintro e w2 ⟨⟨sa, c, rfl⟩, b⟩
  have B2 := Lib.hid (below_then B1.out b)
  clear b
  go_wp2
  refine wp_loop_rounds 1 ?_
  rw [rounds_succ]
  go_wp2
  go_ret2
  exact ⟨⟨_, _, rfl⟩, B2.out⟩
theorem specBad (w : World) : Calls Try.prog 76 #[] w fun e w' => e = .returned (.tuple #[.agg #[.int .i64 0, .slice none 0 0, .slice none 0 0, .slice none 0 0, .slice none 0 0, .slice none 0 0, .int .i64 0, .int .i64 0], .string badB]) ∧ Below w.heap.size w w' := by
  go_enter Try.func76, Try.ntmps76
  go_wp2
  exact vec_ret0S rfl rfl rfl rfl (blk_new w _ rfl) ⟨rfl, below1 w _⟩
end Go.Proofs.Yteigfhenbmhepaa

/- NotVector of the reference. -/
namespace Go.Proofs.Yteigfhenbmhepaa
open Go.RowKit
set_option maxRecDepth 100000
set_option linter.unusedVariables false

theorem Own.setNames {k : Int} {l : List It} {c0 c1 c2 c3 c4 c5 c6 c7 : Value} {lo hi lo2 hi2 : Nat} {w : World} (h : Own 1 (vecOf k l) (.agg #[c0, c1, c2, c3, c4, c5, c6, c7]) lo hi w) {names : List ByteArray} {na : Option Addr} {nc : Nat} {Fn : List Nat} (hT : OwnTxs w na names Fn) (hn : Fn.Nodup)
    (hr : ∀ g ∈ Fn, lo2 ≤ g ∧ g < hi2) (hc : names.length ≤ nc) (h1 : hi ≤ lo2) (h2 : lo ≤ lo2) (h3 : hi ≤ hi2) : Own 1 (mkN k l names) (.agg #[c0, c1, c2, .slice na names.length nc, c4, c5, c6, c7]) lo hi2 w := by
  obtain ⟨F, ho, hnd, hrg⟩ := h.out
  change OwnVec w 1 (.mk k l [] [] [] [] 0 0) _ F at ho
  unfold OwnVec at ho
  obtain ⟨ai, ci, ap, cp, an, cn, ac, cc, al, cl, Fi, Fp, F0, Fc, Fl, e, rfl, hC, i1, i2, i3, i4, i5⟩ := ho
  simp only [Value.agg.injEq, Array.mk.injEq, List.cons.injEq, and_true] at e
  obtain ⟨rfl, rfl, rfl, rfl, rfl, rfl, rfl, rfl⟩ := e
  refine ⟨Fi ++ (Fp ++ (Fn ++ (Fc ++ Fl))), ?_, ?_, ?_⟩
  · show OwnVec w 1 (.mk k l [] names [] [] 0 0) _ _
    unfold OwnVec
    exact ⟨ai, ci, ap, cp, na, nc, ac, cc, al, cl, Fi, Fp, Fn, Fc, Fl, rfl, rfl, ⟨hC.1, hC.2.1, hc, hC.2.2.2.1, hC.2.2.2.2⟩, i1, hT, i3, i4, i5⟩
  · have D : ∀ g, (g ∈ Fi ∨ g ∈ Fp ∨ g ∈ Fc ∨ g ∈ Fl) → g ∉ Fn := fun g hg hm => by
      have h4 := hr g hm
      have h5 := hrg g (by simp only [List.mem_append]; grind)
      omega
    simp only [List.nodup_append, List.mem_append] at hnd ⊢
    grind
  · intro g hg
    simp only [List.mem_append] at hg
    by_cases hm : g ∈ Fn
    · have := hr g hm; omega
    · have := hrg g (by simp only [List.mem_append]; grind); omega
theorem Own.belowB {d : Nat} {V : Vec} {y : Value} {lo hi B : Nat} {w w' : World} (h : Own d V y lo hi w) (hb : Below B w w') (hh : hi ≤ B) : Own d V y lo hi w' := by
  obtain ⟨F, h1, h2, h3⟩ := h.out
  exact ⟨F, h1.kept _ _ _ _ (fun b hm => hb.block b (by have := h3 b hm; omega)), h2, h3⟩
theorem Own.setOut {d : Nat} {V : Vec} {y u : Value} {lo hi b j : Nat} {w : World} (h : Own d V y lo hi w) (hh : hi ≤ b) : Own d V y lo hi (w.setCell ⟨b, j, none⟩ u) := by
  obtain ⟨F, h1, h2, h3⟩ := h.out
  exact ⟨F, h1.kept _ _ _ _ (fun g hm => Below.heap_setCell _ _ _ _ (by have := h3 g hm; show g ≠ b; omega)), h2, h3⟩
/-- The ints while they are turned over, one by one. -/
def TurnL (w wr : World) (sa : Option Addr) (n k : Nat) (f : Nat → Int) : Prop :=
  n = 0 ∨ ∃ b C, sa = some ⟨b, 0, none⟩ ∧ w.heap.size + 2 ≤ b ∧ wr.heap[b]? = some (.cells C 3 (0, 0)) ∧ n ≤ C.size ∧ ∀ i, i < n → C[i]? = some (.int .i64 (if i < k then nL (f i) else f i))
theorem TurnL.start {w wr : World} {B : Nat} {sa : Option Addr} {n c : Nat} {f : Nat → Int} (h : wr.ownsRow B 3 1 (.slice sa n c) n (intsF f n)) (hB : w.heap.size + 2 ≤ B) : TurnL w wr sa n 0 f := by
  obtain ⟨_, h⟩ := h
  rcases h with ⟨e, h0⟩ | ⟨g, cap, cur, e, hg, hb, hc, _, hs, ht⟩
  · exact .inl h0
  · simp only [Value.slice.injEq] at e
    obtain ⟨rfl, _, rfl⟩ := e
    refine .inr ⟨g, cur, rfl, by omega, hb, by omega, fun i hi => ?_⟩
    have h1 : (cur.toList.take (n * 1))[i]? = (intsF f n)[i]? := by rw [ht]
    rw [List.getElem?_take_of_lt (by omega), Array.getElem?_toList] at h1
    rw [h1, if_neg (Nat.not_lt_zero i)]; unfold intsF; simp [hi]
theorem TurnL.ints {w wr : World} {sa : Option Addr} {n : Nat} {f : Nat → Int} (h : TurnL w wr sa n n f) : IntsAt wr.heap.size wr sa n (fun i => nL (f i)) := by
  rcases h with rfl | ⟨b, C, rfl, _, hb, hn, r⟩
  · exact fun i hi => absurd hi (Nat.not_lt_zero _)
  · intro i hi
    refine ⟨b, 0, rfl, (Array.getElem?_eq_some_iff.1 hb).1, ?_⟩
    rw [Nat.zero_add]
    have := r i hi
    rw [if_pos hi] at this
    exact cellOf hb this
set_option maxHeartbeats 4000000 in
theorem specNot (d : Nat) (v : Vec) (val : Value) (lo hi : Nat) (w : World) (hv : VecAt lo hi w d v val) (hhi : hi ≤ w.heap.size) (hsm : Small d v) :
    Calls Try.prog 41 #[val] w (ResVS 1 (notV v) (notS v) w) := by
  have C1 := Lib.hid (fun (w1 : World) (hb : Below w.heap.size w w1) => specIsVector d v val lo hi w1 (hv.below hb hhi) (Nat.le_trans hhi hb.size) hsm)
  obtain ⟨VV, hVV⟩ : ∃ V, v = V := ⟨_, rfl⟩
  rw [hVV] at C1 ⊢
  obtain ⟨kk, items, parts, names, cls, levels, code, env⟩ := v
  obtain ⟨d', ai, ci, ap, cp, an, cn, ac, cc, al, cl, ed, rfl, hI, hN, hC, hL, hP⟩ := vecAt_open hv
  have ln : names.length ≤ 1048576 := by subst ed; exact hsm.2.2.1
  have li : items.length ≤ 1048576 := by subst ed; exact hsm.1
  have HT := Lib.hid (fun (w1 : World) (hb : Below w.heap.size w w1) => hN.below hb hhi)
  have XN := Lib.hid (fun (h : ValidV VV) (hc : Counts VV) (i : Nat) (hi : i < items.length) => (by rw [← hVV] at h hc; exact num_at h hc hi : NumIt (items.getD i noI)))
  have XL := Lib.hid (fun (h : ValidV VV) (hc : Counts VV) => (by rw [← hVV] at h hc; exact count_len h hc : items.length ≤ 40))
  have XV := Lib.hid (fun (h : ValidV VV) (hc : Counts VV) => (by rw [← hVV] at h hc ⊢; exact notV_yes h hc : notV VV = mkN 1 (itF (fun i => logI (nL (truthI (items.getD i noI)))) items.length) names))
  have XC := Lib.hid (show Counts VV ↔ (kk ≤ 2 ∧ levels.length = 0) by rw [← hVV]; exact Iff.rfl)
  have SL := Lib.hid (fun (w1 : World) (hb : Below w.heap.size w w1) (hk : kk ≤ 2) (hl : levels.length = 0) (hit : ∀ i, i < items.length → NumIt (items.getD i noI)) => specLogY kk items ai ap an ac al ci parts.length cp names.length cn cls.length cc levels.length cl code env lo hi w1 (hI.below hb hhi) (Nat.le_trans hhi hb.size) hk hl li hit)
  have BD := Lib.hid (fun W => specBad W)
  clear hv hI hN hC hL hP hsm ed hVV
  obtain ⟨n, hn⟩ : ∃ n, items.length = n := ⟨_, rfl⟩
  rw [hn] at C1 li XN XL XV SL ⊢
  clear hn
  go_enter Try.func41, Try.ntmps41
  go_wp2_with fail
  obtain ⟨w1, hw1⟩ : ∃ W, (w.alloc (.cells #[.int .i64 kk, .slice ai n ci, .slice ap parts.length cp, .slice an names.length cn, .slice ac cls.length cc, .slice al levels.length cl, .int .i64 code, .int .i64 env] 27)).alloc (.cells #[.int .i64 0, .slice none 0 0, .slice none 0 0, .slice none 0 0, .slice none 0 0, .slice none 0 0, .int .i64 0, .int .i64 0] 27) = W := ⟨_, rfl⟩
  have hsz : (w.alloc (.cells #[.int .i64 kk, .slice ai n ci, .slice ap parts.length cp, .slice an names.length cn, .slice ac cls.length cc, .slice al levels.length cl, .int .i64 code, .int .i64 env] 27)).heap.size = w.heap.size + 1 := by simp
  have B1 := Lib.hid (show Below w.heap.size w w1 from hw1 ▸ (below1 w _).alloc (by simp) _)
  have KA := Lib.hid (show w1.heap[w.heap.size]? = some (.cells #[.int .i64 kk, .slice ai n ci, .slice ap parts.length cp, .slice an names.length cn, .slice ac cls.length cc, .slice al levels.length cl, .int .i64 code, .int .i64 env] 27 (0, 0)) from hw1 ▸ blk_old (blk_new w _ rfl))
  have KR := Lib.hid (show w1.heap[w.heap.size + 1]? = some (.cells #[.int .i64 0, .slice none 0 0, .slice none 0 0, .slice none 0 0, .slice none 0 0, .slice none 0 0, .int .i64 0, .int .i64 0] 27 (0, 0)) from hw1 ▸ hsz ▸ blk_new (w.alloc (.cells #[.int .i64 kk, .slice ai n ci, .slice ap parts.length cp, .slice an names.length cn, .slice ac cls.length cc, .slice al levels.length cl, .int .i64 code, .int .i64 env] 27)) (.cells #[.int .i64 0, .slice none 0 0, .slice none 0 0, .slice none 0 0, .slice none 0 0, .slice none 0 0, .int .i64 0, .int .i64 0] 27) rfl)
  rw [hw1]
  clear hw1 hsz
  with_reducible refine (C1.out _ B1.out).mono ?_
  rintro e w2 ⟨rfl, b⟩
  have B2 := Lib.hid (below_then B1.out b)
  have KA2 := Lib.hid (blk_below b KA.out)
  have KR2 := Lib.hid (blk_below b KR.out)
  clear b
  by_cases q : ValidV VV
  · rw [bB_yes q]
    obtain ⟨k0, k1, k2, k3, k4, k5, k6, k7⟩ := vec8 KA2.out
    by_cases hc : Counts VV
    · have XV1 := Lib.hid (XV.out q hc)
      have XS1 := Lib.hid (notS_yes q hc)
      have hl := XL.out q hc
      have HC := XC.out.1 hc
      have SLO := Lib.hid (SL.out _ B2.out HC.1 HC.2 (XN.out q hc))
      clear q hc HC XN XL XV SL
      obtain ⟨f, hf⟩ : ∃ f : Nat → Int, (fun i => truthI (items.getD i noI)) = f := ⟨_, rfl⟩
      have EV := Lib.hid (show (fun i => logI (nL (truthI (items.getD i noI)))) = (fun i => logI (nL (f i))) by rw [← hf])
      rw [EV.out] at XV1
      rw [hf] at SLO
      clear hf EV
      have LC := Lib.hid (fun (W : World) (sa : Option Addr) (c : Nat) (h : IntsAt W.heap.size W sa n (fun i => nL (f i))) => (by
        have h' := specLogVec sa n c (fun i => nL (f i)) W.heap.size W h (Nat.le_refl _) (by omega)
        rw [if_pos hl] at h'
        exact h' : Calls Try.prog 13 #[.slice sa n c] W (ResV 1 (vecOf 1 (itF (fun i => logI (nL (f i))) n)) W)))
      go_wp2_with fail
      with_reducible refine SLO.out.mono ?_
      rintro e w3 ⟨sa, c, rfl, hrow, b⟩
      have B3 := Lib.hid (below_then B2.out b)
      have KA3 := Lib.hid (blk_below b KA2.out)
      have KR3 := Lib.hid (blk_below b KR2.out)
      have TL := Lib.hid (TurnL.start (w := w) hrow (by have := (Array.getElem?_eq_some_iff.1 KR2.out).1; omega))
      clear b hrow k0 k1 k2 k3 k4 k5 k6 k7 SLO
      go_wp2
      go_loopw [6] (fun i wr => ∃ k : Nat, k ≤ n ∧ i = .int .i64 k ∧ TurnL w wr sa n k f ∧ Below w.heap.size w wr ∧ wr.heap[w.heap.size]? = some (.cells #[.int .i64 kk, .slice ai n ci, .slice ap parts.length cp, .slice an names.length cn, .slice ac cls.length cc, .slice al levels.length cl, .int .i64 code, .int .i64 env] 27 (0, 0)) ∧ wr.heap[w.heap.size + 1]? = some (.cells #[.int .i64 0, .slice none 0 0, .slice none 0 0, .slice none 0 0, .slice none 0 0, .slice none 0 0, .int .i64 0, .int .i64 0] 27 (0, 0))) (fun i _ => n - (intOf i).toNat)
      case atStart => exact ⟨0, Nat.zero_le _, rfl, TL.out, B3.out, KA3.out, KR3.out⟩
      case round =>
        obtain ⟨k, hk, rfl, htl, hb, hka, hkr⟩ := hrel
        have BB := Lib.hid hb
        have KA4 := Lib.hid hka
        have KR4 := Lib.hid hkr
        clear hb hka hkr
        by_cases hlt : k < n
        · obtain ⟨b, C, rfl, hB2, hC, hnC, hr⟩ : ∃ b C, sa = some ⟨b, 0, none⟩ ∧ w.heap.size + 2 ≤ b ∧ wr.heap[b]? = some (.cells C 3 (0, 0)) ∧ n ≤ C.size ∧ ∀ i, i < n → C[i]? = some (.int .i64 (if i < k then nL (f i) else f i)) := by
            rcases htl with h0 | h
            · omega
            · exact h
          have CK := Lib.hid hC
          have HR := Lib.hid hr
          have c0 : wr.cell? ⟨b, k, none⟩ = some (.int .i64 (f k)) := cellOf hC (by rw [hr k hlt, if_neg (Nat.lt_irrefl k)])
          have f0 : wr.frozen? ⟨b, k, none⟩ = false := freeOf hC
          have CN := Lib.hid (fun W => specNotL (f k) W)
          clear htl hC hr
          go_wp2_with fail
          with_reducible refine (CN.out _).mono ?_
          rintro e w' ⟨rfl, rfl⟩
          have NX := Lib.hid (show TurnL w (wr.setCell ⟨b, k, none⟩ (.int .i64 (nL (f k)))) (some ⟨b, 0, none⟩) n (k + 1) f from .inr ⟨b, _, rfl, hB2, Joins.block_setCell CK.out _, by simpa using hnC, fun i hi => by
            by_cases e : i = k
            · subst e
              rw [if_pos (Nat.lt_succ_self i)]
              have : i < C.size := by omega
              simp [this]
            · rw [Array.getElem?_setIfInBounds_ne (by omega), HR.out i hi]
              by_cases h : i < k
              · rw [if_pos h, if_pos (by omega)]
              · rw [if_neg h, if_neg (by omega)]⟩)
          have BN := Lib.hid (BB.out.setCell (p := ⟨b, k, none⟩) (show w.heap.size ≤ b by omega) (.int .i64 (nL (f k))))
          have KAN := Lib.hid (show (wr.setCell ⟨b, k, none⟩ (.int .i64 (nL (f k)))).heap[w.heap.size]? = _ from (Below.heap_setCell _ _ _ _ (by show w.heap.size ≠ b; omega)).trans KA4.out)
          have KRN := Lib.hid (show (wr.setCell ⟨b, k, none⟩ (.int .i64 (nL (f k)))).heap[w.heap.size + 1]? = _ from (Below.heap_setCell _ _ _ _ (by show w.heap.size + 1 ≠ b; omega)).trans KR4.out)
          go_wp2
          go_roundw
          case rel => exact ⟨k + 1, by omega, by go_num, NX.out, BN.out, KAN.out, KRN.out⟩
          case measure => simp [intOf]; omega
        · obtain rfl : k = n := by omega
          have HI := Lib.hid (TurnL.ints htl)
          clear htl
          obtain ⟨k0, k1, k2, k3, k4, k5, k6, k7⟩ := vec8 KA4.out
          go_wp2_with fail
          with_reducible refine (LC.out _ _ _ HI.out).mono ?_
          rintro e w5 ⟨y, rfl, ho, hb⟩
          obtain ⟨yk, ya1, yn1, ym1, ya2, yn2, ym2, ya3, yn3, ym3, ya4, yn4, ym4, ya5, yn5, ym5, yc, ye, rfl⟩ := ho.agg
          have B5 := Lib.hid (below_then BB.out hb)
          have KA5 := Lib.hid (blk_below hb KA4.out)
          have KR5 := Lib.hid (blk_below hb KR4.out)
          have hr5 := (Array.getElem?_eq_some_iff.1 KR4.out).1
          have HO := Lib.hid ho
          have hs5 := hb.size
          clear ho hb k0 k1 k2 k3 k4 k5 k6 k7
          obtain ⟨w6, hw6⟩ : ∃ W, (w5.alloc (.cells #[.int .i64 yk, .slice ya1 yn1 ym1, .slice ya2 yn2 ym2, .slice ya3 yn3 ym3, .slice ya4 yn4 ym4, .slice ya5 yn5 ym5, .int .i64 yc, .int .i64 ye] 27)).alloc (.cells #[] 9) = W := ⟨_, rfl⟩
          have hsz : (w5.alloc (.cells #[.int .i64 yk, .slice ya1 yn1 ym1, .slice ya2 yn2 ym2, .slice ya3 yn3 ym3, .slice ya4 yn4 ym4, .slice ya5 yn5 ym5, .int .i64 yc, .int .i64 ye] 27)).heap.size = w5.heap.size + 1 := by simp
          have b6 : Below w5.heap.size w5 w6 := hw6 ▸ (below1 w5 _).alloc (by simp) _
          have KY := Lib.hid (show w6.heap[w5.heap.size]? = some (.cells #[.int .i64 yk, .slice ya1 yn1 ym1, .slice ya2 yn2 ym2, .slice ya3 yn3 ym3, .slice ya4 yn4 ym4, .slice ya5 yn5 ym5, .int .i64 yc, .int .i64 ye] 27 (0, 0)) from hw6 ▸ blk_old (blk_new w5 _ rfl))
          have KS := Lib.hid (show w6.heap[w5.heap.size + 1]? = some (.cells #[] 9 (0, 0)) from hw6 ▸ hsz ▸ blk_new (w5.alloc (.cells #[.int .i64 yk, .slice ya1 yn1 ym1, .slice ya2 yn2 ym2, .slice ya3 yn3 ym3, .slice ya4 yn4 ym4, .slice ya5 yn5 ym5, .int .i64 yc, .int .i64 ye] 27)) (.cells #[] 9) rfl)
          have B6 := Lib.hid (below_then B5.out b6)
          have KA6 := Lib.hid (blk_below b6 KA5.out)
          have KR6 := Lib.hid (blk_below b6 KR5.out)
          have HO6 := Lib.hid (HO.out.below b6 (Nat.le_refl _))
          have EW := Lib.hid hw6
          have hltA : w.heap.size < w5.heap.size := by omega
          have hsy := (Array.getElem?_eq_some_iff.1 KY.out).1
          have hss := (Array.getElem?_eq_some_iff.1 KS.out).1
          clear b6 hw6 hsz
          obtain ⟨k0, k1, k2, k3, k4, k5, k6, k7⟩ := vec8 KA5.out
          go_wp2_with (at_builtin; rw [EW.out]; refine wpList_copyTexts rfl _ _ rfl (w5.heap.size + 1) _ rfl (.inr ⟨w5.heap.size + 1, Nat.le_refl _, rfl, KS.out⟩) an cn names lo hi rfl (HT.out _ B6.out) ln (by omega) ?_)
          intro v' w7 hcp hb7
          obtain ⟨na, nc, Fn, rfl, hT, hnd, hrg, hcap⟩ := hcp
          have KY7 := Lib.hid ((hb7.block _ (Nat.lt_succ_self _)).trans KY.out)
          have KR7 := Lib.hid ((hb7.block _ (by omega)).trans KR6.out)
          have HO7 := Lib.hid (HO6.out.belowB hb7 (Nat.le_succ _))
          have B7 := Lib.hid (B6.out.trans (hb7.mono (by omega)))
          have S67 := Lib.hid hb7.size
          have ky3 : w7.cell? ⟨w5.heap.size, 3, none⟩ = some (.slice ya3 yn3 ym3) := cellOf KY7.out rfl
          have fy3 : w7.frozen? ⟨w5.heap.size, 3, none⟩ = false := freeOf KY7.out
          have HT7 := Lib.hid hT
          have HR7 := Lib.hid hrg
          have HN7 := Lib.hid hnd
          clear hT hrg hnd hb7 k0 k1 k2 k3 k4 k5 k6 k7
          go_upto_region 12 with (fail)
          obtain ⟨w8, hw8⟩ : ∃ W, w7.setCell ⟨w5.heap.size, 3, none⟩ (.slice na names.length nc) = W := ⟨_, rfl⟩
          have KY8 := Lib.hid (show w8.heap[w5.heap.size]? = some (.cells #[.int .i64 yk, .slice ya1 yn1 ym1, .slice ya2 yn2 ym2, .slice na names.length nc, .slice ya4 yn4 ym4, .slice ya5 yn5 ym5, .int .i64 yc, .int .i64 ye] 27 (0, 0)) from hw8 ▸ Joins.block_setCell KY7.out _)
          have KR8 := Lib.hid (show w8.heap[w.heap.size + 1]? = some (.cells #[.int .i64 0, .slice none 0 0, .slice none 0 0, .slice none 0 0, .slice none 0 0, .slice none 0 0, .int .i64 0, .int .i64 0] 27 (0, 0)) from hw8 ▸ (Below.heap_setCell _ _ _ _ (by show w.heap.size + 1 ≠ w5.heap.size; omega)).trans KR7.out)
          have B8 := Lib.hid (show Below w.heap.size w w8 from hw8 ▸ B7.out.setCell (p := ⟨w5.heap.size, 3, none⟩) (show w.heap.size ≤ w5.heap.size by omega) _)
          have FIN := Lib.hid (show Own 1 (mkN 1 (itF (fun i => logI (nL (f i))) k) names) (.agg #[.int .i64 yk, .slice ya1 yn1 ym1, .slice ya2 yn2 ym2, .slice na names.length nc, .slice ya4 yn4 ym4, .slice ya5 yn5 ym5, .int .i64 yc, .int .i64 ye]) wr.heap.size w8.heap.size w8 from by
            have h8 : w8.heap.size = w7.heap.size := by rw [← hw8]; simp
            have ho : Own 1 (vecOf 1 (itF (fun i => logI (nL (f i))) k)) (.agg #[.int .i64 yk, .slice ya1 yn1 ym1, .slice ya2 yn2 ym2, .slice ya3 yn3 ym3, .slice ya4 yn4 ym4, .slice ya5 yn5 ym5, .int .i64 yc, .int .i64 ye]) wr.heap.size w5.heap.size w8 := hw8 ▸ HO7.out.setOut (Nat.le_refl _)
            have ht : OwnTxs w8 na names Fn := hw8 ▸ HT7.out.kept (fun g hg => Below.heap_setCell _ _ _ _ (by have := HR7.out g hg; show g ≠ w5.heap.size; omega))
            rw [h8]
            exact ho.setNames ht HN7.out HR7.out hcap (Nat.le_succ _) (by omega) (by have := S67.out; omega))
          rw [hw8]
          clear hw8 ky3 fy3
          obtain ⟨k0, k1, k2, k3, k4, k5, k6, k7⟩ := vec8 KY8.out
          obtain ⟨z0, z1, z2, z3, z4, z5, z6, z7⟩ := vec8 KR8.out
          obtain ⟨f0, f1, f2, f3, f4, f5, f6, f7⟩ := free8 KR8.out
          go_wp2
          rw [XV1.out, XS1.out]
          exact vec_endS rfl rfl rfl rfl KR8.out ⟨_, rfl, (FIN.out.put8 hr5 _ _ _ _ _ _ _ _).wide (by omega) (by rw [put8_size]; exact Nat.le_refl _), put8_below B8.out (Nat.le_succ _)⟩
    · have XV1 := Lib.hid (notV_non hc)
      have XS1 := Lib.hid (notS_non q hc)
      have SN := Lib.hid (fun W => specLogN kk ai ap an ac al n ci parts.length cp names.length cn cls.length cc levels.length cl code env W (fun h => hc (XC.out.2 h)))
      clear q hc
      go_wp2_with fail
      with_reducible refine (SN.out _).mono ?_
      rintro e w3 ⟨⟨sa, c, rfl⟩, b⟩
      have B3 := Lib.hid (below_then B2.out b)
      have K0 := Lib.hid (blk_below b KR2.out)
      clear b k0 k1 k2 k3 k4 k5 k6 k7
      obtain ⟨z0, z1, z2, z3, z4, z5, z6, z7⟩ := vec8 K0.out
      obtain ⟨f0, f1, f2, f3, f4, f5, f6, f7⟩ := free8 K0.out
      go_wp2
      rw [XV1.out, XS1.out]
      exact vec_endS rfl rfl rfl rfl K0.out (zeroS _ w _ (put8_below B3.out (Nat.le_succ _)))
  · rw [bB_no q]
    have XV1 := Lib.hid (notV_bad q)
    have XS1 := Lib.hid (notS_bad q)
    clear q
    go_wp2_with fail
    with_reducible refine (BD.out _).mono ?_
    rintro e w3 ⟨rfl, b⟩
    have B3 := Lib.hid (below_then B2.out b)
    have K0 := Lib.hid (blk_below b KR2.out)
    clear b
    obtain ⟨z0, z1, z2, z3, z4, z5, z6, z7⟩ := vec8 K0.out
    obtain ⟨f0, f1, f2, f3, f4, f5, f6, f7⟩ := free8 K0.out
    go_wp2
    rw [XV1.out, XS1.out]
    exact vec_endS rfl rfl rfl rfl K0.out (zeroS _ w _ (put8_below B3.out (Nat.le_succ _)))
end Go.Proofs.Yteigfhenbmhepaa

/- Laws whose argument is a vector and whose result is one. -/
namespace Go.Proofs.Yteigfhenbmhepaa
open Go.RowKit
set_option maxRecDepth 100000
set_option linter.unusedVariables false

theorem VecAt.agg {lo hi : Nat} {w : World} {d : Nat} {v : Vec} {y : Value} (h : VecAt lo hi w d v y) : ∃ (k : Int) (a1 : Option Addr) (n1 m1 : Nat) (a2 : Option Addr) (n2 m2 : Nat) (a3 : Option Addr) (n3 m3 : Nat) (a4 : Option Addr) (n4 m4 : Nat) (a5 : Option Addr) (n5 m5 : Nat) (code env : Int), y = .agg #[.int .i64 k, .slice a1 n1 m1, .slice a2 n2 m2, .slice a3 n3 m3, .slice a4 n4 m4, .slice a5 n5 m5, .int .i64 code, .int .i64 env] := by
  obtain ⟨k, items, parts, names, cls, levels, code, env⟩ := v
  obtain ⟨d', ai, ci, ap, cp, an, cn, ac, cc, al, cl, ed, e, _⟩ := vecAt_open h
  exact ⟨_, _, _, _, _, _, _, _, _, _, _, _, _, _, _, _, _, _, e⟩
theorem toVecR (d : Nat) (v : Vec) (x : Value) (lo hi : Nat) (w : World) (hv : VecAt lo hi w d v x) (hhi : hi ≤ w.heap.size) (hsm : Small d v) :
    Calls Try.prog 39 #[x] w (ResV d v w) := by
  refine ((toAll d).out v x lo hi w hv hhi hsm).mono ?_
  rintro e w' ⟨y, F, rfl, ho, hn, hr, hb⟩
  exact ⟨y, rfl, ⟨F, ho, hn, hr⟩, hb⟩
theorem markOwnX (d : Nat) (V : Vec) (y : Value) (lo hi : Nat) (w : World) (h : Own d V y lo hi w) (hh : hi ≤ w.heap.size) (hs : Small d V) (hc : 1 + cntM d V ≤ 8000000) :
    Calls Try.prog 19 #[y, .int .i64 1] w fun e w' => e = .returned (.int .i64 ((1 + cntM d V : Nat) : Int)) ∧ Within lo hi w w' := by
  refine (markOwn d V y lo hi w h hh hs hc).mono ?_
  rintro e w' ⟨rfl, _, t⟩
  exact ⟨rfl, t⟩
/-- The zero value, or a vector of items and names that fit. -/
def PlainN (V : Vec) : Prop := V = noV ∨ ∃ k l names, V = mkN k l names ∧ (-9223372036854775808 ≤ k ∧ k ≤ 9223372036854775807) ∧ l.length ≤ 40 ∧ (∀ x ∈ l, InB x ∧ x.t.size ≤ 1048576) ∧ names.length ≤ 1048576 ∧ ∀ s ∈ names, s.size ≤ 1048576
theorem PlainN.small {V : Vec} (h : PlainN V) : Small 1 V := by
  rcases h with rfl | ⟨k, l, names, rfl, hk, hl, hx, hn, hs⟩
  · exact small_noV
  · exact small_mkN (by omega) (fun x h => (hx x h).2) hn hs
theorem PlainN.fits {V : Vec} (h : PlainN V) : Fits 1 V := by
  rcases h with rfl | ⟨k, l, names, rfl, hk, hl, hx, hn, hs⟩
  · exact fits_noV
  · exact fits_mkN hk (by omega) (fun x h => (hx x h).1) hn hs
theorem PlainN.cnt {V : Vec} (h : PlainN V) : 1 + cntM 1 V ≤ 8000000 := by
  rcases h with rfl | ⟨k, l, names, rfl, hk, hl, hx, hn, hs⟩
  · rw [cnt_noV]; omega
  · rw [cnt_mkN]; omega
end Go.Proofs.Yteigfhenbmhepaa

/- Rows of vectors that a call builds by append. -/
namespace Go.Proofs.Yteigfhenbmhepaa
open Go.RowKit
set_option maxRecDepth 100000
set_option linter.unusedVariables false

def cl8 : Value → List Value
  | .agg cs => cs.toList
  | _ => []
def Is8 (v : Value) : Prop := ∃ c0 c1 c2 c3 c4 c5 c6 c7, v = .agg #[c0, c1, c2, c3, c4, c5, c6, c7]
theorem OwnVec.is8 {w : World} {d : Nat} {v : Vec} {y : Value} {F : List Nat} (h : OwnVec w d v y F) : Is8 y := by
  obtain ⟨k, a1, n1, m1, a2, n2, m2, a3, n3, m3, a4, n4, m4, a5, n5, m5, code, env, rfl⟩ := h.agg
  exact ⟨_, _, _, _, _, _, _, _, rfl⟩
theorem flat8_len : ∀ vals : List Value, (∀ v ∈ vals, Is8 v) → (vals.flatMap cl8).length = vals.length * 8
  | [], _ => rfl
  | v :: vals, h => by
    obtain ⟨c0, c1, c2, c3, c4, c5, c6, c7, rfl⟩ := h v (List.mem_cons_self ..)
    have := flat8_len vals (fun x hx => h x (List.mem_cons_of_mem _ hx))
    simp only [List.flatMap_cons, List.length_append, this, cl8, List.length_cons, List.length_nil]
    omega
theorem flat8_at : ∀ (vals : List Value), (∀ v ∈ vals, Is8 v) → ∀ i, i < vals.length → ∃ c0 c1 c2 c3 c4 c5 c6 c7, vals.getD i undef = .agg #[c0, c1, c2, c3, c4, c5, c6, c7] ∧
    (vals.flatMap cl8)[i * 8]? = some c0 ∧ (vals.flatMap cl8)[i * 8 + 1]? = some c1 ∧ (vals.flatMap cl8)[i * 8 + 2]? = some c2 ∧ (vals.flatMap cl8)[i * 8 + 3]? = some c3 ∧ (vals.flatMap cl8)[i * 8 + 4]? = some c4 ∧ (vals.flatMap cl8)[i * 8 + 5]? = some c5 ∧ (vals.flatMap cl8)[i * 8 + 6]? = some c6 ∧ (vals.flatMap cl8)[i * 8 + 7]? = some c7
  | [], _, _, h => by cases h
  | v :: vals, h, 0, _ => by
    obtain ⟨c0, c1, c2, c3, c4, c5, c6, c7, rfl⟩ := h v (List.mem_cons_self ..)
    exact ⟨c0, c1, c2, c3, c4, c5, c6, c7, rfl, rfl, rfl, rfl, rfl, rfl, rfl, rfl, rfl⟩
  | v :: vals, h, i + 1, hi => by
    obtain ⟨d0, d1, d2, d3, d4, d5, d6, d7, rfl⟩ := h v (List.mem_cons_self ..)
    obtain ⟨c0, c1, c2, c3, c4, c5, c6, c7, e, m⟩ := flat8_at vals (fun x hx => h x (List.mem_cons_of_mem _ hx)) i (by simpa using hi)
    refine ⟨c0, c1, c2, c3, c4, c5, c6, c7, by simpa using e, ?_⟩
    have key : ∀ j, ((Value.agg #[d0, d1, d2, d3, d4, d5, d6, d7] :: vals).flatMap cl8)[(i + 1) * 8 + j]? = (vals.flatMap cl8)[i * 8 + j]? := fun j => by
      have e1 : (i + 1) * 8 + j = (i * 8 + j) + 8 := by omega
      rw [e1]; rfl
    have k0 := key 0
    simp only [Nat.add_zero] at k0
    rw [k0, key 1, key 2, key 3, key 4, key 5, key 6, key 7]
    exact m
/-- A slice of vectors, each with its own blocks. -/
def OwnParts (w : World) (d : Nat) (v : Value) (parts : List Vec) (F : List Nat) : Prop := ∃ ap cp, v = .slice ap parts.length cp ∧ parts.length ≤ cp ∧
  ((parts = [] ∧ F = []) ∨ ∃ b C, ∃ Fs : List (List Nat), F = b :: Fs.flatten ∧ Fs.length = parts.length ∧ ap = some ⟨b, 0, none⟩ ∧ w.heap[b]? = some (.cells C 27 (0, 0)) ∧ parts.length * 8 ≤ C.size ∧
    ∀ i, i < parts.length → ∃ val, OwnVec w d (parts.getD i noV) val (Fs.getD i []) ∧ Eight C i val)
/-- What a loop that appends vectors keeps. -/
structure RowV (w wr : World) (d : Nat) (parts : List Vec) (k : Nat) (v : Value) : Prop where
  ex : ∃ (vals : List Value) (Fs : List (List Nat)), vals.length = k ∧ Fs.length = k ∧ wr.ownsRow w.heap.size 27 8 v k (vals.flatMap cl8) ∧
    (∀ i, i < k → OwnVec wr d (parts.getD i noV) (vals.getD i undef) (Fs.getD i [])) ∧ Fs.flatten.Nodup ∧ (∀ b ∈ Fs.flatten, w.heap.size ≤ b ∧ b < wr.heap.size ∧ v.ownBlock ≠ some b)
  below : Below w.heap.size w wr
theorem RowV.start (w : World) (d : Nat) (parts : List Vec) : RowV w w d parts 0 (.slice none 0 0) :=
  ⟨⟨[], [], rfl, rfl, ⟨rfl, .inl ⟨rfl, rfl⟩⟩, fun i h => absurd h (Nat.not_lt_zero _), List.nodup_nil, fun b h => by cases h⟩, Below.refl _ _⟩
theorem RowV.is8 {vals : List Value} {k d : Nat} {parts : List Vec} {Fs : List (List Nat)} {wr : World} (hl : vals.length = k) (h : ∀ i, i < k → OwnVec wr d (parts.getD i noV) (vals.getD i undef) (Fs.getD i [])) : ∀ v ∈ vals, Is8 v := by
  intro v hv
  obtain ⟨i, hi, e⟩ := mem_getD (z := undef) hv
  rw [← e]
  exact (h i (by omega)).is8
theorem RowV.row {w wr : World} {d k : Nat} {parts : List Vec} {v : Value} (h : RowV w wr d parts k v) : ∃ xs, wr.ownsRow w.heap.size 27 8 v k xs := by
  obtain ⟨vals, Fs, _, _, hr, _⟩ := h.ex
  exact ⟨_, hr⟩
/-- Behind the copy of an element and the slice of one. -/
theorem RowV.keep {w wr w1 : World} {d k : Nat} {parts : List Vec} {v : Value} (h : RowV w wr d parts k v) (hb : Below wr.heap.size wr w1) : RowV w w1 d parts k v := by
  obtain ⟨vals, Fs, h1, h2, h3, h4, h5, h6⟩ := h.ex
  exact ⟨⟨vals, Fs, h1, h2, ownsRow_below h3 hb, fun i hi => (h4 i hi).kept _ _ _ _ (fun b hb' => hb.block b (h6 b (mem_flat (by omega) hb')).2.1), h5, fun b hb' => ⟨(h6 b hb').1, Nat.lt_of_lt_of_le (h6 b hb').2.1 hb.size, (h6 b hb').2.2⟩⟩, below_then h.below hb⟩
theorem RowV.next {w wr w1 w2 : World} {d k : Nat} {parts : List Vec} {v v' : Value} {c0 c1 c2 c3 c4 c5 c6 c7 : Value} {s1 : Nat} (h : RowV w wr d parts k v) (ho : Own d (parts.getD k noV) (.agg #[c0, c1, c2, c3, c4, c5, c6, c7]) s1 w1.heap.size w1) (hs : wr.heap.size ≤ s1) (hb : Below wr.heap.size wr w1)
    (hg : (w1.alloc (.cells #[c0, c1, c2, c3, c4, c5, c6, c7] 27)).grownBy w2 v.ownBlock) (hr : ∀ xs, wr.ownsRow w.heap.size 27 8 v k xs → w2.ownsRow w.heap.size 27 8 v' (k + 1) (xs ++ [c0, c1, c2, c3, c4, c5, c6, c7])) (hv : v'.ownBlock = v.ownBlock ∨ v'.ownBlock = some (w1.alloc (.cells #[c0, c1, c2, c3, c4, c5, c6, c7] 27)).heap.size) : RowV w w2 d parts (k + 1) v' := by
  obtain ⟨vals, Fs, h1, h2, h3, h4, h5, h6⟩ := h.ex
  obtain ⟨F, g1, g2, g3⟩ := ho.out
  have hsz : (w1.alloc (.cells #[c0, c1, c2, c3, c4, c5, c6, c7] 27)).heap.size = w1.heap.size + 1 := by simp
  have hbs := hb.size
  have hown : ∀ j, v.ownBlock = some j → w.heap.size ≤ j ∧ j < wr.heap.size := h3.lt
  have keep : ∀ b, b < w1.heap.size → v.ownBlock ≠ some b → w2.heap[b]? = w1.heap[b]? := fun b hb1 hb2 => (hg.block b (by omega) (fun e => hb2 e.symm)).trans ((below1 w1 _).block b hb1)
  have old : ∀ b ∈ Fs.flatten, w2.heap[b]? = wr.heap[b]? := fun b hb' => (keep b (by have := h6 b hb'; omega) (h6 b hb').2.2).trans (hb.block b (h6 b hb').2.1)
  have new : ∀ b ∈ F, w2.heap[b]? = w1.heap[b]? := fun b hb' => keep b (g3 b hb').2 (fun e => by have := hown b e; have := g3 b hb'; omega)
  refine ⟨⟨vals ++ [Value.agg #[c0, c1, c2, c3, c4, c5, c6, c7]], Fs ++ [F], by simp [h1], by simp [h2], ?_, fun i hi => ?_, ?_, fun b hb' => ?_⟩, ?_⟩
  · have := hr _ h3
    rw [List.flatMap_append]
    exact this
  · by_cases e : i = k
    · subst e
      have e1 : (vals ++ [Value.agg #[c0, c1, c2, c3, c4, c5, c6, c7]]).getD i undef = .agg #[c0, c1, c2, c3, c4, c5, c6, c7] := by rw [List.getD_eq_getElem?_getD, List.getElem?_append_right (by omega)]; simp [h1]
      have e2 : (Fs ++ [F]).getD i [] = F := by rw [List.getD_eq_getElem?_getD, List.getElem?_append_right (by omega)]; simp [h2]
      rw [e1, e2]
      exact g1.kept _ _ _ _ new
    · have e1 : (vals ++ [Value.agg #[c0, c1, c2, c3, c4, c5, c6, c7]]).getD i undef = vals.getD i undef := by rw [List.getD_eq_getElem?_getD, List.getD_eq_getElem?_getD, List.getElem?_append_left (by omega)]
      have e2 : (Fs ++ [F]).getD i [] = Fs.getD i [] := by rw [List.getD_eq_getElem?_getD, List.getD_eq_getElem?_getD, List.getElem?_append_left (by omega)]
      rw [e1, e2]
      exact (h4 i (by omega)).kept _ _ _ _ (fun b hb' => old b (mem_flat (by omega) hb'))
  · rw [List.flatten_append, List.nodup_append]
    refine ⟨h5, by simpa using g2, fun x hx y hy e => ?_⟩
    have h7 := h6 x hx
    have h8 := g3 y (by simpa using hy)
    omega
  · have hw2 := hg.size
    rw [List.flatten_append, List.mem_append] at hb'
    rcases hb' with hb' | hb'
    · have h7 := h6 b hb'
      refine ⟨h7.1, by omega, fun e => ?_⟩
      rcases hv with hv | hv
      · exact h7.2.2 (hv ▸ e)
      · rw [e, hsz] at hv; have := Option.some.inj hv; omega
    · have hb'' : b ∈ F := by simpa using hb'
      have h7 := g3 b hb''
      have h8 := h.below.size
      refine ⟨by omega, by omega, fun e => ?_⟩
      rcases hv with hv | hv
      · have := hown b (hv ▸ e); omega
      · rw [e, hsz] at hv; have := Option.some.inj hv; omega
  · have h8 := h.below.size
    exact ((below_then h.below hb).alloc (by omega) _).grown hg (by omega) (fun r hr' => (hown r hr').1)
theorem RowV.parts {w wr : World} {d : Nat} {parts : List Vec} {v : Value} (h : RowV w wr d parts parts.length v) : ∃ F, OwnParts wr d v parts F ∧ F.Nodup ∧ ∀ b ∈ F, w.heap.size ≤ b ∧ b < wr.heap.size := by
  obtain ⟨vals, Fs, h1, h2, ⟨hl, h3⟩, h4, h5, h6⟩ := h.ex
  rcases h3 with ⟨rfl, h0⟩ | ⟨g, cap, cur, rfl, hB, hg, hc, _, hs, ht⟩
  · have hp : parts = [] := List.eq_nil_of_length_eq_zero h0
    subst hp
    exact ⟨[], ⟨none, 0, rfl, Nat.le_refl _, .inl ⟨rfl, rfl⟩⟩, List.nodup_nil, fun _ hb => by cases hb⟩
  · have hgl := (Array.getElem?_eq_some_iff.1 hg).1
    refine ⟨g :: Fs.flatten, ⟨_, cap, rfl, hc, .inr ⟨g, cur, Fs, rfl, h2, rfl, hg, by omega, fun i hi => ⟨_, h4 i hi, ?_⟩⟩⟩, ?_, ?_⟩
    · obtain ⟨c0, c1, c2, c3, c4, c5, c6, c7, e, m0, m1, m2, m3, m4, m5, m6, m7⟩ := flat8_at vals (RowV.is8 h1 h4) i (by omega)
      have key : ∀ j, j < parts.length * 8 → cur[j]? = (vals.flatMap cl8)[j]? := fun j hj => by
        rw [← ht, List.getElem?_take_of_lt hj, Array.getElem?_toList]
      refine ⟨c0, c1, c2, c3, c4, c5, c6, c7, e, ?_, ?_, ?_, ?_, ?_, ?_, ?_, ?_⟩
      · rw [key _ (by omega)]; exact m0
      · rw [key _ (by omega)]; exact m1
      · rw [key _ (by omega)]; exact m2
      · rw [key _ (by omega)]; exact m3
      · rw [key _ (by omega)]; exact m4
      · rw [key _ (by omega)]; exact m5
      · rw [key _ (by omega)]; exact m6
      · rw [key _ (by omega)]; exact m7
    · rw [List.nodup_cons]
      exact ⟨fun hm => (h6 g hm).2.2 rfl, h5⟩
    · intro b hb
      rcases List.mem_cons.1 hb with rfl | hb
      · exact ⟨hB, hgl⟩
      · exact ⟨(h6 b hb).1, (h6 b hb).2.1⟩
end Go.Proofs.Yteigfhenbmhepaa

/- The program's copies of vectors. -/
namespace Go.Proofs.Yteigfhenbmhepaa
open Go.RowKit
set_option maxRecDepth 100000
set_option linter.unusedVariables false

theorem OwnParts.kept {w w1 : World} {d : Nat} {v : Value} {parts : List Vec} {F : List Nat} (h : OwnParts w d v parts F) (k : ∀ b ∈ F, w1.heap[b]? = w.heap[b]?) : OwnParts w1 d v parts F := by
  obtain ⟨ap, cp, e, hc, h⟩ := h
  refine ⟨ap, cp, e, hc, h.imp id ?_⟩
  rintro ⟨b, C, Fs, rfl, hl, ea, hb, hn, hp⟩
  exact ⟨b, C, Fs, rfl, hl, ea, (k b (by simp)).trans hb, hn, fun i hi => by
    obtain ⟨val, hv, m⟩ := hp i hi
    exact ⟨val, hv.kept _ _ _ _ (fun b' hb' => k b' (by have := mem_flat (by omega) hb'; simp only [List.mem_cons]; exact .inr this)), m⟩⟩
theorem ownsRow_same {w : World} {base : Nat} {el : TypeId} {size n : Nat} {v : Value} {xs ys : List Value} (h : w.ownsRow base el size v n xs) (k : w.ownsRow base el size v n ys) : xs = ys := by
  obtain ⟨hl, h⟩ := h
  obtain ⟨kl, k⟩ := k
  rcases h with ⟨rfl, h0⟩ | ⟨g, cap, cur, rfl, hB, hg, hc, _, hs, ht⟩
  · subst h0
    have hx : xs = [] := List.eq_nil_of_length_eq_zero (by simpa using hl)
    have hy : ys = [] := List.eq_nil_of_length_eq_zero (by simpa using kl)
    rw [hx, hy]
  · rcases k with ⟨e, _⟩ | ⟨g', cap', cur', e, _, hg', _, _, _, ht'⟩
    · simp at e
    · simp only [Value.slice.injEq, Option.some.injEq, Addr.mk.injEq, and_true, true_and] at e
      obtain ⟨rfl, rfl⟩ := e
      rw [hg] at hg'
      simp only [Option.some.injEq, Obj.cells.injEq, and_true] at hg'
      rw [← ht, ← ht', hg']
/-- A copy of items. -/
def CopyIt (base : Nat) (l : List It) (v : Value) (w : World) : Prop := ∃ sa sc F, v = .slice sa l.length sc ∧ OwnIts w sa l F ∧ F.Nodup ∧ (∀ b ∈ F, base ≤ b ∧ b < w.heap.size) ∧ l.length ≤ sc
theorem run_app0I {w : World} {dst : Value} {ty : TypeId} (hd : dst = .slice none 0 0 ∨ ∃ g, dst = .slice (some ⟨g, 0, none⟩) 0 0) (ad : Option Addr) (c : Nat) :
    (Builtin.append_ #[23, 23] ty #[dst, .slice ad 0 c]).run Try.prog w = .ok dst w := by
  obtain ⟨i0, hi0, hz0, hz1, hz2⟩ := info_parts infoItm3
  rcases ad with _ | ad <;> rcases hd with rfl | ⟨g, rfl⟩ <;> simp [Builtin.append_, run_underlying Try.underlying23, sizeOf, typeInfo, hi0, Builtin.lenOf, Builtin.firstCells, loadCells, loadCellsFrom, storeCells]
theorem itCells_in {w : World} {lo hi b off : Nat} {l : List It} (h : ItemsAt lo hi w (some ⟨b, off, none⟩) l) : ∀ j u, (itCells l)[j]? = some u → w.cell? ((⟨b, off, none⟩ : Addr).add j) = some u := by
  intro j u hj
  have hlt : j < l.length * 3 := by have := (List.getElem?_eq_some_iff.1 hj).1; rw [itCells_len] at this; exact this
  obtain ⟨i, r, hr, rfl⟩ : ∃ i r, r < 3 ∧ j = i * 3 + r := ⟨j / 3, j % 3, Nat.mod_lt _ (by decide), by omega⟩
  have hi : i < l.length := by omega
  obtain ⟨b', off', e, _, _, c0, c1, c2⟩ := h i _ (List.getElem?_eq_getElem hi)
  simp only [Option.some.injEq, Addr.mk.injEq, and_true] at e
  obtain ⟨rfl, rfl⟩ := e
  obtain ⟨m0, m1, m2⟩ := itCells_at l i hi
  have e1 : l.getD i noI = l[i] := by simp [List.getD_eq_getElem?_getD, List.getElem?_eq_getElem hi]
  unfold txtI at m2
  rw [e1] at m0 m1 m2
  rw [addr_add]
  rcases (show r = 0 ∨ r = 1 ∨ r = 2 by omega) with rfl | rfl | rfl
  · simp only [Nat.add_zero] at hj ⊢
    rw [m0] at hj; rw [c0]; exact hj
  · rw [m1] at hj; rw [← Nat.add_assoc, c1]; exact hj
  · rw [m2] at hj; rw [← Nat.add_assoc, c2]; exact hj
theorem items_some {w : World} {lo hi : Nat} {a : Option Addr} {l : List It} (h : ItemsAt lo hi w a l) (hpos : 0 < l.length) : ∃ b off, a = some ⟨b, off, none⟩ := by
  obtain ⟨b, off, e, _⟩ := h 0 _ (List.getElem?_eq_getElem hpos)
  exact ⟨b, off, e⟩
theorem wpList_copyItems {w : World} {ops : Array Oper} {rest : List Oper} {o : Oper} {a : Act} {Q : Exit → Act → World → Prop} (hgd : o.guard = none) (s x : Operand)
    (ho : o.op = .call { callee := .builtin .append, args := #[s, x], argTypes := #[23, 23] }) (base : Nat) (v0 : Value) (hs : a.eval s = v0)
    (hv0 : v0 = .slice none 0 0 ∨ ∃ g, base ≤ g ∧ v0 = .slice (some ⟨g, 0, none⟩) 0 0 ∧ w.heap[g]? = some (.cells #[] 62 (0, 0)))
    (ad : Option Addr) (c : Nat) (l : List It) (lo hi : Nat) (hx : a.eval x = .slice ad l.length c) (hT : ItemsAt lo hi w ad l) (hn : l.length ≤ 1048576) (hbase : base ≤ w.heap.size)
    (h : ∀ v' w', CopyIt base l v' w' → Below base w w' → wpList Try.prog ops Q rest (a.put o.dst v') w') : wpList Try.prog ops Q (o :: rest) a w := by
  by_cases hpos : 0 < l.length
  · obtain ⟨b, off, rfl⟩ := items_some hT hpos
    obtain ⟨i0, hi0, hz0, hz1, hz2⟩ := info_parts infoItm3
    have hown : w.ownsRow base 62 3 v0 0 [] := by
      rcases hv0 with rfl | ⟨g, hg, rfl, hb⟩
      · exact ⟨rfl, .inl ⟨rfl, rfl⟩⟩
      · exact ⟨rfl, .inr ⟨g, 0, #[], rfl, hg, hb, Nat.le_refl _, Nat.zero_le _, rfl, rfl⟩⟩
    refine wpList_append_own w hgd s x 23 ho base 62 i0 _ 3 32 Try.underlying23 hi0 hz0 hz1 hz2 rfl (by decide) v0 0 [] hs hown ⟨b, off, none⟩ l.length c (itCells l) hx (by rw [itCells_len]) (itCells_in hT) (itCells_one l) (by unfold maxLen; omega) (by omega) hbase (fun v' w' h1 h2 _ => ?_)
    have h1' : w'.ownsRow base 62 3 v' l.length (itCells l) := by simpa using h1
    obtain ⟨sa, c', F, rfl, ho, hn, hr, hc⟩ := own_of_its h1'
    refine h _ _ ⟨_, _, F, rfl, ho, hn, hr, hc⟩ ((Below.refl base w).grown h2 hbase (fun r hr => (hown.lt r hr).1))
  · obtain rfl : l = [] := List.eq_nil_of_length_eq_zero (by omega)
    have hrun := fun ty => run_app0I (w := w) (ty := ty) (hv0.imp id (fun ⟨g, _, e, _⟩ => ⟨g, e⟩)) ad c
    refine wpList_plain hgd fun K hK => ?_
    have hnext := h v0 w (by
      rcases hv0 with rfl | ⟨g, _, rfl, _⟩
      · exact ⟨none, 0, [], rfl, .inl ⟨rfl, rfl⟩, List.nodup_nil, (fun _ h => by cases h), Nat.le_refl _⟩
      · exact ⟨some ⟨g, 0, none⟩, 0, [], rfl, .inl ⟨rfl, rfl⟩, List.nodup_nil, (fun _ h => by cases h), Nat.le_refl _⟩) (Below.refl _ _)
    have hx' : a.eval x = .slice ad 0 c := hx
    unfold Oper.wp
    simp [execOp, ho, resolve, invoke, builtin, hs, hx', hrun, Result.andThen]
    exact hK _ _ hnext
/-- The contracts at depth d: one vector, and a slice of them. -/
structure ICV (d : Nat) : Prop where
  out : ∀ (v : Vec) (val : Value) (lo hi : Nat) (w : World), VecAt lo hi w d v val → hi ≤ w.heap.size → Small d v → Calls Try.prog 74 #[val] w (ResV d v w)
def ResP (d : Nat) (parts : List Vec) (w : World) (e : Ending) (w' : World) : Prop := ∃ v F, e = .returned v ∧ OwnParts w' d v parts F ∧ F.Nodup ∧ (∀ b ∈ F, w.heap.size ≤ b ∧ b < w'.heap.size) ∧ Below w.heap.size w w' ∧ ∃ xs, w'.ownsRow w.heap.size 27 8 v parts.length xs
structure ICS (d : Nat) : Prop where
  out : ∀ (parts : List Vec) (a : Option Addr) (c lo hi : Nat) (w : World), VecsAt lo hi w d a parts → hi ≤ w.heap.size → (∀ i, i < parts.length → Small d (parts.getD i noV)) → parts.length ≤ 1048576 → Calls Try.prog 82 #[.slice a parts.length c] w (ResP d parts w)
set_option maxHeartbeats 4000000 in
theorem icsStep (d : Nat) (IC : ICV d) : ICS d := by
  refine ⟨fun parts a cap lo hi w hs hhi hsm hn => ?_⟩
  have A := Lib.hid (fun (k : Nat) (w1 : World) (hk : k < parts.length) (hb : Below w.heap.size w w1) => (hs.below hb hhi).at_ hk)
  have C := Lib.hid (fun (k : Nat) (w1 : World) (x : Value) (hk : k < parts.length) (hb : Below w.heap.size w w1) (hv : VecAt lo hi w1 d (parts.getD k noV) x) => IC.out _ x lo hi w1 hv (Nat.le_trans hhi hb.size) (hsm k hk))
  have FIN := Lib.hid (fun (wr : World) (v : Value) (h : RowV w wr d parts parts.length v) => h.parts)
  clear hs hsm IC
  obtain ⟨n, hn'⟩ : ∃ n, parts.length = n := ⟨_, rfl⟩
  have HNn := Lib.hid hn'
  rw [hn'] at hn A C FIN ⊢
  clear hn'
  obtain ⟨i0, hi0, hz0, hz1, hz2⟩ := info_parts infoVec8
  go_enter Try.func82, Try.ntmps82
  go_wp2
  go_loopw [3, 8] (fun v i wr => ∃ k : Nat, k ≤ n ∧ i = .int .i64 k ∧ RowV w wr d parts k v) (fun _ i _ => n - (intOf i).toNat)
  case atStart => exact ⟨0, Nat.zero_le _, rfl, RowV.start w d parts⟩
  case round =>
    obtain ⟨k, hk, rfl, hr⟩ := hrel
    have RV := Lib.hid hr
    clear hr
    by_cases hlt : k < n
    · obtain ⟨b, off, u0, u1, u2, u3, u4, u5, u6, u7, rfl, hbB, hv, c0, c1, c2, c3, c4, c5, c6, c7⟩ := A.out _ _ hlt RV.out.below
      obtain ⟨pk, pa1, pn1, pm1, pa2, pn2, pm2, pa3, pn3, pm3, pa4, pn4, pm4, pa5, pn5, pm5, pc, pe, e⟩ := hv.agg
      simp only [Value.agg.injEq, Array.mk.injEq, List.cons.injEq, and_true] at e
      obtain ⟨rfl, rfl, rfl, rfl, rfl, rfl, rfl, rfl⟩ := e
      have HV := Lib.hid hv
      have hbw : b < wr.heap.size := Nat.lt_of_lt_of_le (Nat.lt_of_lt_of_le hbB hhi) RV.out.below.size
      clear hv
      go_wp2_with fail
      have b1 := Lib.hid (below1 wr (.cells #[.int .i64 pk, .slice pa1 pn1 pm1, .slice pa2 pn2 pm2, .slice pa3 pn3 pm3, .slice pa4 pn4 pm4, .slice pa5 pn5 pm5, .int .i64 pc, .int .i64 pe] 27))
      with_reducible refine (C.out _ _ _ hlt (below_then RV.out.below b1.out) (HV.out.below b1.out (Nat.le_trans hhi RV.out.below.size))).mono ?_
      rintro e w2 ⟨y, rfl, ho, hb⟩
      obtain ⟨yk, ya1, yn1, ym1, ya2, yn2, ym2, ya3, yn3, ym3, ya4, yn4, ym4, ya5, yn5, ym5, yc, ye, rfl⟩ := ho.agg
      have HO := Lib.hid ho
      have BW := Lib.hid (below_then b1.out hb)
      obtain ⟨xs, hxs⟩ := RV.out.row
      have XS := Lib.hid hxs
      have OR := Lib.hid (ownsRow_below (ownsRow_below hxs BW.out) (below1 w2 (.cells #[.int .i64 yk, .slice ya1 yn1 ym1, .slice ya2 yn2 ym2, .slice ya3 yn3 ym3, .slice ya4 yn4 ym4, .slice ya5 yn5 ym5, .int .i64 yc, .int .i64 ye] 27)))
      have S1 := Lib.hid (show w.heap.size ≤ w2.heap.size from (below_then RV.out.below BW.out).size)
      clear ho hb hxs c0 c1 c2 c3 c4 c5 c6 c7
      go_wp2_with (at_builtin; refine wpList_append_own_at _ rfl _ _ 24 rfl w.heap.size 27 i0 _ 8 144 Try.underlying24 hi0 hz0 hz1 hz2 rfl (by decide) _ k xs rfl OR.out ⟨w2.heap.size, 0, none⟩ 1 1 [.int .i64 yk, .slice ya1 yn1 ym1, .slice ya2 yn2 ym2, .slice ya3 yn3 ym3, .slice ya4 yn4 ym4, .slice ya5 yn5 ym5, .int .i64 yc, .int .i64 ye] rfl rfl ?c1 ?c2 ?c3 ?c4 ?c5 ?_)
      case c1 =>
        intro j u hj
        have hlt : j < 8 := by have := (List.getElem?_eq_some_iff.1 hj).1; simpa using this
        rw [addr_add, Nat.zero_add]
        refine cellOf (blk_new w2 _ rfl) ?_
        rw [← hj]
        rcases (show j = 0 ∨ j = 1 ∨ j = 2 ∨ j = 3 ∨ j = 4 ∨ j = 5 ∨ j = 6 ∨ j = 7 by omega) with rfl | rfl | rfl | rfl | rfl | rfl | rfl | rfl <;> rfl
      case c2 => intro u hu; simp only [List.mem_cons, List.not_mem_nil, or_false] at hu; rcases hu with rfl | rfl | rfl | rfl | rfl | rfl | rfl | rfl <;> rfl
      case c3 => unfold maxLen; omega
      case c4 => omega
      case c5 => have := S1.out; simp; omega
      intro v' w3 hown' hgrow _ hwh
      have NX := Lib.hid (RV.out.next HO.out (by simp) BW.out hgrow (fun ys hy => ownsRow_same XS.out hy ▸ hown') (by simpa using hwh))
      clear hown' hgrow hwh
      go_wp2
      go_roundw
      case rel => exact ⟨k + 1, by omega, by go_num, NX.out⟩
      case measure => simp [intOf]; omega
    · obtain rfl : k = n := by omega
      go_wp2
      obtain ⟨F, h1, h2, h3⟩ := FIN.out _ _ RV.out
      go_ret
      exact ⟨_, F, rfl, h1, h2, h3, RV.out.below, by rw [HNn.out]; exact RV.out.row⟩
set_option maxHeartbeats 4000000 in
theorem icvStep (d : Nat) (IS : ICS d) : ICV (d + 1) := by
  refine ⟨fun v val lo hi w hv hhi hsm => ?_⟩
  obtain ⟨kk, items, parts, names, cls, levels, code, env⟩ := v
  obtain ⟨d', ai, ci, ap, cp, an, cn, ac, cc, al, cl, ed, rfl, hI, hN, hC, hL, hP⟩ := vecAt_open hv
  obtain rfl : d = d' := by omega
  have hsp : ∀ i, i < parts.length → Small d (parts.getD i noV) := fun i hi => hsm.part hi
  obtain ⟨li, lp, ln, lc, ll, _⟩ := hsm
  have HI := Lib.hid (fun (w1 : World) (hb : Below w.heap.size w w1) => hI.below hb hhi)
  have CP := Lib.hid (fun (w1 : World) (hb : Below w.heap.size w w1) => IS.out parts ap cp lo hi w1 (hP.below hb hhi) (Nat.le_trans hhi hb.size) hsp lp)
  have CT3 := Lib.hid (fun (w1 : World) (hb : Below w.heap.size w w1) => implCopyAny names an cn lo hi w1 (hN.below hb hhi) ln)
  have CT4 := Lib.hid (fun (w1 : World) (hb : Below w.heap.size w w1) => implCopyAny cls ac cc lo hi w1 (hC.below hb hhi) lc)
  have CT5 := Lib.hid (fun (w1 : World) (hb : Below w.heap.size w w1) => implCopyAny levels al cl lo hi w1 (hL.below hb hhi) ll)
  clear hv hI hN hC hL hP hsp
  go_enter Try.func74, Try.ntmps74
  obtain ⟨w1, hw1⟩ : ∃ W, (w.alloc (.cells #[.int .i64 kk, .slice ai items.length ci, .slice ap parts.length cp, .slice an names.length cn, .slice ac cls.length cc, .slice al levels.length cl, .int .i64 code, .int .i64 env] 27)).alloc (.cells #[.int .i64 0, .slice none 0 0, .slice none 0 0, .slice none 0 0, .slice none 0 0, .slice none 0 0, .int .i64 0, .int .i64 0] 27) = W := ⟨_, rfl⟩
  have hsz : (w.alloc (.cells #[.int .i64 kk, .slice ai items.length ci, .slice ap parts.length cp, .slice an names.length cn, .slice ac cls.length cc, .slice al levels.length cl, .int .i64 code, .int .i64 env] 27)).heap.size = w.heap.size + 1 := by simp
  have B1 := Lib.hid (show Below w.heap.size w w1 from hw1 ▸ (below1 w _).alloc (by simp) _)
  have KA1 := Lib.hid (show w1.heap[w.heap.size]? = some (.cells #[.int .i64 kk, .slice ai items.length ci, .slice ap parts.length cp, .slice an names.length cn, .slice ac cls.length cc, .slice al levels.length cl, .int .i64 code, .int .i64 env] 27 (0, 0)) from hw1 ▸ blk_old (blk_new w _ rfl))
  have KR1 := Lib.hid (show w1.heap[w.heap.size + 1]? = some (.cells #[.int .i64 0, .slice none 0 0, .slice none 0 0, .slice none 0 0, .slice none 0 0, .slice none 0 0, .int .i64 0, .int .i64 0] 27 (0, 0)) from hw1 ▸ hsz ▸ blk_new (w.alloc (.cells #[.int .i64 kk, .slice ai items.length ci, .slice ap parts.length cp, .slice an names.length cn, .slice ac cls.length cc, .slice al levels.length cl, .int .i64 code, .int .i64 env] 27)) (.cells #[.int .i64 0, .slice none 0 0, .slice none 0 0, .slice none 0 0, .slice none 0 0, .slice none 0 0, .int .i64 0, .int .i64 0] 27) rfl)
  have hs1 : w.heap.size + 1 < w1.heap.size := (Array.getElem?_eq_some_iff.1 KR1.out).1
  have EW := Lib.hid hw1
  clear hw1 hsz
  go_wp2_with (at_builtin; rw [EW.out]; refine wpList_copyItems rfl _ _ rfl w1.heap.size _ rfl (.inl rfl) ai ci items lo hi rfl (HI.out _ B1.out) li (Nat.le_refl _) ?_)
  intro v' w2 hcp hb
  obtain ⟨q1, r1, F1, rfl, hT1, hn1, hr1, hc1⟩ := hcp
  have B2 := Lib.hid (below_then B1.out hb)
  have KA2 := Lib.hid (blk_below hb KA1.out)
  have KR2 := Lib.hid (blk_below hb KR1.out)
  have P1w2 := Lib.hid hT1
  have N1 := Lib.hid hn1
  have R1 := Lib.hid hr1
  have C1 := Lib.hid hc1
  have Z2 := Lib.hid hb.size
  clear hT1 hn1 hr1 hc1 hb
  have u2 : ∃ x, w2.cell? ⟨w.heap.size, 1, none⟩ = some x := ⟨_, cellOf KA2.out rfl⟩
  obtain ⟨x2, hx2⟩ := u2
  have hf2 : w2.frozen? ⟨w.heap.size, 1, none⟩ = false := freeOf KA2.out
  obtain ⟨w3, hw⟩ : ∃ W, w2.setCell ⟨w.heap.size, 1, none⟩ (.slice q1 items.length r1) = W := ⟨_, rfl⟩
  have KA3 := Lib.hid (show w3.heap[w.heap.size]? = some (.cells #[.int .i64 kk, .slice q1 items.length r1, .slice ap parts.length cp, .slice an names.length cn, .slice ac cls.length cc, .slice al levels.length cl, .int .i64 code, .int .i64 env] 27 (0, 0)) from hw ▸ Joins.block_setCell KA2.out _)
  have KR3 := Lib.hid (show w3.heap[w.heap.size + 1]? = some (.cells #[.int .i64 0, .slice none 0 0, .slice none 0 0, .slice none 0 0, .slice none 0 0, .slice none 0 0, .int .i64 0, .int .i64 0] 27 (0, 0)) from hw ▸ (Below.heap_setCell _ _ _ _ (by show w.heap.size + 1 ≠ w.heap.size; omega)).trans KR2.out)
  have B3 := Lib.hid (show Below w.heap.size w w3 from hw ▸ B2.out.setCell (p := ⟨w.heap.size, 1, none⟩) (Nat.le_refl _) _)
  have Z3 := Lib.hid (show w2.heap.size ≤ w3.heap.size from hw ▸ (by simp))
  have E3 := Lib.hid (show w3.heap.size = w2.heap.size from hw ▸ (by simp))
  have P1w3 := Lib.hid (show OwnIts w3 q1 items F1 from hw ▸ P1w2.out.kept (fun g hg => Below.heap_setCell _ _ _ _ (by have := R1.out g hg; show g ≠ w.heap.size; have := Z2.out; omega)))
  have EW3 := Lib.hid hw
  clear hw
  obtain ⟨k0, k1, k2, k3, k4, k5, k6, k7⟩ := vec8 KA2.out
  go_wp2_with fail
  rw [EW3.out]
  clear k0 k1 k2 k3 k4 k5 k6 k7 hx2 hf2
  with_reducible refine (CP.out _ B3.out).mono ?_
  rintro e w4 ⟨v, F2, rfl, hT, hn, hr, hb, _⟩
  obtain ⟨q2, r2, rfl, hcc, hT'⟩ := hT
  have P2w4 := Lib.hid (show OwnParts w4 d (.slice q2 parts.length r2) parts F2 from ⟨q2, r2, rfl, hcc, hT'⟩)
  clear hT'
  have B4 := Lib.hid (below_then B3.out hb)
  have KA4 := Lib.hid (blk_below hb KA3.out)
  have KR4 := Lib.hid (blk_below hb KR3.out)
  have N2 := Lib.hid hn
  have R2 := Lib.hid hr
  have C2 := Lib.hid hcc
  have Z4 := Lib.hid hb.size
  have P1w4 := Lib.hid (P1w3.out.kept (fun g hg => hb.block g (by have := R1.out g hg; have := Z2.out; have := Z3.out; omega)))
  clear hb hn hr hcc
  have u4 : ∃ x, w4.cell? ⟨w.heap.size, 2, none⟩ = some x := ⟨_, cellOf KA4.out rfl⟩
  obtain ⟨x4, hx4⟩ := u4
  have hf4 : w4.frozen? ⟨w.heap.size, 2, none⟩ = false := freeOf KA4.out
  obtain ⟨w5, hw⟩ : ∃ W, w4.setCell ⟨w.heap.size, 2, none⟩ (.slice q2 parts.length r2) = W := ⟨_, rfl⟩
  have KA5 := Lib.hid (show w5.heap[w.heap.size]? = some (.cells #[.int .i64 kk, .slice q1 items.length r1, .slice q2 parts.length r2, .slice an names.length cn, .slice ac cls.length cc, .slice al levels.length cl, .int .i64 code, .int .i64 env] 27 (0, 0)) from hw ▸ Joins.block_setCell KA4.out _)
  have KR5 := Lib.hid (show w5.heap[w.heap.size + 1]? = some (.cells #[.int .i64 0, .slice none 0 0, .slice none 0 0, .slice none 0 0, .slice none 0 0, .slice none 0 0, .int .i64 0, .int .i64 0] 27 (0, 0)) from hw ▸ (Below.heap_setCell _ _ _ _ (by show w.heap.size + 1 ≠ w.heap.size; omega)).trans KR4.out)
  have B5 := Lib.hid (show Below w.heap.size w w5 from hw ▸ B4.out.setCell (p := ⟨w.heap.size, 2, none⟩) (Nat.le_refl _) _)
  have Z5 := Lib.hid (show w4.heap.size ≤ w5.heap.size from hw ▸ (by simp))
  have E5 := Lib.hid (show w5.heap.size = w4.heap.size from hw ▸ (by simp))
  have P1w5 := Lib.hid (show OwnIts w5 q1 items F1 from hw ▸ P1w4.out.kept (fun g hg => Below.heap_setCell _ _ _ _ (by have := R1.out g hg; show g ≠ w.heap.size; have := Z2.out; have := Z3.out; have := Z4.out; omega)))
  have P2w5 := Lib.hid (show OwnParts w5 d (.slice q2 parts.length r2) parts F2 from hw ▸ P2w4.out.kept (fun g hg => Below.heap_setCell _ _ _ _ (by have := R2.out g hg; show g ≠ w.heap.size; have := Z2.out; have := Z3.out; have := Z4.out; omega)))
  have EW5 := Lib.hid hw
  clear hw
  obtain ⟨k0, k1, k2, k3, k4, k5, k6, k7⟩ := vec8 KA4.out
  go_wp2_with fail
  rw [EW5.out]
  clear k0 k1 k2 k3 k4 k5 k6 k7 hx4 hf4
  with_reducible refine (CT3.out _ B5.out).mono ?_
  rintro e w6 ⟨v, rfl, ⟨q3, r3, F3, rfl, hT, hn, hr, hcc⟩, hb⟩
  have P3w6 := Lib.hid hT
  clear hT
  have B6 := Lib.hid (below_then B5.out hb)
  have KA6 := Lib.hid (blk_below hb KA5.out)
  have KR6 := Lib.hid (blk_below hb KR5.out)
  have N3 := Lib.hid hn
  have R3 := Lib.hid hr
  have C3 := Lib.hid hcc
  have Z6 := Lib.hid hb.size
  have P1w6 := Lib.hid (P1w5.out.kept (fun g hg => hb.block g (by have := R1.out g hg; have := Z2.out; have := Z3.out; have := Z4.out; have := Z5.out; omega)))
  have P2w6 := Lib.hid (P2w5.out.kept (fun g hg => hb.block g (by have := R2.out g hg; have := Z2.out; have := Z3.out; have := Z4.out; have := Z5.out; omega)))
  clear hb hn hr hcc
  have u6 : ∃ x, w6.cell? ⟨w.heap.size, 3, none⟩ = some x := ⟨_, cellOf KA6.out rfl⟩
  obtain ⟨x6, hx6⟩ := u6
  have hf6 : w6.frozen? ⟨w.heap.size, 3, none⟩ = false := freeOf KA6.out
  obtain ⟨w7, hw⟩ : ∃ W, w6.setCell ⟨w.heap.size, 3, none⟩ (.slice q3 names.length r3) = W := ⟨_, rfl⟩
  have KA7 := Lib.hid (show w7.heap[w.heap.size]? = some (.cells #[.int .i64 kk, .slice q1 items.length r1, .slice q2 parts.length r2, .slice q3 names.length r3, .slice ac cls.length cc, .slice al levels.length cl, .int .i64 code, .int .i64 env] 27 (0, 0)) from hw ▸ Joins.block_setCell KA6.out _)
  have KR7 := Lib.hid (show w7.heap[w.heap.size + 1]? = some (.cells #[.int .i64 0, .slice none 0 0, .slice none 0 0, .slice none 0 0, .slice none 0 0, .slice none 0 0, .int .i64 0, .int .i64 0] 27 (0, 0)) from hw ▸ (Below.heap_setCell _ _ _ _ (by show w.heap.size + 1 ≠ w.heap.size; omega)).trans KR6.out)
  have B7 := Lib.hid (show Below w.heap.size w w7 from hw ▸ B6.out.setCell (p := ⟨w.heap.size, 3, none⟩) (Nat.le_refl _) _)
  have Z7 := Lib.hid (show w6.heap.size ≤ w7.heap.size from hw ▸ (by simp))
  have E7 := Lib.hid (show w7.heap.size = w6.heap.size from hw ▸ (by simp))
  have P1w7 := Lib.hid (show OwnIts w7 q1 items F1 from hw ▸ P1w6.out.kept (fun g hg => Below.heap_setCell _ _ _ _ (by have := R1.out g hg; show g ≠ w.heap.size; have := Z2.out; have := Z3.out; have := Z4.out; have := Z5.out; have := Z6.out; omega)))
  have P2w7 := Lib.hid (show OwnParts w7 d (.slice q2 parts.length r2) parts F2 from hw ▸ P2w6.out.kept (fun g hg => Below.heap_setCell _ _ _ _ (by have := R2.out g hg; show g ≠ w.heap.size; have := Z2.out; have := Z3.out; have := Z4.out; have := Z5.out; have := Z6.out; omega)))
  have P3w7 := Lib.hid (show OwnTxs w7 q3 names F3 from hw ▸ P3w6.out.kept (fun g hg => Below.heap_setCell _ _ _ _ (by have := R3.out g hg; show g ≠ w.heap.size; have := Z2.out; have := Z3.out; have := Z4.out; have := Z5.out; have := Z6.out; omega)))
  have EW7 := Lib.hid hw
  clear hw
  obtain ⟨k0, k1, k2, k3, k4, k5, k6, k7⟩ := vec8 KA6.out
  go_wp2_with fail
  rw [EW7.out]
  clear k0 k1 k2 k3 k4 k5 k6 k7 hx6 hf6
  with_reducible refine (CT4.out _ B7.out).mono ?_
  rintro e w8 ⟨v, rfl, ⟨q4, r4, F4, rfl, hT, hn, hr, hcc⟩, hb⟩
  have P4w8 := Lib.hid hT
  clear hT
  have B8 := Lib.hid (below_then B7.out hb)
  have KA8 := Lib.hid (blk_below hb KA7.out)
  have KR8 := Lib.hid (blk_below hb KR7.out)
  have N4 := Lib.hid hn
  have R4 := Lib.hid hr
  have C4 := Lib.hid hcc
  have Z8 := Lib.hid hb.size
  have P1w8 := Lib.hid (P1w7.out.kept (fun g hg => hb.block g (by have := R1.out g hg; have := Z2.out; have := Z3.out; have := Z4.out; have := Z5.out; have := Z6.out; have := Z7.out; omega)))
  have P2w8 := Lib.hid (P2w7.out.kept (fun g hg => hb.block g (by have := R2.out g hg; have := Z2.out; have := Z3.out; have := Z4.out; have := Z5.out; have := Z6.out; have := Z7.out; omega)))
  have P3w8 := Lib.hid (P3w7.out.kept (fun g hg => hb.block g (by have := R3.out g hg; have := Z2.out; have := Z3.out; have := Z4.out; have := Z5.out; have := Z6.out; have := Z7.out; omega)))
  clear hb hn hr hcc
  have u8 : ∃ x, w8.cell? ⟨w.heap.size, 4, none⟩ = some x := ⟨_, cellOf KA8.out rfl⟩
  obtain ⟨x8, hx8⟩ := u8
  have hf8 : w8.frozen? ⟨w.heap.size, 4, none⟩ = false := freeOf KA8.out
  obtain ⟨w9, hw⟩ : ∃ W, w8.setCell ⟨w.heap.size, 4, none⟩ (.slice q4 cls.length r4) = W := ⟨_, rfl⟩
  have KA9 := Lib.hid (show w9.heap[w.heap.size]? = some (.cells #[.int .i64 kk, .slice q1 items.length r1, .slice q2 parts.length r2, .slice q3 names.length r3, .slice q4 cls.length r4, .slice al levels.length cl, .int .i64 code, .int .i64 env] 27 (0, 0)) from hw ▸ Joins.block_setCell KA8.out _)
  have KR9 := Lib.hid (show w9.heap[w.heap.size + 1]? = some (.cells #[.int .i64 0, .slice none 0 0, .slice none 0 0, .slice none 0 0, .slice none 0 0, .slice none 0 0, .int .i64 0, .int .i64 0] 27 (0, 0)) from hw ▸ (Below.heap_setCell _ _ _ _ (by show w.heap.size + 1 ≠ w.heap.size; omega)).trans KR8.out)
  have B9 := Lib.hid (show Below w.heap.size w w9 from hw ▸ B8.out.setCell (p := ⟨w.heap.size, 4, none⟩) (Nat.le_refl _) _)
  have Z9 := Lib.hid (show w8.heap.size ≤ w9.heap.size from hw ▸ (by simp))
  have E9 := Lib.hid (show w9.heap.size = w8.heap.size from hw ▸ (by simp))
  have P1w9 := Lib.hid (show OwnIts w9 q1 items F1 from hw ▸ P1w8.out.kept (fun g hg => Below.heap_setCell _ _ _ _ (by have := R1.out g hg; show g ≠ w.heap.size; have := Z2.out; have := Z3.out; have := Z4.out; have := Z5.out; have := Z6.out; have := Z7.out; have := Z8.out; omega)))
  have P2w9 := Lib.hid (show OwnParts w9 d (.slice q2 parts.length r2) parts F2 from hw ▸ P2w8.out.kept (fun g hg => Below.heap_setCell _ _ _ _ (by have := R2.out g hg; show g ≠ w.heap.size; have := Z2.out; have := Z3.out; have := Z4.out; have := Z5.out; have := Z6.out; have := Z7.out; have := Z8.out; omega)))
  have P3w9 := Lib.hid (show OwnTxs w9 q3 names F3 from hw ▸ P3w8.out.kept (fun g hg => Below.heap_setCell _ _ _ _ (by have := R3.out g hg; show g ≠ w.heap.size; have := Z2.out; have := Z3.out; have := Z4.out; have := Z5.out; have := Z6.out; have := Z7.out; have := Z8.out; omega)))
  have P4w9 := Lib.hid (show OwnTxs w9 q4 cls F4 from hw ▸ P4w8.out.kept (fun g hg => Below.heap_setCell _ _ _ _ (by have := R4.out g hg; show g ≠ w.heap.size; have := Z2.out; have := Z3.out; have := Z4.out; have := Z5.out; have := Z6.out; have := Z7.out; have := Z8.out; omega)))
  have EW9 := Lib.hid hw
  clear hw
  obtain ⟨k0, k1, k2, k3, k4, k5, k6, k7⟩ := vec8 KA8.out
  go_wp2_with fail
  rw [EW9.out]
  clear k0 k1 k2 k3 k4 k5 k6 k7 hx8 hf8
  with_reducible refine (CT5.out _ B9.out).mono ?_
  rintro e w10 ⟨v, rfl, ⟨q5, r5, F5, rfl, hT, hn, hr, hcc⟩, hb⟩
  have P5w10 := Lib.hid hT
  clear hT
  have B10 := Lib.hid (below_then B9.out hb)
  have KA10 := Lib.hid (blk_below hb KA9.out)
  have KR10 := Lib.hid (blk_below hb KR9.out)
  have N5 := Lib.hid hn
  have R5 := Lib.hid hr
  have C5 := Lib.hid hcc
  have Z10 := Lib.hid hb.size
  have P1w10 := Lib.hid (P1w9.out.kept (fun g hg => hb.block g (by have := R1.out g hg; have := Z2.out; have := Z3.out; have := Z4.out; have := Z5.out; have := Z6.out; have := Z7.out; have := Z8.out; have := Z9.out; omega)))
  have P2w10 := Lib.hid (P2w9.out.kept (fun g hg => hb.block g (by have := R2.out g hg; have := Z2.out; have := Z3.out; have := Z4.out; have := Z5.out; have := Z6.out; have := Z7.out; have := Z8.out; have := Z9.out; omega)))
  have P3w10 := Lib.hid (P3w9.out.kept (fun g hg => hb.block g (by have := R3.out g hg; have := Z2.out; have := Z3.out; have := Z4.out; have := Z5.out; have := Z6.out; have := Z7.out; have := Z8.out; have := Z9.out; omega)))
  have P4w10 := Lib.hid (P4w9.out.kept (fun g hg => hb.block g (by have := R4.out g hg; have := Z2.out; have := Z3.out; have := Z4.out; have := Z5.out; have := Z6.out; have := Z7.out; have := Z8.out; have := Z9.out; omega)))
  clear hb hn hr hcc
  have u10 : ∃ x, w10.cell? ⟨w.heap.size, 5, none⟩ = some x := ⟨_, cellOf KA10.out rfl⟩
  obtain ⟨x10, hx10⟩ := u10
  have hf10 : w10.frozen? ⟨w.heap.size, 5, none⟩ = false := freeOf KA10.out
  obtain ⟨w11, hw⟩ : ∃ W, w10.setCell ⟨w.heap.size, 5, none⟩ (.slice q5 levels.length r5) = W := ⟨_, rfl⟩
  have KA11 := Lib.hid (show w11.heap[w.heap.size]? = some (.cells #[.int .i64 kk, .slice q1 items.length r1, .slice q2 parts.length r2, .slice q3 names.length r3, .slice q4 cls.length r4, .slice q5 levels.length r5, .int .i64 code, .int .i64 env] 27 (0, 0)) from hw ▸ Joins.block_setCell KA10.out _)
  have KR11 := Lib.hid (show w11.heap[w.heap.size + 1]? = some (.cells #[.int .i64 0, .slice none 0 0, .slice none 0 0, .slice none 0 0, .slice none 0 0, .slice none 0 0, .int .i64 0, .int .i64 0] 27 (0, 0)) from hw ▸ (Below.heap_setCell _ _ _ _ (by show w.heap.size + 1 ≠ w.heap.size; omega)).trans KR10.out)
  have B11 := Lib.hid (show Below w.heap.size w w11 from hw ▸ B10.out.setCell (p := ⟨w.heap.size, 5, none⟩) (Nat.le_refl _) _)
  have Z11 := Lib.hid (show w10.heap.size ≤ w11.heap.size from hw ▸ (by simp))
  have E11 := Lib.hid (show w11.heap.size = w10.heap.size from hw ▸ (by simp))
  have P1w11 := Lib.hid (show OwnIts w11 q1 items F1 from hw ▸ P1w10.out.kept (fun g hg => Below.heap_setCell _ _ _ _ (by have := R1.out g hg; show g ≠ w.heap.size; have := Z2.out; have := Z3.out; have := Z4.out; have := Z5.out; have := Z6.out; have := Z7.out; have := Z8.out; have := Z9.out; have := Z10.out; omega)))
  have P2w11 := Lib.hid (show OwnParts w11 d (.slice q2 parts.length r2) parts F2 from hw ▸ P2w10.out.kept (fun g hg => Below.heap_setCell _ _ _ _ (by have := R2.out g hg; show g ≠ w.heap.size; have := Z2.out; have := Z3.out; have := Z4.out; have := Z5.out; have := Z6.out; have := Z7.out; have := Z8.out; have := Z9.out; have := Z10.out; omega)))
  have P3w11 := Lib.hid (show OwnTxs w11 q3 names F3 from hw ▸ P3w10.out.kept (fun g hg => Below.heap_setCell _ _ _ _ (by have := R3.out g hg; show g ≠ w.heap.size; have := Z2.out; have := Z3.out; have := Z4.out; have := Z5.out; have := Z6.out; have := Z7.out; have := Z8.out; have := Z9.out; have := Z10.out; omega)))
  have P4w11 := Lib.hid (show OwnTxs w11 q4 cls F4 from hw ▸ P4w10.out.kept (fun g hg => Below.heap_setCell _ _ _ _ (by have := R4.out g hg; show g ≠ w.heap.size; have := Z2.out; have := Z3.out; have := Z4.out; have := Z5.out; have := Z6.out; have := Z7.out; have := Z8.out; have := Z9.out; have := Z10.out; omega)))
  have P5w11 := Lib.hid (show OwnTxs w11 q5 levels F5 from hw ▸ P5w10.out.kept (fun g hg => Below.heap_setCell _ _ _ _ (by have := R5.out g hg; show g ≠ w.heap.size; have := Z2.out; have := Z3.out; have := Z4.out; have := Z5.out; have := Z6.out; have := Z7.out; have := Z8.out; have := Z9.out; have := Z10.out; omega)))
  have EW11 := Lib.hid hw
  clear hw
  obtain ⟨k0, k1, k2, k3, k4, k5, k6, k7⟩ := vec8 KA10.out
  go_upto_region 6 with (fail)
  rw [EW11.out]
  clear k0 k1 k2 k3 k4 k5 k6 k7 hx10 hf10
  obtain ⟨k0, k1, k2, k3, k4, k5, k6, k7⟩ := vec8 KA11.out
  obtain ⟨z0, z1, z2, z3, z4, z5, z6, z7⟩ := vec8 KR11.out
  obtain ⟨f0, f1, f2, f3, f4, f5, f6, f7⟩ := free8 KR11.out
  go_wp2
  refine vec_end rfl rfl rfl KR11.out ⟨_, rfl, ⟨F1 ++ (F2 ++ (F3 ++ (F4 ++ F5))), ?_, ?_, ?_⟩, put8_below B11.out (Nat.le_succ _)⟩
  · have P2x := P2w11.out
    obtain ⟨_, _, e2, hc2, h2⟩ := P2x
    simp only [Value.slice.injEq, true_and] at e2
    obtain ⟨rfl, rfl⟩ := e2
    have ho : OwnVec w11 (d + 1) (.mk kk items parts names cls levels code env) (.agg #[.int .i64 kk, .slice q1 items.length r1, .slice q2 parts.length r2, .slice q3 names.length r3, .slice q4 cls.length r4, .slice q5 levels.length r5, .int .i64 code, .int .i64 env]) (F1 ++ (F2 ++ (F3 ++ (F4 ++ F5)))) := by
      unfold OwnVec
      exact ⟨q1, r1, q2, r2, q3, r3, q4, r4, q5, r5, F1, F2, F3, F4, F5, rfl, rfl, ⟨C1.out, C2.out, C3.out, C4.out, C5.out⟩, P1w11.out, P3w11.out, P4w11.out, P5w11.out, h2⟩
    refine ho.kept _ _ _ _ (fun g hg => put8_other ?_)
    simp only [List.mem_append] at hg
    rcases hg with hg | hg | hg | hg | hg
    · have := R1.out g hg; have := Z2.out; have := Z3.out; have := Z4.out; have := Z5.out; have := Z6.out; have := Z7.out; have := Z8.out; have := Z9.out; have := Z10.out; have := Z11.out; omega
    · have := R2.out g hg; have := Z2.out; have := Z3.out; have := Z4.out; have := Z5.out; have := Z6.out; have := Z7.out; have := Z8.out; have := Z9.out; have := Z10.out; have := Z11.out; omega
    · have := R3.out g hg; have := Z2.out; have := Z3.out; have := Z4.out; have := Z5.out; have := Z6.out; have := Z7.out; have := Z8.out; have := Z9.out; have := Z10.out; have := Z11.out; omega
    · have := R4.out g hg; have := Z2.out; have := Z3.out; have := Z4.out; have := Z5.out; have := Z6.out; have := Z7.out; have := Z8.out; have := Z9.out; have := Z10.out; have := Z11.out; omega
    · have := R5.out g hg; have := Z2.out; have := Z3.out; have := Z4.out; have := Z5.out; have := Z6.out; have := Z7.out; have := Z8.out; have := Z9.out; have := Z10.out; have := Z11.out; omega
  · simp only [List.nodup_append, List.mem_append]
    refine ⟨N1.out, ⟨N2.out, ⟨N3.out, ⟨N4.out, N5.out, ?_⟩, ?_⟩, ?_⟩, ?_⟩
    · intro a ha b hb e; subst e; have x := R4.out a ha; have := Z2.out; have := Z3.out; have := Z4.out; have := Z5.out; have := Z6.out; have := Z7.out; have := Z8.out; have := Z9.out; have := Z10.out; have := Z11.out
      have y := R5.out a hb; omega
    · intro a ha b hb e; subst e; have x := R3.out a ha; have := Z2.out; have := Z3.out; have := Z4.out; have := Z5.out; have := Z6.out; have := Z7.out; have := Z8.out; have := Z9.out; have := Z10.out; have := Z11.out
      rcases hb with hb | hb
      · have y := R4.out a hb; omega
      · have y := R5.out a hb; omega
    · intro a ha b hb e; subst e; have x := R2.out a ha; have := Z2.out; have := Z3.out; have := Z4.out; have := Z5.out; have := Z6.out; have := Z7.out; have := Z8.out; have := Z9.out; have := Z10.out; have := Z11.out
      rcases hb with hb | hb | hb
      · have y := R3.out a hb; omega
      · have y := R4.out a hb; omega
      · have y := R5.out a hb; omega
    · intro a ha b hb e; subst e; have x := R1.out a ha; have := Z2.out; have := Z3.out; have := Z4.out; have := Z5.out; have := Z6.out; have := Z7.out; have := Z8.out; have := Z9.out; have := Z10.out; have := Z11.out
      rcases hb with hb | hb | hb | hb
      · have y := R2.out a hb; omega
      · have y := R3.out a hb; omega
      · have y := R4.out a hb; omega
      · have y := R5.out a hb; omega
  · intro g hg
    rw [put8_size]
    simp only [List.mem_append] at hg
    rcases hg with hg | hg | hg | hg | hg
    · have := R1.out g hg; have := Z2.out; have := Z3.out; have := Z4.out; have := Z5.out; have := Z6.out; have := Z7.out; have := Z8.out; have := Z9.out; have := Z10.out; have := Z11.out; omega
    · have := R2.out g hg; have := Z2.out; have := Z3.out; have := Z4.out; have := Z5.out; have := Z6.out; have := Z7.out; have := Z8.out; have := Z9.out; have := Z10.out; have := Z11.out; omega
    · have := R3.out g hg; have := Z2.out; have := Z3.out; have := Z4.out; have := Z5.out; have := Z6.out; have := Z7.out; have := Z8.out; have := Z9.out; have := Z10.out; have := Z11.out; omega
    · have := R4.out g hg; have := Z2.out; have := Z3.out; have := Z4.out; have := Z5.out; have := Z6.out; have := Z7.out; have := Z8.out; have := Z9.out; have := Z10.out; have := Z11.out; omega
    · have := R5.out g hg; have := Z2.out; have := Z3.out; have := Z4.out; have := Z5.out; have := Z6.out; have := Z7.out; have := Z8.out; have := Z9.out; have := Z10.out; have := Z11.out; omega
theorem icvZero : ICV 0 := ⟨fun _ _ _ _ _ h => h.elim⟩
theorem icvAll : ∀ d, ICV d
  | 0 => icvZero
  | d + 1 => icvStep d (icsStep d (icvAll d))
theorem icsAll (d : Nat) : ICS d := icsStep d (icvAll d)
end Go.Proofs.Yteigfhenbmhepaa

/- The elements of a vector as the parts of a list. -/
namespace Go.Proofs.Yteigfhenbmhepaa
open Go.RowKit
set_option maxRecDepth 100000
set_option linter.unusedVariables false

/-- The elements of a vector as vectors. -/
def elems (v : Vec) : List Vec := match v with
  | .mk k items parts names cls levels code env => if k = 5 then [.mk k items parts names cls levels code env] else if k = 4 then parts else items.map (fun x => vecOf k [x])
theorem OwnParts.vecs {w : World} {d lo hi : Nat} {a : Option Addr} {c : Nat} {parts : List Vec} {F : List Nat} (h : OwnParts w d (.slice a parts.length c) parts F) (k : ∀ b ∈ F, lo ≤ b ∧ b < hi) : VecsAt lo hi w d a parts := by
  obtain ⟨ap, cp, e, _, h⟩ := h
  simp only [Value.slice.injEq, true_and] at e
  obtain ⟨rfl, rfl⟩ := e
  intro i p hp
  obtain ⟨hi', rfl⟩ := List.getElem?_eq_some_iff.1 hp
  rcases h with ⟨rfl, _⟩ | ⟨b, C, Fs, rfl, hl, e', hb, hc, hps⟩
  · cases hi'
  · obtain ⟨val, hv, c0, c1, c2, c3, c4, c5, c6, c7, rfl, m0, m1, m2, m3, m4, m5, m6, m7⟩ := hps i hi'
    have e1 : parts.getD i noV = parts[i] := by simp [List.getD_eq_getElem?_getD, List.getElem?_eq_getElem hi']
    rw [e1] at hv
    have hbb := k b (by simp)
    refine ⟨b, 0, c0, c1, c2, c3, c4, c5, c6, c7, e', hbb.1, hbb.2, OwnVec.vecAt d _ _ _ hv (fun b' hb' => k b' (by have := mem_flat (by omega) hb'; simp only [List.mem_cons]; exact .inr this)), ?_⟩
    rw [Nat.zero_add]
    exact ⟨cellOf hb m0, cellOf hb m1, cellOf hb m2, cellOf hb m3, cellOf hb m4, cellOf hb m5, cellOf hb m6, cellOf hb m7⟩
theorem ownsRow_base {w : World} {base base' : Nat} {el : TypeId} {size n : Nat} {v : Value} {xs : List Value} (h : w.ownsRow base el size v n xs) (hb : base' ≤ base) : w.ownsRow base' el size v n xs := by
  obtain ⟨hl, h⟩ := h
  refine ⟨hl, h.imp id ?_⟩
  rintro ⟨g, cap, cur, e, hB, r⟩
  exact ⟨g, cap, cur, e, by omega, r⟩
theorem Own.vatL {d : Nat} {V : Vec} {y : Value} {lo hi L H : Nat} {w : World} (h : Own d V y lo hi w) (hl : L ≤ lo) (hh : hi ≤ H) : VecAt L H w d V y := by
  obtain ⟨F, h1, _, h3⟩ := h.out
  exact h1.vecAt _ _ _ _ (fun b hm => by have := h3 b hm; omega)
/-- What elementsOf answers. -/
def ElmAns (v : Vec) (w : World) (e : Ending) (w' : World) : Prop := (∃ a c D, e = .returned (.slice a (elems v).length c) ∧ VecsAt w.heap.size w'.heap.size w' D a (elems v) ∧ ∀ i, i < (elems v).length → Small D ((elems v).getD i noV)) ∧ Below w.heap.size w w'
theorem elems_fun {v : Vec} {items : List It} {parts : List Vec} {names cls levels : List ByteArray} {code env : Int} (h : v = .mk 5 items parts names cls levels code env) : elems v = [v] := by subst h; rfl
theorem elems_list {items : List It} {parts : List Vec} {names cls levels : List ByteArray} {code env : Int} : elems (.mk 4 items parts names cls levels code env) = parts := rfl
theorem elems_items {k : Int} {items : List It} {parts : List Vec} {names cls levels : List ByteArray} {code env : Int} (h5 : k ≠ 5) (h4 : k ≠ 4) : elems (.mk k items parts names cls levels code env) = items.map (fun x => vecOf k [x]) := by
  show (if k = 5 then _ else if k = 4 then _ else _) = _
  rw [if_neg h5, if_neg h4]
theorem own_one {w : World} {g : Nat} {k : Int} {x : It} (h : w.heap[g]? = some (.cells #[.int .i64 x.n, .int .i64 x.d, .string x.t] 62 (0, 0))) : Own 1 (vecOf k [x]) (.agg #[.int .i64 k, .slice (some ⟨g, 0, none⟩) 1 1, .slice none 0 0, .slice none 0 0, .slice none 0 0, .slice none 0 0, .int .i64 0, .int .i64 0]) g (g + 1) w := by
  refine ⟨[g], ?_, by simp, fun b hb => by obtain rfl := List.mem_singleton.1 hb; omega⟩
  show OwnVec w 1 (.mk k [x] [] [] [] [] 0 0) _ _
  unfold OwnVec
  exact ⟨some ⟨g, 0, none⟩, 1, none, 0, none, 0, none, 0, none, 0, [g], [], [], [], [], rfl, by simp, ⟨Nat.le_refl _, Nat.le_refl _, Nat.le_refl _, Nat.le_refl _, Nat.le_refl _⟩,
    .inr ⟨g, _, rfl, rfl, h, Nat.le_refl _, fun i hi => by
      obtain rfl : i = 0 := by simpa using hi
      exact ⟨rfl, rfl, rfl⟩⟩, .inl ⟨rfl, rfl⟩, .inl ⟨rfl, rfl⟩, .inl ⟨rfl, rfl⟩, .inl ⟨rfl, rfl⟩⟩
theorem small_one {k : Int} {x : It} (h : x.t.size ≤ 1048576) : Small 1 (vecOf k [x]) := small_vecOf (by simp) (fun y hy => by obtain rfl := List.mem_singleton.1 hy; exact h)
set_option maxHeartbeats 4000000 in
theorem implElems (d : Nat) (v : Vec) (val : Value) (lo hi : Nat) (w : World) (hv : VecAt lo hi w d v val) (hhi : hi ≤ w.heap.size) (hsm : Small d v) (hval : ValidV v) :
    Calls Try.prog 97 #[val] w (ElmAns v w) := by
  have CV := Lib.hid (fun (w1 : World) (hb : Below w.heap.size w w1) => (icvAll d).out v val lo hi w1 (hv.below hb hhi) (Nat.le_trans hhi hb.size) hsm)
  have HSM := Lib.hid hsm
  obtain ⟨VV, hVV⟩ : ∃ V, v = V := ⟨_, rfl⟩
  rw [hVV] at CV HSM ⊢
  obtain ⟨kk, items, parts, names, cls, levels, code, env⟩ := v
  obtain ⟨d', ai, ci, ap, cp, an, cn, ac, cc, al, cl, ed, rfl, hI, hN, hC, hL, hP⟩ := vecAt_open hv
  have hf : FlatOk kk items parts.length names cls levels code env := hval.1.flat
  have hsp : ∀ i, i < parts.length → Small d' (parts.getD i noV) := fun i hi => by subst ed; exact hsm.part hi
  have li : items.length ≤ 1048576 := by subst ed; exact hsm.1
  have lp : parts.length ≤ 1048576 := by subst ed; exact hsm.2.1
  have hit : ∀ x ∈ items, x.t.size ≤ 1048576 := by subst ed; exact hsm.2.2.2.2.2.1
  have AI := Lib.hid (fun (k : Nat) (w1 : World) (hk : k < items.length) (hb : Below w.heap.size w w1) => (hI.below hb hhi).at_ hk)
  have CP := Lib.hid (fun (w1 : World) (hb : Below w.heap.size w w1) => (icsAll d').out parts ap cp lo hi w1 (hP.below hb hhi) (Nat.le_trans hhi hb.size) hsp lp)
  have B0 := Lib.hid (below1 w (.cells #[.int .i64 kk, .slice ai items.length ci, .slice ap parts.length cp, .slice an names.length cn, .slice ac cls.length cc, .slice al levels.length cl, .int .i64 code, .int .i64 env] 27))
  have K0 := Lib.hid (blk_new w (.cells #[.int .i64 kk, .slice ai items.length ci, .slice ap parts.length cp, .slice an names.length cn, .slice ac cls.length cc, .slice al levels.length cl, .int .i64 code, .int .i64 env] 27) rfl)
  by_cases h5 : kk = 5
  · subst h5
    have XE := Lib.hid (elems_fun hVV.symm)
    clear hv hI hN hC hL hP hsm ed hVV hf AI CP hval
    go_enter Try.func97, Try.ntmps97
    go_wp2_with fail
    with_reducible refine (CV.out _ B0.out).mono ?_
    rintro e w2 ⟨y, rfl, ho, hb⟩
    obtain ⟨yk, ya1, yn1, ym1, ya2, yn2, ym2, ya3, yn3, ym3, ya4, yn4, ym4, ya5, yn5, ym5, yc, ye, rfl⟩ := ho.agg
    have HO := Lib.hid ho
    have B2 := Lib.hid (below_then B0.out hb)
    clear ho hb
    go_wp2
    go_ret
    refine ⟨⟨_, _, d, by rw [XE.out]; rfl, ?_, fun i hi => ?_⟩, B2.out.alloc B2.out.size _⟩
    · rw [XE.out]
      intro i p hp
      have hi : i = 0 := by have := (List.getElem?_eq_some_iff.1 hp).1; simpa using this
      subst hi
      obtain rfl : VV = p := by simpa using hp
      have hb := blk_new w2 (.cells #[.int .i64 yk, .slice ya1 yn1 ym1, .slice ya2 yn2 ym2, .slice ya3 yn3 ym3, .slice ya4 yn4 ym4, .slice ya5 yn5 ym5, .int .i64 yc, .int .i64 ye] 27) rfl
      exact ⟨w2.heap.size, 0, _, _, _, _, _, _, _, _, rfl, B2.out.size, (Array.getElem?_eq_some_iff.1 hb).1, ((HO.out.below (below1 w2 _) (Nat.le_refl _)).vatL (by simp) (by simp)), cellOf hb rfl, cellOf hb rfl, cellOf hb rfl, cellOf hb rfl, cellOf hb rfl, cellOf hb rfl, cellOf hb rfl, cellOf hb rfl⟩
    · rw [XE.out] at hi ⊢
      have hi' : i = 0 := by simpa using hi
      subst hi'
      exact HSM.out
  by_cases h4 : kk = 4
  · subst h4
    have hni : items.length = 0 := hf.h_list rfl
    have XE := Lib.hid (show elems VV = parts by rw [← hVV]; rfl)
    have SP := Lib.hid hsp
    clear hv hI hN hC hL hP hsm ed hVV hf AI CV hval hsp hit HSM li lp h5
    rw [hni] at B0 K0 ⊢
    clear hni
    go_enter Try.func97, Try.ntmps97
    go_wp2_with fail
    with_reducible refine (CP.out _ B0.out).mono ?_
    rintro e w2 ⟨v, F, rfl, hp, hn, hr, hb, _⟩
    obtain ⟨a, c, rfl, h1, h2⟩ := id hp
    have HP := Lib.hid (hp.vecs (lo := w.heap.size) (hi := w2.heap.size) (fun b hb' => ⟨Nat.le_trans (by simp) (hr b hb').1, (hr b hb').2⟩))
    have B2 := Lib.hid (below_then B0.out hb)
    have K2 := Lib.hid (blk_below hb K0.out)
    clear hp hn hr hb h1 h2
    obtain ⟨k0, k1, k2, k3, k4, k5, k6, k7⟩ := vec8 K2.out
    go_wp2
    refine wp_loop_rounds 1 ?_
    rw [rounds_succ]
    go_wp2
    go_ret
    exact ⟨⟨_, _, d', by rw [XE.out]; rfl, by rw [XE.out]; exact HP.out, by rw [XE.out]; exact SP.out⟩, B2.out⟩
  · have hnp : parts.length = 0 := hf.h_noParts h4
    have XE := Lib.hid (show elems VV = items.map (fun x => vecOf kk [x]) by rw [← hVV]; exact elems_items h5 h4)
    have h5b : (kk == 5) = false := by simp [h5]
    obtain ⟨S, hS⟩ : ∃ S : List Vec, items.map (fun x => vecOf kk [x]) = S := ⟨_, rfl⟩
    have SL := Lib.hid (show S.length = items.length by rw [← hS]; simp)
    have SG := Lib.hid (fun i (hi : i < items.length) => (by rw [← hS]; simp [List.getD_eq_getElem?_getD, hi] : S.getD i noV = vecOf kk [items.getD i noI]))
    have SS := Lib.hid (fun i (hi : i < items.length) => (by rw [SG.out i hi]; exact small_one (hit _ (by rw [List.getD_eq_getElem?_getD, List.getElem?_eq_getElem hi]; exact List.getElem_mem hi)) : Small 1 (S.getD i noV)))
    rw [hS] at XE
    have RS := Lib.hid (fun (w2 : World) (v : Value) (xs : List Value) (h : w2.ownsRow w.heap.size 27 8 v 0 xs) (hb : Below w.heap.size w w2) => (⟨⟨[], [], rfl, rfl, by have : xs = [] := List.eq_nil_of_length_eq_zero (by simpa using h.1); subst this; exact h, fun i h => absurd h (Nat.not_lt_zero _), List.nodup_nil, fun b h => by cases h⟩, hb⟩ : RowV w w2 1 S 0 v))
    have FIN := Lib.hid (fun (wr : World) (v : Value) (h : RowV w wr 1 S S.length v) => h.parts)
    rw [SL.out] at FIN
    clear hv hI hN hC hL hP hsm ed hVV hf CV hval hsp hit HSM lp hS h5
    have HNP := Lib.hid hnp
    rw [hnp] at B0 K0 CP ⊢
    clear hnp
    obtain ⟨n, hn'⟩ : ∃ n, items.length = n := ⟨_, rfl⟩
    rw [hn'] at AI SL SG SS FIN B0 K0 li ⊢
    clear hn'
    obtain ⟨i0, hi0, hz0, hz1, hz2⟩ := info_parts infoVec8
    go_enter Try.func97, Try.ntmps97
    go_wp2_with fail
    with_reducible refine (CP.out _ B0.out).mono ?_
    rintro e w2 ⟨v, F, rfl, hp, hn, hr, hb, xs, hx⟩
    obtain ⟨a, c, rfl, _, _⟩ := id hp
    have ST := Lib.hid (RS.out _ _ _ (HNP.out ▸ ownsRow_base hx (by simp)) (below_then B0.out hb))
    have NB := Lib.hid (show (Value.slice a 0 c).ownBlock ≠ some w.heap.size by
      intro e
      have h1 := ((HNP.out ▸ hx : w2.ownsRow _ _ _ (.slice a 0 c) _ _).lt _ e).1
      have h2 : (w.alloc (.cells #[.int .i64 kk, .slice ai n ci, .slice ap 0 cp, .slice an names.length cn, .slice ac cls.length cc, .slice al levels.length cl, .int .i64 code, .int .i64 env] 27)).heap.size = w.heap.size + 1 := by simp
      omega)
    have KA2 := Lib.hid (blk_below hb K0.out)
    clear hp hn hr hb hx
    obtain ⟨k0, k1, k2, k3, k4, k5, k6, k7⟩ := vec8 KA2.out
    go_wp2
    clear k0 k1 k2 k3 k4 k5 k6 k7
    go_loopw [3, 18] (fun v i wr => ∃ k : Nat, k ≤ n ∧ i = .int .i64 k ∧ RowV w wr 1 S k v ∧ wr.heap[w.heap.size]? = some (.cells #[.int .i64 kk, .slice ai n ci, .slice ap 0 cp, .slice an names.length cn, .slice ac cls.length cc, .slice al levels.length cl, .int .i64 code, .int .i64 env] 27 (0, 0)) ∧ v.ownBlock ≠ some w.heap.size) (fun _ i _ => n - (intOf i).toNat)
    case atStart => exact ⟨0, Nat.zero_le _, rfl, by rw [HNP.out]; exact ST.out, KA2.out, by rw [HNP.out]; exact NB.out⟩
    case round =>
      obtain ⟨k, hk, rfl, hrv, hka, hnb⟩ := hrel
      have NB := Lib.hid hnb
      clear hnb
      have RV := Lib.hid hrv
      have KA := Lib.hid hka
      clear hrv hka
      by_cases hlt : k < n
      · obtain ⟨ba, off, rfl, hbB, c0, c1, c2⟩ := AI.out _ _ hlt RV.out.below
        have hbw : ba < wr.heap.size := Nat.lt_of_lt_of_le (Nat.lt_of_lt_of_le hbB hhi) RV.out.below.size
        have hz := (Array.getElem?_eq_some_iff.1 KA.out).1
        have hSk := SG.out k hlt
        obtain ⟨⟨xn, xd, xt⟩, hx⟩ : ∃ x : It, items.getD k noI = x := ⟨_, rfl⟩
        have ht : txtI items k = xt := by unfold txtI; rw [hx]
        rw [ht] at c2
        rw [hx] at hSk
        simp only [hx] at c0 c1
        have HSk := Lib.hid hSk
        clear hSk hx ht
        obtain ⟨k0, k1, k2, k3, k4, k5, k6, k7⟩ := vec8 KA.out
        obtain ⟨w1, hw1⟩ : ∃ W, (wr.alloc (.cells #[.int .i64 xn, .int .i64 xd, .string xt] 62)).alloc (.cells #[.int .i64 xn, .int .i64 xd, .string xt] 62) = W := ⟨_, rfl⟩
        have hsz : (wr.alloc (.cells #[.int .i64 xn, .int .i64 xd, .string xt] 62)).heap.size = wr.heap.size + 1 := by simp
        have BW := Lib.hid (show Below wr.heap.size wr w1 from hw1 ▸ (below1 wr _).alloc (by simp) _)
        have KG := Lib.hid (show w1.heap[wr.heap.size + 1]? = some (.cells #[.int .i64 xn, .int .i64 xd, .string xt] 62 (0, 0)) from hw1 ▸ hsz ▸ blk_new (wr.alloc (.cells #[.int .i64 xn, .int .i64 xd, .string xt] 62)) (.cells #[.int .i64 xn, .int .i64 xd, .string xt] 62) rfl)
        have ES := Lib.hid (show w1.heap.size = wr.heap.size + 1 + 1 from hw1 ▸ (by simp))
        have EW := Lib.hid hw1
        clear hw1 hsz
        obtain ⟨xs, hxs⟩ := RV.out.row
        have XS := Lib.hid hxs
        have OR := Lib.hid (ownsRow_below (ownsRow_below hxs BW.out) (below1 w1 (.cells #[.int .i64 kk, .slice (some ⟨wr.heap.size + 1, 0, none⟩) 1 1, .slice none 0 0, .slice none 0 0, .slice none 0 0, .slice none 0 0, .int .i64 0, .int .i64 0] 27)))
        have HO := Lib.hid (show Own 1 (S.getD k noV) (.agg #[.int .i64 kk, .slice (some ⟨wr.heap.size + 1, 0, none⟩) 1 1, .slice none 0 0, .slice none 0 0, .slice none 0 0, .slice none 0 0, .int .i64 0, .int .i64 0]) (wr.heap.size + 1) w1.heap.size w1 from by rw [HSk.out, ES.out]; exact own_one (x := ⟨xn, xd, xt⟩) KG.out)
        have S1 := Lib.hid (show w.heap.size ≤ wr.heap.size from RV.out.below.size)
        have KA1 := Lib.hid (blk_below (below1 w1 (.cells #[.int .i64 kk, .slice (some ⟨wr.heap.size + 1, 0, none⟩) 1 1, .slice none 0 0, .slice none 0 0, .slice none 0 0, .slice none 0 0, .int .i64 0, .int .i64 0] 27)) (blk_below BW.out KA.out))
        clear hxs
        go_wp2_with (at_builtin; rw [EW.out]; refine wpList_append_own_at _ rfl _ _ 24 rfl w.heap.size 27 i0 _ 8 144 Try.underlying24 hi0 hz0 hz1 hz2 rfl (by decide) _ k xs rfl OR.out ⟨w1.heap.size, 0, none⟩ 1 1 [.int .i64 kk, .slice (some ⟨wr.heap.size + 1, 0, none⟩) 1 1, .slice none 0 0, .slice none 0 0, .slice none 0 0, .slice none 0 0, .int .i64 0, .int .i64 0] (by rw [ES.out]; rfl) rfl ?c1 ?c2 ?c3 ?c4 ?c5 ?_)
        case c1 =>
          intro j u hj
          have hlt : j < 8 := by have := (List.getElem?_eq_some_iff.1 hj).1; simpa using this
          rw [addr_add, Nat.zero_add]
          refine cellOf (blk_new w1 _ rfl) ?_
          rw [← hj]
          rcases (show j = 0 ∨ j = 1 ∨ j = 2 ∨ j = 3 ∨ j = 4 ∨ j = 5 ∨ j = 6 ∨ j = 7 by omega) with rfl | rfl | rfl | rfl | rfl | rfl | rfl | rfl <;> rfl
        case c2 => intro u hu; simp only [List.mem_cons, List.not_mem_nil, or_false] at hu; rcases hu with rfl | rfl | rfl | rfl | rfl | rfl | rfl | rfl <;> rfl
        case c3 => unfold maxLen; omega
        case c4 => omega
        case c5 => have := S1.out; have := ES.out; simp; omega
        intro v' w3 hown' hgrow _ hwh
        have NBN := Lib.hid (show v'.ownBlock ≠ some w.heap.size from fun e => by
          rcases hwh with h | h
          · exact NB.out (h ▸ e)
          · rw [e] at h; have h2 := Option.some.inj h; have := ES.out; omega)
        have NX := Lib.hid (RV.out.next HO.out (Nat.le_succ _) BW.out hgrow (fun ys hy => ownsRow_same XS.out hy ▸ hown') (by simpa using hwh))
        have KAN := Lib.hid ((hgrow.block w.heap.size (by have := ES.out; simp; omega) (fun e => NB.out e.symm)).trans KA1.out)
        clear hown' hgrow hwh k0 k1 k2 k3 k4 k5 k6 k7
        go_wp2
        go_roundw
        case rel => exact ⟨k + 1, by omega, by go_num, NX.out, KAN.out, NBN.out⟩
        case measure => simp [intOf]; omega
      · obtain rfl : k = n := by omega
        obtain ⟨F, h1, h2, h3⟩ := FIN.out _ _ RV.out
        obtain ⟨a, c, rfl, _, _⟩ := id h1
        have HV := Lib.hid (h1.vecs (lo := w.heap.size) (hi := wr.heap.size) (fun b hb' => h3 b hb'))
        clear h1 h2 h3
        go_wp2
        go_ret
        exact ⟨⟨_, _, 1, by rw [XE.out]; rfl, by rw [XE.out]; exact HV.out, fun i hi => by rw [XE.out] at hi ⊢; exact SS.out i (by have := SL.out; omega)⟩, RV.out.below⟩
end Go.Proofs.Yteigfhenbmhepaa

/- MissingIn of the program. -/
namespace Go.Proofs.Yteigfhenbmhepaa
open Go.RowKit
set_option maxRecDepth 100000
set_option linter.unusedVariables false

def itemsV (v : Vec) : List It := match v with | .mk _ items _ _ _ _ _ _ => items
def namesV (v : Vec) : List ByteArray := match v with | .mk _ _ _ names _ _ _ _ => names
def OneMiss (p : Vec) : Prop := (itemsV p).length = 1 ∧ ((itemsV p).getD 0 noI).d = 0
noncomputable def missI (p : Vec) : Int := match bB (OneMiss p) with | true => 1 | false => 0
theorem miss_three (p : Vec) : L3 (missI p) := by unfold missI L3; split <;> omega
/-- An element whose single item, if missing, is nothing else. -/
def GoodE (p : Vec) : Prop := (itemsV p).length = 1 → ((itemsV p).getD 0 noI).d = 0 → (itemsV p).getD 0 noI = noI
theorem good_elems {v : Vec} (h : ValidV v) {i : Nat} (hi : i < (elems v).length) : GoodE ((elems v).getD i noV) := by
  obtain ⟨k, items, parts, names, cls, levels, code, env⟩ := v
  have hf : FlatOk k items parts.length names cls levels code env := h.1.flat
  by_cases h5 : k = 5
  · subst h5
    rw [elems_fun rfl] at hi ⊢
    obtain rfl : i = 0 := by simpa using hi
    intro h1 _
    have h2 : items.length = 1 := h1
    have := (hf.h_func rfl).1
    omega
  · by_cases h4 : k = 4
    · subst h4
      rw [elems_list] at hi ⊢
      have hp := h.1.2 i hi
      have hp' : IsV 2 (parts.getD i noV) := hp
      obtain ⟨p, hpe⟩ : ∃ p, parts.getD i noV = p := ⟨_, rfl⟩
      rw [hpe] at hp' ⊢
      obtain ⟨k', items', parts', names', cls', levels', code', env'⟩ := p
      have hf' : FlatOk k' items' parts'.length names' cls' levels' code' env' := hp'.flat
      intro h1 h2
      have h1' : items'.length = 1 := h1
      exact (cell_i (hf'.h_items 0 (by omega)).1).1 h2
    · rw [elems_items h5 h4] at hi ⊢
      have hi' : i < items.length := by simpa using hi
      have e : (items.map (fun x => vecOf k [x])).getD i noV = vecOf k [items.getD i noI] := by simp [List.getD_eq_getElem?_getD, hi']
      rw [e]
      intro _ h2
      exact (cell_i (hf.h_items i hi').1).1 h2
theorem elems_len {v : Vec} (h : ValidV v) : (elems v).length ≤ 40 := by
  obtain ⟨k, items, parts, names, cls, levels, code, env⟩ := v
  have hf : FlatOk k items parts.length names cls levels code env := h.1.flat
  have hl := hf.h_len
  unfold lenV at hl
  by_cases h5 : k = 5
  · subst h5; rw [elems_fun rfl]; simp
  · rw [if_neg h5] at hl
    by_cases h4 : k = 4
    · subst h4; rw [elems_list]; omega
    · rw [elems_items h5 h4]; simp; omega
/-- What MissingIn answers. -/
noncomputable def missV (v : Vec) : Vec := match bB (ValidV v) with | true => mkN 1 (itF (fun i => logI (missI ((elems v).getD i noV))) (elems v).length) (namesV v) | false => noV
noncomputable def missS (v : Vec) : ByteArray := match bB (ValidV v) with | true => ⟨#[]⟩ | false => badB
theorem missV_yes {v : Vec} (h : ValidV v) : missV v = mkN 1 (itF (fun i => logI (missI ((elems v).getD i noV))) (elems v).length) (namesV v) := by unfold missV; rw [bB_yes h]
theorem missV_no {v : Vec} (h : ¬ ValidV v) : missV v = noV := by unfold missV; rw [bB_no h]
theorem missS_yes {v : Vec} (h : ValidV v) : missS v = ⟨#[]⟩ := by unfold missS; rw [bB_yes h]
theorem missS_no {v : Vec} (h : ¬ ValidV v) : missS v = badB := by unfold missS; rw [bB_no h]
theorem implTruthItem (b : Bool) (w : World) :
    Calls Try.prog 98 #[.bool b] w fun e w' => e = .returned (.agg #[.int .i64 (logI (match b with | true => 1 | false => 0)).n, .int .i64 (logI (match b with | true => 1 | false => 0)).d, .string (logI (match b with | true => 1 | false => 0)).t]) ∧ Below w.heap.size w w' := by
  have B1 := Lib.hid (below1 w (.cells #[.int .i64 0, .int .i64 0, .string ⟨#[]⟩] 62))
  have K1 := Lib.hid (blk_new w (.cells #[.int .i64 0, .int .i64 0, .string ⟨#[]⟩] 62) rfl)
  cases b
  · have C := Lib.hid (fun W => (show Calls Try.prog 51 #[.int .i64 0] W (fun e w' => e = .returned (.agg #[.int .i64 0, .int .i64 1, .string ⟨#[]⟩]) ∧ Below W.heap.size W w') from implLogItem 0 W (.inl rfl)))
    go_enter Try.func98, Try.ntmps98
    go_wp2_with fail
    with_reducible refine (C.out _).mono ?_
    rintro e w2 ⟨rfl, hb⟩
    have K2 := Lib.hid (blk_below hb K1.out)
    have B2 := Lib.hid (below_then B1.out hb)
    clear hb
    obtain ⟨⟨q0, q1, q2⟩, g0, g1, g2⟩ := three K2.out
    go_wp2
    exact item_ret rfl rfl rfl K2.out ⟨rfl, below_three B2.out (Nat.le_refl _) _ _ _⟩
  · have C := Lib.hid (fun W => (show Calls Try.prog 51 #[.int .i64 1] W (fun e w' => e = .returned (.agg #[.int .i64 1, .int .i64 1, .string ⟨#[]⟩]) ∧ Below W.heap.size W w') from implLogItem 1 W (.inr (.inl rfl))))
    go_enter Try.func98, Try.ntmps98
    go_wp2_with fail
    with_reducible refine (C.out _).mono ?_
    rintro e w2 ⟨rfl, hb⟩
    have K2 := Lib.hid (blk_below hb K1.out)
    have B2 := Lib.hid (below_then B1.out hb)
    clear hb
    obtain ⟨⟨q0, q1, q2⟩, g0, g1, g2⟩ := three K2.out
    go_wp2
    exact item_ret rfl rfl rfl K2.out ⟨rfl, below_three B2.out (Nat.le_refl _) _ _ _⟩
set_option maxHeartbeats 1000000 in
theorem implOneMiss (d : Nat) (v : Vec) (val : Value) (lo hi : Nat) (w : World) (hv : VecAt lo hi w d v val) (hhi : hi ≤ w.heap.size) (hsm : Small d v) (hg : GoodE v) :
    Calls Try.prog 99 #[val] w fun e w' => e = .returned (.bool (bB (OneMiss v))) ∧ Below w.heap.size w w' := by
  obtain ⟨kk, items, parts, names, cls, levels, code, env⟩ := v
  obtain ⟨d', ai, ci, ap, cp, an, cn, ac, cc, al, cl, ed, rfl, hI, hN, hC, hL, hP⟩ := vecAt_open hv
  have li : items.length ≤ 1048576 := by subst ed; exact hsm.1
  have hz : ∀ i, i < items.length → (items.getD i noI).t.size ≤ 1048576 := fun i hi => by subst ed; exact hsm.2.2.2.2.2.1 _ (by rw [List.getD_eq_getElem?_getD, List.getElem?_eq_getElem hi]; exact List.getElem_mem hi)
  have XO := Lib.hid (show OneMiss (.mk kk items parts names cls levels code env) ↔ items.length = 1 ∧ (items.getD 0 noI).d = 0 from Iff.rfl)
  have hg' : items.length = 1 → (items.getD 0 noI).d = 0 → items.getD 0 noI = noI := hg
  have AI := Lib.hid (fun (k : Nat) (w1 : World) (hk : k < items.length) (hb : Below w.heap.size w w1) => (hI.below hb hhi).at_ hk)
  obtain ⟨OO, hO⟩ : ∃ O, OneMiss (.mk kk items parts names cls levels code env) = O := ⟨_, rfl⟩
  rw [hO] at XO ⊢
  have B0 := Lib.hid (below1 w (.cells #[.int .i64 kk, .slice ai items.length ci, .slice ap parts.length cp, .slice an names.length cn, .slice ac cls.length cc, .slice al levels.length cl, .int .i64 code, .int .i64 env] 27))
  clear hv hI hN hC hL hP hsm hg ed hO
  by_cases h1 : items.length = 1
  · obtain ⟨ba, off, rfl, hbB, c0, c1, c2⟩ := AI.out 0 w (by omega) (Below.refl _ _)
    have hbw : ba < w.heap.size := Nat.lt_of_lt_of_le hbB hhi
    obtain ⟨⟨xn, xd, xt⟩, hx⟩ : ∃ x : It, items.getD 0 noI = x := ⟨_, rfl⟩
    have hxs : xt.size ≤ 1048576 := by have := hz 0 (by omega); rw [hx] at this; exact this
    have ht : txtI items 0 = xt := by unfold txtI; rw [hx]
    rw [ht] at c2
    rw [hx] at hg' XO
    simp only [hx, Nat.zero_mul, Nat.add_zero] at c0 c1 c2
    rw [h1] at B0 ⊢
    by_cases hd : xd = 0
    · have e := hg' h1 hd
      obtain ⟨rfl, rfl, rfl⟩ : xn = 0 ∧ xd = 0 ∧ xt = ⟨#[]⟩ := ⟨congrArg It.n e, congrArg It.d e, congrArg It.t e⟩
      have X := Lib.hid (XO.out.2 ⟨h1, rfl⟩)
      clear e hg' hx ht hd hz AI h1
      go_enter Try.func99, Try.ntmps99
      go_wp2
      go_ret
      exact ⟨ret_yes X.out, B0.out⟩
    · have X := Lib.hid (fun h => hd (XO.out.1 h).2 : ¬ OO)
      have hdb : (xd == 0) = false := by simp [hd]
      clear hg' hx ht hz AI h1
      go_enter Try.func99, Try.ntmps99
      go_wp2
      go_ret
      exact ⟨by first | exact ret_no X.out | (rw [bB_no X.out]; simp [hd]), B0.out⟩
  · have X := Lib.hid (fun h => h1 (XO.out.1 h).1 : ¬ OO)
    have hb1 : ((items.length : Int) == 1) = false := beq_eq_false_iff_ne.2 (by omega)
    clear hg' hz AI h1
    obtain ⟨n, hn⟩ : ∃ n, items.length = n := ⟨_, rfl⟩
    rw [hn] at hb1 B0 li ⊢
    clear hn
    go_enter Try.func99, Try.ntmps99
    go_wp2
    go_ret
    exact ⟨ret_no X.out, B0.out⟩
end Go.Proofs.Yteigfhenbmhepaa

/- MissingIn of the program: the loop. -/
namespace Go.Proofs.Yteigfhenbmhepaa
open Go.RowKit
set_option maxRecDepth 100000
set_option linter.unusedVariables false

structure KeptE (lo : Nat) (w5 wr : World) : Prop where
  size : w5.heap.size ≤ wr.heap.size
  kept : Kept lo w5.heap.size w5 wr
theorem KeptE.refl (lo : Nat) (w5 : World) : KeptE lo w5 w5 := ⟨Nat.le_refl _, fun _ _ _ _ => rfl⟩
theorem KeptE.keep {lo : Nat} {w5 wr w1 : World} (h : KeptE lo w5 wr) (hb : Below wr.heap.size wr w1) : KeptE lo w5 w1 := ⟨Nat.le_trans h.size hb.size, h.kept.trans (Kept.of_below hb h.size)⟩
theorem cell_heap {w w' : World} {g o : Nat} (h : w'.heap[g]? = w.heap[g]?) : w'.cell? ⟨g, o, none⟩ = w.cell? ⟨g, o, none⟩ := by unfold World.cell?; simp only [h]
theorem KeptE.next {lo : Nat} {w5 wr w1 : World} (h : KeptE lo w5 wr) (hs : wr.heap.size ≤ w1.heap.size) (hb : ∀ g, lo ≤ g → g < w5.heap.size → w1.heap[g]? = wr.heap[g]?) : KeptE lo w5 w1 :=
  ⟨Nat.le_trans h.size hs, h.kept.trans (fun g _ h0 h1 => cell_heap (hb g h0 h1))⟩
theorem far_row {wr : World} {base r b n : Nat} {t el T1 T2 : TypeId} {C C1 C2 : Array Value} {v : Value} {xs : List Value} (h : wr.ownsRow base el 3 v n xs) (hr : r < base) (hb : b < base) {q : Nat × TypeId × Array Value}
    (hq : q ∈ (wr.heap.size, t, C) :: [(r, T1, C1), (b, T2, C2)]) : ∀ k, v.ownBlock = some k → q.1 ≠ k := by
  intro k hk e
  have h1 := h.lt k hk
  rcases List.mem_cons.1 hq with rfl | hq
  · simp only at e; omega
  rcases List.mem_cons.1 hq with rfl | hq
  · simp only at e; omega
  · obtain rfl := List.mem_singleton.1 hq
    simp only at e; omega
set_option maxHeartbeats 4000000 in
theorem implMissing (d : Nat) (v : Vec) (val : Value) (lo hi : Nat) (w : World) (hv : VecAt lo hi w d v val) (hhi : hi ≤ w.heap.size) (hsm : Small d v) :
    Calls Try.prog 46 #[val] w (ResVS 1 (missV v) (missS v) w) := by
  have C1 := Lib.hid (fun (w1 : World) (hb : Below w.heap.size w w1) => implIsVector d v val lo hi w1 (hv.below hb hhi) (Nat.le_trans hhi hb.size) hsm)
  have CE := Lib.hid (fun (w1 : World) (hb : Below w.heap.size w w1) (h : ValidV v) => implElems d v val lo hi w1 (hv.below hb hhi) (Nat.le_trans hhi hb.size) hsm h)
  obtain ⟨VV, hVV⟩ : ∃ V, v = V := ⟨_, rfl⟩
  have XV := Lib.hid (fun (h : ValidV VV) => (missV_yes h))
  rw [hVV] at C1 CE ⊢
  have XN := Lib.hid (show namesV VV = namesV v by rw [hVV])
  obtain ⟨E, hE⟩ : ∃ E, elems VV = E := ⟨_, rfl⟩
  have XL := Lib.hid (fun (h : ValidV VV) => (hE ▸ elems_len h : E.length ≤ 40))
  have XG := Lib.hid (fun (h : ValidV VV) (i : Nat) (hi : i < E.length) => (by rw [← hE] at hi ⊢; exact good_elems h hi : GoodE (E.getD i noV)))
  obtain ⟨kk, items, parts, names, cls, levels, code, env⟩ := v
  obtain ⟨d', ai, ci, ap, cp, an, cn, ac, cc, al, cl, ed, rfl, hI, hN, hC, hL, hP⟩ := vecAt_open hv
  have ln : names.length ≤ 1048576 := by subst ed; exact hsm.2.2.1
  have XN := Lib.hid (show namesV VV = names from XN.out)
  rw [hE, XN.out] at XV
  have CC := Lib.hid (fun (w1 : World) (hb : Below w.heap.size w w1) => implCopyAny names an cn lo hi w1 (hN.below hb hhi) ln)
  clear hv hI hN hC hL hP hsm ed hVV
  go_enter Try.func46, Try.ntmps46
  go_wp2_with fail
  obtain ⟨w1, hw1⟩ : ∃ W, (w.alloc (.cells #[.int .i64 kk, .slice ai items.length ci, .slice ap parts.length cp, .slice an names.length cn, .slice ac cls.length cc, .slice al levels.length cl, .int .i64 code, .int .i64 env] 27)).alloc (.cells #[.int .i64 0, .slice none 0 0, .slice none 0 0, .slice none 0 0, .slice none 0 0, .slice none 0 0, .int .i64 0, .int .i64 0] 27) = W := ⟨_, rfl⟩
  have hsz : (w.alloc (.cells #[.int .i64 kk, .slice ai items.length ci, .slice ap parts.length cp, .slice an names.length cn, .slice ac cls.length cc, .slice al levels.length cl, .int .i64 code, .int .i64 env] 27)).heap.size = w.heap.size + 1 := by simp
  have B1 := Lib.hid (show Below w.heap.size w w1 from hw1 ▸ (below1 w _).alloc (by simp) _)
  have KA := Lib.hid (show w1.heap[w.heap.size]? = some (.cells #[.int .i64 kk, .slice ai items.length ci, .slice ap parts.length cp, .slice an names.length cn, .slice ac cls.length cc, .slice al levels.length cl, .int .i64 code, .int .i64 env] 27 (0, 0)) from hw1 ▸ blk_old (blk_new w _ rfl))
  have KR := Lib.hid (show w1.heap[w.heap.size + 1]? = some (.cells #[.int .i64 0, .slice none 0 0, .slice none 0 0, .slice none 0 0, .slice none 0 0, .slice none 0 0, .int .i64 0, .int .i64 0] 27 (0, 0)) from hw1 ▸ hsz ▸ blk_new (w.alloc (.cells #[.int .i64 kk, .slice ai items.length ci, .slice ap parts.length cp, .slice an names.length cn, .slice ac cls.length cc, .slice al levels.length cl, .int .i64 code, .int .i64 env] 27)) (.cells #[.int .i64 0, .slice none 0 0, .slice none 0 0, .slice none 0 0, .slice none 0 0, .slice none 0 0, .int .i64 0, .int .i64 0] 27) rfl)
  rw [hw1]
  clear hw1 hsz
  with_reducible refine (C1.out _ B1.out).mono ?_
  rintro e w2 ⟨rfl, b⟩
  have B2 := Lib.hid (below_then B1.out b)
  have KA2 := Lib.hid (blk_below b KA.out)
  have KR2 := Lib.hid (blk_below b KR.out)
  clear b
  obtain ⟨k0, k1, k2, k3, k4, k5, k6, k7⟩ := vec8 KA2.out
  by_cases q : ValidV VV
  · rw [bB_yes q]
    have XV1 := Lib.hid (XV.out q)
    have XS1 := Lib.hid (missS_yes q)
    have hl := XL.out q
    have GE := Lib.hid (XG.out q)
    have CE := Lib.hid (fun w1 hb => CE.out w1 hb q)
    clear q
    go_wp2_with fail
    with_reducible refine (CC.out _ B2.out).mono ?_
    rintro e w3 ⟨v, rfl, ⟨na, nc, F, rfl, hT, hnd, hr, hcap⟩, b⟩
    have B3 := Lib.hid (below_then B2.out b)
    have KA3 := Lib.hid (blk_below b KA2.out)
    have KR3 := Lib.hid (blk_below b KR2.out)
    have hltA := (Array.getElem?_eq_some_iff.1 KA3.out).1
    have hltR := (Array.getElem?_eq_some_iff.1 KR3.out).1
    have ST := Lib.hid (show AppN w (w3.alloc (.cells #[.int .i64 1, .slice none 0 0, .slice none 0 0, .slice na names.length nc, .slice none 0 0, .slice none 0 0, .int .i64 0, .int .i64 0] 27)) (w.heap.size + 1) w3.heap.size 1 (itF (fun i => logI (missI (E.getD i noV))) 0) none 0 0 names na nc F from
      ⟨blk_old KR3.out, blk_new w3 _ rfl, ⟨rfl, .inl ⟨rfl, rfl⟩⟩, hT.kept (fun g hg => (below1 w3 _).block g (hr g hg).2), hcap, hnd, fun g hg => by have h1 := hr g hg; have h2 := (Array.getElem?_eq_some_iff.1 KR2.out).1; omega, B3.out.alloc B3.out.size _, by omega, hltR⟩)
    have KA4 := Lib.hid (blk_old (p := .cells #[.int .i64 1, .slice none 0 0, .slice none 0 0, .slice na names.length nc, .slice none 0 0, .slice none 0 0, .int .i64 0, .int .i64 0] 27) KA3.out)
    clear b hT hnd hr hcap k0 k1 k2 k3 k4 k5 k6 k7
    obtain ⟨k0, k1, k2, k3, k4, k5, k6, k7⟩ := vec8 KA3.out
    go_wp2_with fail
    obtain ⟨w4, hw4⟩ : ∃ W, w3.alloc (.cells #[.int .i64 1, .slice none 0 0, .slice none 0 0, .slice na names.length nc, .slice none 0 0, .slice none 0 0, .int .i64 0, .int .i64 0] 27) = W := ⟨_, rfl⟩
    have S34 := Lib.hid (show w4.heap.size = w3.heap.size + 1 from hw4 ▸ (by simp))
    rw [hw4] at ST KA4 ⊢
    clear hw4
    with_reducible refine (CE.out _ ST.out.below).mono ?_
    rintro e w5 ⟨⟨a, c, D, rfl, hVS, hSm⟩, b⟩
    rw [hE] at hVS hSm ⊢
    have AP5 := Lib.hid (ST.out.keep b)
    have SZ5 := Lib.hid b.size
    have VS := Lib.hid (fun (k : Nat) (W : World) (hk : k < E.length) (KE : KeptE w4.heap.size w5 W) => (hVS.kept KE.kept).at_ hk)
    have SM := Lib.hid hSm
    obtain ⟨n, hn⟩ : ∃ n, E.length = n := ⟨_, rfl⟩
    rw [hn] at VS SM hl GE XV1 ⊢
    clear hn hVS hSm b k0 k1 k2 k3 k4 k5 k6 k7 XL XG XV hE hltR hltA
    obtain ⟨b, hb⟩ : ∃ b, w3.heap.size = b := ⟨_, rfl⟩
    rw [hb] at AP5 S34 ⊢
    clear hb
    go_wp2
    go_loopw [18] (fun i wr => ∃ (k : Nat) (sa : Option Addr) (sn sc : Nat), k ≤ n ∧ i = .int .i64 k ∧ AppN w wr (w.heap.size + 1) b 1 (itF (fun i => logI (missI (E.getD i noV))) k) sa sn sc names na nc F ∧ wr.ownsRow w5.heap.size 62 3 (.slice sa sn sc) (itF (fun i => logI (missI (E.getD i noV))) k).length (itCells (itF (fun i => logI (missI (E.getD i noV))) k)) ∧ KeptE w4.heap.size w5 wr) (fun i _ => n - (intOf i).toNat)
    case atStart => exact ⟨0, none, 0, 0, Nat.zero_le _, rfl, AP5.out, ⟨rfl, .inl ⟨rfl, rfl⟩⟩, KeptE.refl _ _⟩
    case round =>
      obtain ⟨k, sa, sn, sc, hk, rfl, hap, hor, hke⟩ := hrel
      have AP := Lib.hid hap
      have OR := Lib.hid hor
      have KE := Lib.hid hke
      clear hap hor hke
      by_cases hlt : k < n
      · obtain ⟨bb, off, u0, u1, u2, u3, u4, u5, u6, u7, rfl, hbB, hv, c0, c1, c2, c3, c4, c5, c6, c7⟩ := VS.out _ _ hlt KE.out
        obtain ⟨ek, ea1, en1, em1, ea2, en2, em2, ea3, en3, em3, ea4, en4, em4, ea5, en5, em5, ec, ee, e⟩ := hv.agg
        simp only [Value.agg.injEq, Array.mk.injEq, List.cons.injEq, and_true] at e
        obtain ⟨rfl, rfl, rfl, rfl, rfl, rfl, rfl, rfl⟩ := e
        have COM := Lib.hid (fun (W : World) (KW : KeptE w4.heap.size w5 W) => implOneMiss D _ _ w4.heap.size w5.heap.size W (VecAt.kept (fun b o h0 h1 => (KW.kept b o h0 h1).trans (KE.out.kept b o h0 h1).symm) _ _ _ hv) KW.size (SM.out k hlt) (GE.out k hlt))
        have CTI := Lib.hid (fun W => (show Calls Try.prog 98 #[.bool (bB (OneMiss (E.getD k noV)))] W (fun e w' => e = .returned (.agg #[.int .i64 (logI (missI (E.getD k noV))).n, .int .i64 (logI (missI (E.getD k noV))).d, .string (logI (missI (E.getD k noV))).t]) ∧ Below W.heap.size W w') from implTruthItem (bB (OneMiss (E.getD k noV))) W))
        have hbw : bb < wr.heap.size := Nat.lt_of_lt_of_le hbB KE.out.size
        have LN := Lib.hid (show (itF (fun i => logI (missI (E.getD i noV))) k).length ≤ 1048576 by rw [itF_len]; omega)
        have NX := Lib.hid (itF_succ (fun i => logI (missI (E.getD i noV))) k)
        have BB5 := Lib.hid (show b < w5.heap.size by have := S34.out; have := SZ5.out; omega)
        have FAR := Lib.hid (fun C q hq => far_row (t := 27) (C := C) (T1 := 27) (T2 := 27) (C1 := #[.int .i64 0, .slice none 0 0, .slice none 0 0, .slice none 0 0, .slice none 0 0, .slice none 0 0, .int .i64 0, .int .i64 0]) (C2 := #[.int .i64 1, .slice sa sn sc, .slice none 0 0, .slice na names.length nc, .slice none 0 0, .slice none 0 0, .int .i64 0, .int .i64 0]) (r := w.heap.size + 1) (b := b) (q := q) OR.out (by have := AP.out.o2; have := BB5.out; omega) BB5.out hq)
        have W0 := Lib.hid (show w.heap.size ≤ w5.heap.size by have := AP.out.o2; have := BB5.out; omega)
        have B0' := Lib.hid (show w.heap.size ≤ b by have := AP.out.o2; omega)
        have hbb := AP.out.big
        clear hv
        go_wp2
        obtain ⟨w6, hw6⟩ : ∃ W, wr.alloc (.cells #[.int .i64 ek, .slice ea1 en1 em1, .slice ea2 en2 em2, .slice ea3 en3 em3, .slice ea4 en4 em4, .slice ea5 en5 em5, .int .i64 ec, .int .i64 ee] 27) = W := ⟨_, rfl⟩
        have AP := Lib.hid (show AppN w w6 (w.heap.size + 1) b 1 (itF (fun i => logI (missI (E.getD i noV))) k) sa sn sc names na nc F from hw6 ▸ AP.out.keep (below1 wr _))
        have OR := Lib.hid (show w6.ownsRow w5.heap.size 62 3 (.slice sa sn sc) (itF (fun i => logI (missI (E.getD i noV))) k).length (itCells (itF (fun i => logI (missI (E.getD i noV))) k)) from hw6 ▸ ownsRow_below OR.out (below1 wr _))
        have KE := Lib.hid (show KeptE w4.heap.size w5 w6 from hw6 ▸ KE.out.keep (below1 wr _))
        have X1 := Lib.hid (show w6.heap[wr.heap.size]? = some (.cells #[.int .i64 ek, .slice ea1 en1 em1, .slice ea2 en2 em2, .slice ea3 en3 em3, .slice ea4 en4 em4, .slice ea5 en5 em5, .int .i64 ec, .int .i64 ee] 27 (0, 0)) from hw6 ▸ blk_new wr _ rfl)
        rw [hw6]
        clear hw6 c0 c1 c2 c3 c4 c5 c6 c7
        have H := Lib.hid (heldC_cons AP.out.heldC X1.out)
        refine run_region (ops := (opsOf Try.f46 7)) (S := fun w' => HeldC w w' ([(wr.heap.size, 27, #[.int .i64 ek, .slice ea1 en1 em1, .slice ea2 en2 em2, .slice ea3 en3 em3, .slice ea4 en4 em4, .slice ea5 en5 em5, .int .i64 ec, .int .i64 ee]), ((w.heap.size + 1), 27, #[.int .i64 0, .slice none 0 0, .slice none 0 0, .slice none 0 0, .slice none 0 0, .slice none 0 0, .int .i64 0, .int .i64 0]), (b, 27, #[.int .i64 1, .slice sa sn sc, .slice none 0 0, .slice na names.length nc, .slice none 0 0, .slice none 0 0, .int .i64 0, .int .i64 0])])) [(0, true), (1, true), (2, true), (3, false), (4, false), (5, false), (6, false), (7, true), (8, false)] (by kernel_rfl) (by kernel_rfl) (by kernel_rfl) (by kernel_rfl) (by kernel_rfl) (fun _ _ _ _ _ h => h) (heldC_drew H.out) ?_
        have H := Lib.hid (heldC_drew H.out)
        have AP := Lib.hid (AP.out.keep (below_drew' (Below.refl _ _)))
        have KE := Lib.hid (KE.out.keep (below_drew' (Below.refl _ _)))
        have OR := Lib.hid (ownsRow_below OR.out (below_drew' (Below.refl _ _)))
        refine runC_partV (b := b) (by kernel_rfl) (show opAt (opsOf Try.f46 7) 0 = some (some 22, .fieldAddr 27 (.tmp 4) 1, none) from by kernel_rfl) (by kernel_rfl) (by kernel_rfl) (by kernel_rfl) ?_
        refine runC_cell (b := b) (j := 1) (v := .slice sa sn sc) load_its (show opAt (opsOf Try.f46 7) 1 = some (some 23, .load 23 (.tmp 22), none) from by kernel_rfl) (by kernel_rfl) (by kernel_rfl) (by kernel_rfl) (List.Mem.tail _ (List.Mem.tail _ (List.Mem.head _))) rfl ?_
        refine runC_vec (b := wr.heap.size) (show opAt (opsOf Try.f46 7) 2 = some (some 24, .load 27 (.tmp 6), none) from by kernel_rfl) (by kernel_rfl) (by kernel_rfl) (by kernel_rfl) (List.Mem.head _) ?_
        refine run_call (args := [.agg #[.int .i64 ek, .slice ea1 en1 em1, .slice ea2 en2 em2, .slice ea3 en3 em3, .slice ea4 en4 em4, .slice ea5 en5 em5, .int .i64 ec, .int .i64 ee]]) (show opAt (opsOf Try.f46 7) 3 = some (some 25, .call { callee := .value (.func 99), args := [(.tmp 24)].toArray, argTypes := [27].toArray }, none) from by kernel_rfl) (by kernel_rfl) (by kernel_rfl) (by kernel_rfl) (by kernel_rfl) ?_
        refine (COM.out _ KE.out).mono ?_
        rintro en rw1 ⟨rfl, hb⟩
        refine ⟨_, rfl, heldC_call H.out hb, ?_⟩
        have H := Lib.hid (heldC_call H.out hb)
        have OR := Lib.hid (ownsRow_below OR.out hb)
        have AP := Lib.hid (AP.out.keep hb)
        have KE := Lib.hid (KE.out.keep hb)
        clear hb
        refine run_call (args := [.bool (bB (OneMiss (E.getD k noV)))]) (show opAt (opsOf Try.f46 7) 4 = some (some 26, .call { callee := .value (.func 98), args := [(.tmp 25)].toArray, argTypes := [4].toArray }, none) from by kernel_rfl) (by kernel_rfl) (by kernel_rfl) (by kernel_rfl) (by kernel_rfl) ?_
        refine (CTI.out _).mono ?_
        rintro en rw2 ⟨rfl, hb⟩
        refine ⟨_, rfl, heldC_call H.out hb, ?_⟩
        have H := Lib.hid (heldC_call H.out hb)
        have OR := Lib.hid (ownsRow_below OR.out hb)
        have AP := Lib.hid (AP.out.keep hb)
        have KE := Lib.hid (KE.out.keep hb)
        clear hb
        refine tail_item2 (logI (missI (E.getD k noV))) (show opAt (opsOf Try.f46 7) 5 = some (some 27, .buildSlice 23 1 #[(0, (.tmp 26))], none) from by kernel_rfl) (by kernel_rfl) (by kernel_rfl) (show opAt (opsOf Try.f46 7) 6 = some (some 28, .call { callee := .builtin .append, args := [(.tmp 23), (.tmp 27)].toArray, argTypes := [23, 23].toArray }, none) from by kernel_rfl) (by kernel_rfl) (fun _ => by kernel_rfl) (show opAt (opsOf Try.f46 7) 7 = some (some 29, .fieldAddr 27 (.tmp 4) 1, none) from by kernel_rfl) (by kernel_rfl) (by kernel_rfl) (fun _ _ => by kernel_rfl) (show opAt (opsOf Try.f46 7) 8 = some (none, .store 23 (.tmp 29) (.tmp 28), none) from by kernel_rfl) (by kernel_rfl) (by kernel_rfl) H.out OR.out LN.out KE.out.size W0.out (List.Mem.tail _ (List.Mem.tail _ (List.Mem.head _))) rfl BB5.out B0'.out (fun q hq => FAR.out _ q hq) ?_
        rintro v' w2 ⟨sa, sn, sc, rfl⟩ hK hO hB hZ hR hG
        simp only [putAll, Act.put, List.setIfInBounds_toArray, List.set_cons_zero, List.set_cons_succ]
        have OW := Lib.hid hO
        have AN := Lib.hid (AP.out.next hK (ownsRow_base hO (by have := BB5.out; omega)) hB (hR _ (List.Mem.tail _ (List.Mem.head _)) (by have := AP.out.o2; simp only; omega)) (fun g hg => hG g (by have := AP.out.rng g hg; have := AP.out.big; omega) (by have := AP.out.rng g hg; omega) (fun j hj => by have := (OR.out.lt j hj).1; have := AP.out.rng g hg; have := BB5.out; omega)))
        have KN := Lib.hid (KE.out.next hZ (fun g h0 h1 => hG g (by have := KE.out.size; omega) (by have := S34.out; omega) (fun j hj => by have := (OR.out.lt j hj).1; omega)))
        clear hK hO hB hR hG hZ H FAR LN
        go_wp2
        go_roundw
        case rel => exact ⟨k + 1, sa, sn, sc, by omega, by go_num, NX.out ▸ AN.out, by rw [← NX.out]; exact OW.out, KN.out⟩
        case measure => simp [intOf]; omega
      · obtain rfl : k = n := by omega
        have K1 := Lib.hid AP.out.vec
        have K0 := Lib.hid AP.out.res
        have FN := Lib.hid AP.out.fin
        obtain ⟨k0, k1, k2, k3, k4, k5, k6, k7⟩ := vec8 K1.out
        obtain ⟨z0, z1, z2, z3, z4, z5, z6, z7⟩ := vec8 K0.out
        obtain ⟨f0, f1, f2, f3, f4, f5, f6, f7⟩ := free8 K0.out
        go_wp2
        rw [XV1.out, XS1.out]
        exact vec_endS rfl rfl rfl rfl K0.out FN.out.withS
  · rw [bB_no q]
    have XV1 := Lib.hid (missV_no q)
    have XS1 := Lib.hid (missS_no q)
    clear q k0 k1 k2 k3 k4 k5 k6 k7
    have K0 := Lib.hid KR2.out
    obtain ⟨z0, z1, z2, z3, z4, z5, z6, z7⟩ := vec8 K0.out
    obtain ⟨f0, f1, f2, f3, f4, f5, f6, f7⟩ := free8 K0.out
    go_wp2
    rw [XV1.out, XS1.out]
    exact vec_endS rfl rfl rfl rfl K0.out (zeroS _ w _ (put8_below B2.out (Nat.le_succ _)))
end Go.Proofs.Yteigfhenbmhepaa

/- MissingIn of the reference. -/
namespace Go.Proofs.Yteigfhenbmhepaa
open Go.RowKit
set_option maxRecDepth 100000
set_option linter.unusedVariables false

/-- What the loop of the reference's MissingIn keeps. -/
structure MisR (w wr : World) (f : Nat → Int) (k : Nat) (v : Value) (CA : Array Value) : Prop where
  row : wr.ownsRow (w.heap.size + 2) 3 1 v k (intsF f k)
  below : Below w.heap.size w wr
  ka : wr.heap[w.heap.size]? = some (.cells CA 27 (0, 0))
  kr : wr.heap[w.heap.size + 1]? = some (.cells #[.int .i64 0, .slice none 0 0, .slice none 0 0, .slice none 0 0, .slice none 0 0, .slice none 0 0, .int .i64 0, .int .i64 0] 27 (0, 0))
theorem MisR.big {w wr : World} {f : Nat → Int} {k : Nat} {v : Value} {CA : Array Value} (h : MisR w wr f k v CA) : w.heap.size + 1 < wr.heap.size := (Array.getElem?_eq_some_iff.1 h.kr).1
theorem MisR.keep {w wr w1 : World} {f : Nat → Int} {k : Nat} {v : Value} {CA : Array Value} (h : MisR w wr f k v CA) (hb : Below wr.heap.size wr w1) : MisR w w1 f k v CA :=
  ⟨ownsRow_below h.row hb, below_then h.below hb, blk_below hb h.ka, blk_below hb h.kr⟩
theorem MisR.next {w wr w1 : World} {f : Nat → Int} {k : Nat} {z : Int} {v v' : Value} {CA : Array Value} {o : Obj} (h : MisR w wr f k v CA) (hg : (wr.alloc o).grownBy w1 v.ownBlock) (hr : w1.ownsRow (w.heap.size + 2) 3 1 v' (k + 1) (intsF f k ++ [.int .i64 z])) (hz : z = f k) : MisR w w1 f (k + 1) v' CA := by
  subst hz
  have hbig := h.big
  have hs : (wr.alloc o).heap.size = wr.heap.size + 1 := by simp
  refine ⟨intsF_succ f k ▸ hr, (h.below.alloc h.below.size o).grown hg (by rw [hs]; omega) (fun r hr' => by have := (h.row.lt r hr').1; omega), ?_, ?_⟩
  · rw [hg.block _ (by rw [hs]; omega) (fun e => by have := (h.row.lt _ e.symm).1; omega)]
    exact blk_old h.ka
  · rw [hg.block _ (by rw [hs]; omega) (fun e => by have := (h.row.lt _ e.symm).1; omega)]
    exact blk_old h.kr
theorem elems_lenV {k : Int} {items : List It} {parts : List Vec} {names cls levels : List ByteArray} {code env : Int} (hf : FlatOk k items parts.length names cls levels code env) : lenV k items.length parts.length = (elems (.mk k items parts names cls levels code env)).length := by
  unfold lenV
  by_cases h5 : k = 5
  · subst h5; rw [elems_fun rfl, if_pos rfl]; rfl
  · rw [if_neg h5]
    by_cases h4 : k = 4
    · subst h4; rw [elems_list, hf.h_list rfl, Nat.zero_add]
    · rw [elems_items h5 h4, hf.h_noParts h4, List.length_map, Nat.add_zero]
theorem miss_yes {p : Vec} (h1 : (itemsV p).length = 1) (h2 : ((itemsV p).getD 0 noI).d = 0) : missI p = 1 := by unfold missI; rw [bB_yes (show OneMiss p from ⟨h1, h2⟩)]
theorem miss_no {p : Vec} (h : ¬ ((itemsV p).length = 1 ∧ ((itemsV p).getD 0 noI).d = 0)) : missI p = 0 := by unfold missI; rw [bB_no (show ¬ OneMiss p from h)]
set_option maxHeartbeats 4000000 in
theorem specMissing (d : Nat) (v : Vec) (val : Value) (lo hi : Nat) (w : World) (hv : VecAt lo hi w d v val) (hhi : hi ≤ w.heap.size) (hsm : Small d v) :
    Calls Try.prog 45 #[val] w (ResVS 1 (missV v) (missS v) w) := by
  have C1 := Lib.hid (fun (w1 : World) (hb : Below w.heap.size w w1) => specIsVector d v val lo hi w1 (hv.below hb hhi) (Nat.le_trans hhi hb.size) hsm)
  obtain ⟨VV, hVV⟩ : ∃ V, v = V := ⟨_, rfl⟩
  rw [hVV] at C1 ⊢
  have XV := Lib.hid (fun (h : ValidV VV) => missV_yes h)
  have XN := Lib.hid (show namesV VV = namesV v by rw [hVV])
  obtain ⟨E, hE⟩ : ∃ E, elems VV = E := ⟨_, rfl⟩
  have XL := Lib.hid (fun (h : ValidV VV) => (hE ▸ elems_len h : E.length ≤ 40))
  obtain ⟨kk, items, parts, names, cls, levels, code, env⟩ := v
  obtain ⟨d', ai, ci, ap, cp, an, cn, ac, cc, al, cl, ed, rfl, hI, hN, hC, hL, hP⟩ := vecAt_open hv
  have ln : names.length ≤ 1048576 := by subst ed; exact hsm.2.2.1
  have li : items.length ≤ 1048576 := by subst ed; exact hsm.1
  have lp : parts.length ≤ 1048576 := by subst ed; exact hsm.2.1
  have XN := Lib.hid (show namesV VV = names from XN.out)
  rw [hE, XN.out] at XV
  have HT := Lib.hid (fun (w1 : World) (hb : Below w.heap.size w w1) => hN.below hb hhi)
  have AI := Lib.hid (fun (k : Nat) (w1 : World) (hk : k < items.length) (hb : Below w.heap.size w w1) => (hI.below hb hhi).at_ hk)
  have AP := Lib.hid (fun (k : Nat) (w1 : World) (hk : k < parts.length) (hb : Below w.heap.size w w1) => (hP.below hb hhi).at_ hk)
  have FL := Lib.hid (fun (h : ValidV VV) => (by rw [← hVV] at h; exact h.1.flat : FlatOk kk items parts.length names cls levels code env))
  have NL := Lib.hid (fun (h : ValidV VV) => (by rw [← hE, ← hVV]; exact elems_lenV (FL.out h) : lenV kk items.length parts.length = E.length))
  have K3 := Lib.hid (fun (h : ValidV VV) => (by
    by_cases h5 : kk = 5
    · have e : E = [VV] := by rw [← hE, ← hVV]; subst h5; exact elems_fun rfl
      exact .inl ⟨h5, by rw [e]; rfl, by
        rw [e]
        refine miss_no (fun hh => ?_)
        have h1 : items.length = 1 := by have := hh.1; rw [← hVV] at this; exact this
        have := ((FL.out h).h_func h5).1
        omega⟩
    · by_cases h4 : kk = 4
      · exact .inr (.inl ⟨h4, by rw [← hE, ← hVV]; subst h4; exact elems_list⟩)
      · exact .inr (.inr ⟨h5, h4, by rw [← hE, ← hVV]; exact elems_items h5 h4⟩) : (kk = 5 ∧ E.length = 1 ∧ missI (E.getD 0 noV) = 0) ∨ (kk = 4 ∧ E = parts) ∨ (kk ≠ 5 ∧ kk ≠ 4 ∧ E = items.map (fun x => vecOf kk [x]))))
  have BD := Lib.hid (fun W => specBad W)
  have LE := Lib.hid (fun W => specLen kk ai ap an ac al items.length ci parts.length cp names.length cn cls.length cc levels.length cl code env W li lp)
  obtain ⟨i0, hi0, hz0, hz1, hz2⟩ := info_parts infoInt
  clear hv hI hN hC hL hP hsm ed hVV hE
  go_enter Try.func45, Try.ntmps45
  go_wp2_with fail
  obtain ⟨w1, hw1⟩ : ∃ W, (w.alloc (.cells #[.int .i64 kk, .slice ai items.length ci, .slice ap parts.length cp, .slice an names.length cn, .slice ac cls.length cc, .slice al levels.length cl, .int .i64 code, .int .i64 env] 27)).alloc (.cells #[.int .i64 0, .slice none 0 0, .slice none 0 0, .slice none 0 0, .slice none 0 0, .slice none 0 0, .int .i64 0, .int .i64 0] 27) = W := ⟨_, rfl⟩
  have hsz : (w.alloc (.cells #[.int .i64 kk, .slice ai items.length ci, .slice ap parts.length cp, .slice an names.length cn, .slice ac cls.length cc, .slice al levels.length cl, .int .i64 code, .int .i64 env] 27)).heap.size = w.heap.size + 1 := by simp
  have B1 := Lib.hid (show Below w.heap.size w w1 from hw1 ▸ (below1 w _).alloc (by simp) _)
  have KA := Lib.hid (show w1.heap[w.heap.size]? = some (.cells #[.int .i64 kk, .slice ai items.length ci, .slice ap parts.length cp, .slice an names.length cn, .slice ac cls.length cc, .slice al levels.length cl, .int .i64 code, .int .i64 env] 27 (0, 0)) from hw1 ▸ blk_old (blk_new w _ rfl))
  have KR := Lib.hid (show w1.heap[w.heap.size + 1]? = some (.cells #[.int .i64 0, .slice none 0 0, .slice none 0 0, .slice none 0 0, .slice none 0 0, .slice none 0 0, .int .i64 0, .int .i64 0] 27 (0, 0)) from hw1 ▸ hsz ▸ blk_new (w.alloc (.cells #[.int .i64 kk, .slice ai items.length ci, .slice ap parts.length cp, .slice an names.length cn, .slice ac cls.length cc, .slice al levels.length cl, .int .i64 code, .int .i64 env] 27)) (.cells #[.int .i64 0, .slice none 0 0, .slice none 0 0, .slice none 0 0, .slice none 0 0, .slice none 0 0, .int .i64 0, .int .i64 0] 27) rfl)
  rw [hw1]
  clear hw1 hsz
  with_reducible refine (C1.out _ B1.out).mono ?_
  rintro e w2 ⟨rfl, b⟩
  have B2 := Lib.hid (below_then B1.out b)
  have KA2 := Lib.hid (blk_below b KA.out)
  have KR2 := Lib.hid (blk_below b KR.out)
  clear b
  by_cases q : ValidV VV
  · rw [bB_yes q]
    have XV1 := Lib.hid (XV.out q)
    have XS1 := Lib.hid (missS_yes q)
    have hl := XL.out q
    have NL := NL.out q
    have K3 := Lib.hid (K3.out q)
    rw [NL] at LE
    clear q XV XL FL NL
    obtain ⟨n, hn⟩ : ∃ n, E.length = n := ⟨_, rfl⟩
    rw [hn] at LE hl XV1
    obtain ⟨f, hf⟩ : ∃ f : Nat → Int, (fun i => missI (E.getD i noV)) = f := ⟨_, rfl⟩
    have FE := Lib.hid (fun i => (by rw [← hf] : f i = missI (E.getD i noV)))
    have EV := Lib.hid (show (fun i => logI (missI (E.getD i noV))) = (fun i => logI (f i)) by rw [← hf])
    rw [EV.out] at XV1
    have HN := Lib.hid hn
    have LC := Lib.hid (fun (W : World) (sa : Option Addr) (c : Nat) (h : IntsAt W.heap.size W sa n f) => (by
      have h' := specLogVec sa n c f W.heap.size W h (Nat.le_refl _) (by omega)
      rw [if_pos hl] at h'
      exact h' : Calls Try.prog 13 #[.slice sa n c] W (ResV 1 (vecOf 1 (itF (fun i => logI (f i)) n)) W)))
    clear hf EV hn
    have hltR := (Array.getElem?_eq_some_iff.1 KR2.out).1
    have ST := Lib.hid (show MisR w (w2.alloc (.cells #[] 3)) f 0 (.slice (some ⟨w2.heap.size, 0, none⟩) 0 0) #[.int .i64 kk, .slice ai items.length ci, .slice ap parts.length cp, .slice an names.length cn, .slice ac cls.length cc, .slice al levels.length cl, .int .i64 code, .int .i64 env] from
      ⟨⟨rfl, .inr ⟨w2.heap.size, 0, #[], rfl, by omega, blk_new w2 _ rfl, Nat.le_refl _, Nat.zero_le _, rfl, rfl⟩⟩, below_then B2.out (below1 w2 _), blk_old KA2.out, blk_old KR2.out⟩)
    clear hltR
    go_wp2
    go_loopw [4, 5] (fun v i wr => ∃ k : Nat, k ≤ n ∧ i = .int .i64 k ∧ MisR w wr f k v #[.int .i64 kk, .slice ai items.length ci, .slice ap parts.length cp, .slice an names.length cn, .slice ac cls.length cc, .slice al levels.length cl, .int .i64 code, .int .i64 env]) (fun _ i _ => n - (intOf i).toNat)
    case atStart => exact ⟨0, Nat.zero_le _, rfl, ST.out⟩
    case round =>
      obtain ⟨k, hk, rfl, hmr⟩ := hrel
      have MR := Lib.hid hmr
      clear hmr
      obtain ⟨k0, k1, k2, k3, k4, k5, k6, k7⟩ := vec8 MR.out.ka
      go_wp2_with fail
      with_reducible refine (LE.out _).mono ?_
      rintro e wl ⟨rfl, b⟩
      have MR1 := Lib.hid (MR.out.keep b)
      clear b k0 k1 k2 k3 k4 k5 k6 k7
      by_cases hlt : k < n
      · obtain ⟨k0, k1, k2, k3, k4, k5, k6, k7⟩ := vec8 MR1.out.ka
        have HS := MR1.out.big
        have hwl : w.heap.size < wl.heap.size := by omega
        rcases K3.out with ⟨h5, h0, hm⟩ | ⟨h4, hEp⟩ | ⟨h5, h4, hEi⟩
        · have hk0 : k = 0 := by have := HN.out; omega
          subst h5
          subst hk0
          go_upto_region 12 with (fail)
          obtain ⟨W, hW⟩ : ∃ W, wl.alloc (.cells #[.int .i64 0, .slice none 0 0, .slice none 0 0, .slice none 0 0, .slice none 0 0, .slice none 0 0, .int .i64 0, .int .i64 0] 27) = W := ⟨_, rfl⟩
          have MW := Lib.hid (show MisR w W f 0 _ _ from hW ▸ MR1.out.keep (below1 wl _))
          have KP := Lib.hid (show W.heap[wl.heap.size]? = some (.cells #[.int .i64 0, .slice none 0 0, .slice none 0 0, .slice none 0 0, .slice none 0 0, .slice none 0 0, .int .i64 0, .int .i64 0] 27 (0, 0)) from hW ▸ blk_new wl _ rfl)
          rw [hW]
          clear hW k0 k1 k2 k3 k4 k5 k6 k7
          obtain ⟨k0, k1, k2, k3, k4, k5, k6, k7⟩ := vec8 KP.out
          have EQK := Lib.hid (show (0 : Int) = f 0 from by rw [FE.out, hm])
          have OR := Lib.hid (MW.out.row.alloc (.cells #[.int .i64 0] 3))
          have HS2 := MW.out.big
          go_upto_region 14 with (fail)
          go_wp2_with (at_builtin; refine wpList_append_own _ rfl _ _ 22 rfl (w.heap.size + 2) 3 i0 (.int .i64 0) 1 8 Try.underlying22 hi0 hz0 hz1 hz2 rfl (by decide) _ 0 (intsF f 0) rfl OR.out ⟨W.heap.size, 0, none⟩ 1 1 [.int .i64 0] rfl rfl ?c11 ?c12 ?c13 ?c14 ?c15 ?_)
          try (case c11 =>
            intro j u hj
            obtain rfl : j = 0 := by have := (List.getElem?_eq_some_iff.1 hj).1; simpa using this
            obtain rfl : Value.int .i64 0 = u := by simpa using hj
            rw [addr_add]
            exact cellOf (blk_new W _ rfl) rfl)
          case c12 => first | (intro u hu; obtain rfl := List.mem_singleton.1 hu; rfl) | rfl
          case c13 => unfold maxLen; omega
          case c14 => omega
          case c15 => first | (simp; omega) | omega
          intro v' wn hown' hgrow _
          have NX := Lib.hid (MW.out.next hgrow hown' EQK.out)
          clear hown' hgrow
          go_wp2
          go_roundw
          case rel => exact ⟨0 + 1, by omega, by go_num, NX.out⟩
          case measure => simp [intOf]; omega
        · subst h4
          obtain ⟨p, hp⟩ : ∃ p, parts.getD k noV = p := ⟨_, rfl⟩
          have EF := Lib.hid (show f k = missI p by rw [FE.out, hEp, hp])
          have hkp : k < parts.length := by have := HN.out; rw [hEp] at this; omega
          obtain ⟨bb, off, u0, u1, u2, u3, u4, u5, u6, u7, rfl, hbB, hv, c0, c1, c2, c3, c4, c5, c6, c7⟩ := AP.out k wl hkp MR1.out.below
          rw [hp] at hv
          obtain ⟨ek, pit, ppa, pnm, pcl, plv, ec, ee⟩ := p
          obtain ⟨d2, ea1, em1, ea2, em2, ea3, em3, ea4, em4, ea5, em5, ed2, e, hI2, _, _, _, _⟩ := vecAt_open hv
          simp only [Value.agg.injEq, Array.mk.injEq, List.cons.injEq, and_true] at e
          obtain ⟨rfl, rfl, rfl, rfl, rfl, rfl, rfl, rfl⟩ := e
          have hbw : bb < wl.heap.size := Nat.lt_of_lt_of_le (Nat.lt_of_lt_of_le hbB hhi) MR1.out.below.size
          have I2 := Lib.hid hI2
          have EF := Lib.hid (show f k = missI (.mk ek pit ppa pnm pcl plv ec ee) from EF.out)
          clear hv hI2 hp hEp ed2
          obtain ⟨m, hm⟩ : ∃ m, pit.length = m := ⟨_, rfl⟩
          obtain ⟨m2, hm2⟩ : ∃ m, ppa.length = m := ⟨_, rfl⟩
          obtain ⟨m3, hm3⟩ : ∃ m, pnm.length = m := ⟨_, rfl⟩
          obtain ⟨m4, hm4⟩ : ∃ m, pcl.length = m := ⟨_, rfl⟩
          obtain ⟨m5, hm5⟩ : ∃ m, plv.length = m := ⟨_, rfl⟩
          rw [hm] at c1
          rw [hm2] at c2
          rw [hm3] at c3
          rw [hm4] at c4
          rw [hm5] at c5
          have HM := Lib.hid hm
          clear hm hm2 hm3 hm4 hm5
          go_upto_region 12 with (fail)
          obtain ⟨W, hW⟩ : ∃ W, wl.alloc (.cells #[.int .i64 ek, .slice ea1 m em1, .slice ea2 m2 em2, .slice ea3 m3 em3, .slice ea4 m4 em4, .slice ea5 m5 em5, .int .i64 ec, .int .i64 ee] 27) = W := ⟨_, rfl⟩
          have BW := Lib.hid (show Below wl.heap.size wl W from hW ▸ below1 wl _)
          have MW := Lib.hid (MR1.out.keep BW.out)
          have KP := Lib.hid (show W.heap[wl.heap.size]? = some (.cells #[.int .i64 ek, .slice ea1 m em1, .slice ea2 m2 em2, .slice ea3 m3 em3, .slice ea4 m4 em4, .slice ea5 m5 em5, .int .i64 ec, .int .i64 ee] 27 (0, 0)) from hW ▸ blk_new wl _ rfl)
          rw [hW]
          clear hW k0 k1 k2 k3 k4 k5 k6 k7 c0 c1 c2 c3 c4 c5 c6 c7
          obtain ⟨k0, k1, k2, k3, k4, k5, k6, k7⟩ := vec8 KP.out
          by_cases h1 : m = 1
          · have IW := (I2.out.below BW.out (Nat.le_trans hhi MR1.out.below.size)).at_ (k := 0) (by have := HM.out; omega)
            obtain ⟨b2, off2, rfl, hb2, c0, c1, c2⟩ := IW
            obtain ⟨x, hx⟩ : ∃ x : It, pit.getD 0 noI = x := ⟨_, rfl⟩
            simp only [hx, Nat.zero_mul, Nat.add_zero] at c0 c1
            clear c2
            have hb2w : b2 < W.heap.size := Nat.lt_of_lt_of_le (Nat.lt_of_lt_of_le hb2 hhi) (Nat.le_trans MR1.out.below.size BW.out.size)
            obtain ⟨xn, xd, xt⟩ := x
            subst h1
            by_cases hd : xd = 0
            · have EZ := Lib.hid (show f k = 1 by rw [EF.out]; exact miss_yes HM.out (by show (pit.getD 0 noI).d = 0; rw [hx]; exact hd))
              subst hd
              clear hx
              have EQK := Lib.hid (show (1 : Int) = f k from EZ.out.symm)
              have OR := Lib.hid (MW.out.row.alloc (.cells #[.int .i64 1] 3))
              have HS2 := MW.out.big
              go_upto_region 13 with (fail)
              go_wp2_with (at_builtin; refine wpList_append_own _ rfl _ _ 22 rfl (w.heap.size + 2) 3 i0 (.int .i64 0) 1 8 Try.underlying22 hi0 hz0 hz1 hz2 rfl (by decide) _ k (intsF f k) rfl OR.out ⟨W.heap.size, 0, none⟩ 1 1 [.int .i64 1] rfl rfl ?c21 ?c22 ?c23 ?c24 ?c25 ?_)
              try (case c21 =>
                intro j u hj
                obtain rfl : j = 0 := by have := (List.getElem?_eq_some_iff.1 hj).1; simpa using this
                obtain rfl : Value.int .i64 1 = u := by simpa using hj
                rw [addr_add]
                exact cellOf (blk_new W _ rfl) rfl)
              case c22 => first | (intro u hu; obtain rfl := List.mem_singleton.1 hu; rfl) | rfl
              case c23 => unfold maxLen; omega
              case c24 => omega
              case c25 => first | (simp; omega) | omega
              intro v' wn hown' hgrow _
              have NX := Lib.hid (MW.out.next hgrow hown' EQK.out)
              clear hown' hgrow
              go_wp2
              go_roundw
              case rel => exact ⟨k + 1, by omega, by go_num, NX.out⟩
              case measure => simp [intOf]; omega
            · have EZ := Lib.hid (show f k = 0 by rw [EF.out]; exact miss_no (fun hh => hd (by have h2 : (pit.getD 0 noI).d = 0 := hh.2; rw [hx] at h2; exact h2)))
              have hdb : (xd == 0) = false := by simp [hd]
              clear hx
              have EQK := Lib.hid (show (0 : Int) = f k from EZ.out.symm)
              have OR := Lib.hid (MW.out.row.alloc (.cells #[.int .i64 0] 3))
              have HS2 := MW.out.big
              go_upto_region 14 with (fail)
              go_wp2_with (at_builtin; refine wpList_append_own _ rfl _ _ 22 rfl (w.heap.size + 2) 3 i0 (.int .i64 0) 1 8 Try.underlying22 hi0 hz0 hz1 hz2 rfl (by decide) _ k (intsF f k) rfl OR.out ⟨W.heap.size, 0, none⟩ 1 1 [.int .i64 0] rfl rfl ?c31 ?c32 ?c33 ?c34 ?c35 ?_)
              try (case c31 =>
                intro j u hj
                obtain rfl : j = 0 := by have := (List.getElem?_eq_some_iff.1 hj).1; simpa using this
                obtain rfl : Value.int .i64 0 = u := by simpa using hj
                rw [addr_add]
                exact cellOf (blk_new W _ rfl) rfl)
              case c32 => first | (intro u hu; obtain rfl := List.mem_singleton.1 hu; rfl) | rfl
              case c33 => unfold maxLen; omega
              case c34 => omega
              case c35 => first | (simp; omega) | omega
              intro v' wn hown' hgrow _
              have NX := Lib.hid (MW.out.next hgrow hown' EQK.out)
              clear hown' hgrow
              go_wp2
              go_roundw
              case rel => exact ⟨k + 1, by omega, by go_num, NX.out⟩
              case measure => simp [intOf]; omega
          · have EZ := Lib.hid (show f k = 0 by rw [EF.out]; exact miss_no (fun hh => h1 (HM.out ▸ hh.1)))
            have hb1 : ((m : Int) == 1) = false := beq_eq_false_iff_ne.2 (by omega)
            have EQK := Lib.hid (show (0 : Int) = f k from EZ.out.symm)
            have OR := Lib.hid (MW.out.row.alloc (.cells #[.int .i64 0] 3))
            have HS2 := MW.out.big
            go_upto_region 14 with (fail)
            go_wp2_with (at_builtin; refine wpList_append_own _ rfl _ _ 22 rfl (w.heap.size + 2) 3 i0 (.int .i64 0) 1 8 Try.underlying22 hi0 hz0 hz1 hz2 rfl (by decide) _ k (intsF f k) rfl OR.out ⟨W.heap.size, 0, none⟩ 1 1 [.int .i64 0] rfl rfl ?c41 ?c42 ?c43 ?c44 ?c45 ?_)
            try (case c41 =>
              intro j u hj
              obtain rfl : j = 0 := by have := (List.getElem?_eq_some_iff.1 hj).1; simpa using this
              obtain rfl : Value.int .i64 0 = u := by simpa using hj
              rw [addr_add]
              exact cellOf (blk_new W _ rfl) rfl)
            case c42 => first | (intro u hu; obtain rfl := List.mem_singleton.1 hu; rfl) | rfl
            case c43 => unfold maxLen; omega
            case c44 => omega
            case c45 => first | (simp; omega) | omega
            intro v' wn hown' hgrow _
            have NX := Lib.hid (MW.out.next hgrow hown' EQK.out)
            clear hown' hgrow
            go_wp2
            go_roundw
            case rel => exact ⟨k + 1, by omega, by go_num, NX.out⟩
            case measure => simp [intOf]; omega
        · obtain ⟨x, hx⟩ : ∃ x : It, items.getD k noI = x := ⟨_, rfl⟩
          have hki : k < items.length := by have := HN.out; rw [hEi, List.length_map] at this; omega
          have EF := Lib.hid (show f k = missI (vecOf kk [x]) by rw [FE.out, hEi]; congr 1; simp [List.getD_eq_getElem?_getD, hki, ← hx])
          obtain ⟨ba, off, rfl, hbB, c0, c1, c2⟩ := AI.out k wl hki MR1.out.below
          have hbw : ba < wl.heap.size := Nat.lt_of_lt_of_le (Nat.lt_of_lt_of_le hbB hhi) MR1.out.below.size
          obtain ⟨t, ht⟩ : ∃ t, txtI items k = t := ⟨_, rfl⟩
          rw [ht] at c2
          obtain ⟨xn, xd, xt⟩ := x
          simp only [hx] at c0 c1
          clear hx ht hEi
          go_upto_region 12 with (fail)
          obtain ⟨W, hW⟩ : ∃ W, (wl.alloc (.cells #[.int .i64 0, .slice (some ⟨wl.heap.size + 1, 0, none⟩) 1 1, .slice none 0 0, .slice none 0 0, .slice none 0 0, .slice none 0 0, .int .i64 0, .int .i64 0] 27)).alloc (.cells #[.int .i64 xn, .int .i64 xd, .string t] 62) = W := ⟨_, rfl⟩
          have hs1 : (wl.alloc (.cells #[.int .i64 0, .slice (some ⟨wl.heap.size + 1, 0, none⟩) 1 1, .slice none 0 0, .slice none 0 0, .slice none 0 0, .slice none 0 0, .int .i64 0, .int .i64 0] 27)).heap.size = wl.heap.size + 1 := by simp
          have BW := Lib.hid (show Below wl.heap.size wl W from hW ▸ below2 wl _ _)
          have MW := Lib.hid (MR1.out.keep BW.out)
          have KP := Lib.hid (show W.heap[wl.heap.size]? = some (.cells #[.int .i64 0, .slice (some ⟨wl.heap.size + 1, 0, none⟩) 1 1, .slice none 0 0, .slice none 0 0, .slice none 0 0, .slice none 0 0, .int .i64 0, .int .i64 0] 27 (0, 0)) from hW ▸ blk_old (blk_new wl _ rfl))
          have KI := Lib.hid (show W.heap[wl.heap.size + 1]? = some (.cells #[.int .i64 xn, .int .i64 xd, .string t] 62 (0, 0)) from hW ▸ blk_new _ _ hs1.symm)
          rw [hW]
          clear hW hs1 k0 k1 k2 k3 k4 k5 k6 k7 c0 c1 c2
          obtain ⟨k0, k1, k2, k3, k4, k5, k6, k7⟩ := vec8 KP.out
          have i1 : W.cell? ⟨wl.heap.size + 1, 1, none⟩ = some (.int .i64 xd) := cellOf KI.out rfl
          have hiw := (Array.getElem?_eq_some_iff.1 KI.out).1
          by_cases hd : xd = 0
          · have EZ := Lib.hid (show f k = 1 by rw [EF.out]; exact miss_yes rfl hd)
            subst hd
            have EQK := Lib.hid (show (1 : Int) = f k from EZ.out.symm)
            have OR := Lib.hid (MW.out.row.alloc (.cells #[.int .i64 1] 3))
            have HS2 := MW.out.big
            go_upto_region 13 with (fail)
            go_wp2_with (at_builtin; refine wpList_append_own _ rfl _ _ 22 rfl (w.heap.size + 2) 3 i0 (.int .i64 0) 1 8 Try.underlying22 hi0 hz0 hz1 hz2 rfl (by decide) _ k (intsF f k) rfl OR.out ⟨W.heap.size, 0, none⟩ 1 1 [.int .i64 1] rfl rfl ?c51 ?c52 ?c53 ?c54 ?c55 ?_)
            try (case c51 =>
              intro j u hj
              obtain rfl : j = 0 := by have := (List.getElem?_eq_some_iff.1 hj).1; simpa using this
              obtain rfl : Value.int .i64 1 = u := by simpa using hj
              rw [addr_add]
              exact cellOf (blk_new W _ rfl) rfl)
            case c52 => first | (intro u hu; obtain rfl := List.mem_singleton.1 hu; rfl) | rfl
            case c53 => unfold maxLen; omega
            case c54 => omega
            case c55 => first | (simp; omega) | omega
            intro v' wn hown' hgrow _
            have NX := Lib.hid (MW.out.next hgrow hown' EQK.out)
            clear hown' hgrow
            go_wp2
            go_roundw
            case rel => exact ⟨k + 1, by omega, by go_num, NX.out⟩
            case measure => simp [intOf]; omega
          · have EZ := Lib.hid (show f k = 0 by rw [EF.out]; exact miss_no (fun hh => hd hh.2))
            have hdb : (xd == 0) = false := by simp [hd]
            have EQK := Lib.hid (show (0 : Int) = f k from EZ.out.symm)
            have OR := Lib.hid (MW.out.row.alloc (.cells #[.int .i64 0] 3))
            have HS2 := MW.out.big
            go_upto_region 14 with (fail)
            go_wp2_with (at_builtin; refine wpList_append_own _ rfl _ _ 22 rfl (w.heap.size + 2) 3 i0 (.int .i64 0) 1 8 Try.underlying22 hi0 hz0 hz1 hz2 rfl (by decide) _ k (intsF f k) rfl OR.out ⟨W.heap.size, 0, none⟩ 1 1 [.int .i64 0] rfl rfl ?c61 ?c62 ?c63 ?c64 ?c65 ?_)
            try (case c61 =>
              intro j u hj
              obtain rfl : j = 0 := by have := (List.getElem?_eq_some_iff.1 hj).1; simpa using this
              obtain rfl : Value.int .i64 0 = u := by simpa using hj
              rw [addr_add]
              exact cellOf (blk_new W _ rfl) rfl)
            case c62 => first | (intro u hu; obtain rfl := List.mem_singleton.1 hu; rfl) | rfl
            case c63 => unfold maxLen; omega
            case c64 => omega
            case c65 => first | (simp; omega) | omega
            intro v' wn hown' hgrow _
            have NX := Lib.hid (MW.out.next hgrow hown' EQK.out)
            clear hown' hgrow
            go_wp2
            go_roundw
            case rel => exact ⟨k + 1, by omega, by go_num, NX.out⟩
            case measure => simp [intOf]; omega
      · obtain rfl : k = n := by omega
        obtain ⟨sa, c, rfl, hi'⟩ := ints_of_row MR1.out.row
        have HI := Lib.hid hi'
        have BB := Lib.hid MR1.out.below
        have KA4 := Lib.hid MR1.out.ka
        have KR4 := Lib.hid MR1.out.kr
        clear hi'
        obtain ⟨k0, k1, k2, k3, k4, k5, k6, k7⟩ := vec8 KA4.out
        go_wp2_with fail
        with_reducible refine (LC.out _ _ _ HI.out).mono ?_
        rintro e w5 ⟨y, rfl, ho, hb⟩
        obtain ⟨yk, ya1, yn1, ym1, ya2, yn2, ym2, ya3, yn3, ym3, ya4, yn4, ym4, ya5, yn5, ym5, yc, ye, rfl⟩ := ho.agg
        have B5 := Lib.hid (below_then BB.out hb)
        have KA5 := Lib.hid (blk_below hb KA4.out)
        have KR5 := Lib.hid (blk_below hb KR4.out)
        have hr5 := (Array.getElem?_eq_some_iff.1 KR4.out).1
        have HO := Lib.hid ho
        have hs5 := hb.size
        clear ho hb k0 k1 k2 k3 k4 k5 k6 k7
        obtain ⟨w6, hw6⟩ : ∃ W, (w5.alloc (.cells #[.int .i64 yk, .slice ya1 yn1 ym1, .slice ya2 yn2 ym2, .slice ya3 yn3 ym3, .slice ya4 yn4 ym4, .slice ya5 yn5 ym5, .int .i64 yc, .int .i64 ye] 27)).alloc (.cells #[] 9) = W := ⟨_, rfl⟩
        have hsz : (w5.alloc (.cells #[.int .i64 yk, .slice ya1 yn1 ym1, .slice ya2 yn2 ym2, .slice ya3 yn3 ym3, .slice ya4 yn4 ym4, .slice ya5 yn5 ym5, .int .i64 yc, .int .i64 ye] 27)).heap.size = w5.heap.size + 1 := by simp
        have b6 : Below w5.heap.size w5 w6 := hw6 ▸ (below1 w5 _).alloc (by simp) _
        have KY := Lib.hid (show w6.heap[w5.heap.size]? = some (.cells #[.int .i64 yk, .slice ya1 yn1 ym1, .slice ya2 yn2 ym2, .slice ya3 yn3 ym3, .slice ya4 yn4 ym4, .slice ya5 yn5 ym5, .int .i64 yc, .int .i64 ye] 27 (0, 0)) from hw6 ▸ blk_old (blk_new w5 _ rfl))
        have KS := Lib.hid (show w6.heap[w5.heap.size + 1]? = some (.cells #[] 9 (0, 0)) from hw6 ▸ hsz ▸ blk_new (w5.alloc (.cells #[.int .i64 yk, .slice ya1 yn1 ym1, .slice ya2 yn2 ym2, .slice ya3 yn3 ym3, .slice ya4 yn4 ym4, .slice ya5 yn5 ym5, .int .i64 yc, .int .i64 ye] 27)) (.cells #[] 9) rfl)
        have B6 := Lib.hid (below_then B5.out b6)
        have KA6 := Lib.hid (blk_below b6 KA5.out)
        have KR6 := Lib.hid (blk_below b6 KR5.out)
        have HO6 := Lib.hid (HO.out.below b6 (Nat.le_refl _))
        have EW := Lib.hid hw6
        have hltA : w.heap.size < w5.heap.size := by omega
        have hsy := (Array.getElem?_eq_some_iff.1 KY.out).1
        have hss := (Array.getElem?_eq_some_iff.1 KS.out).1
        clear b6 hw6 hsz
        obtain ⟨k0, k1, k2, k3, k4, k5, k6, k7⟩ := vec8 KA5.out
        go_wp2_with (at_builtin; rw [EW.out]; refine wpList_copyTexts rfl _ _ rfl (w5.heap.size + 1) _ rfl (.inr ⟨w5.heap.size + 1, Nat.le_refl _, rfl, KS.out⟩) an cn names lo hi rfl (HT.out _ B6.out) ln (by omega) ?_)
        intro v' w7 hcp hb7
        obtain ⟨na, nc, Fn, rfl, hT, hnd, hrg, hcap⟩ := hcp
        have KY7 := Lib.hid ((hb7.block _ (Nat.lt_succ_self _)).trans KY.out)
        have KR7 := Lib.hid ((hb7.block _ (by omega)).trans KR6.out)
        have HO7 := Lib.hid (HO6.out.belowB hb7 (Nat.le_succ _))
        have B7 := Lib.hid (B6.out.trans (hb7.mono (by omega)))
        have S67 := Lib.hid hb7.size
        have ky3 : w7.cell? ⟨w5.heap.size, 3, none⟩ = some (.slice ya3 yn3 ym3) := cellOf KY7.out rfl
        have fy3 : w7.frozen? ⟨w5.heap.size, 3, none⟩ = false := freeOf KY7.out
        have HT7 := Lib.hid hT
        have HR7 := Lib.hid hrg
        have HN7 := Lib.hid hnd
        clear hT hrg hnd hb7 k0 k1 k2 k3 k4 k5 k6 k7
        go_upto_region 17 with (fail)
        obtain ⟨w8, hw8⟩ : ∃ W, w7.setCell ⟨w5.heap.size, 3, none⟩ (.slice na names.length nc) = W := ⟨_, rfl⟩
        have KY8 := Lib.hid (show w8.heap[w5.heap.size]? = some (.cells #[.int .i64 yk, .slice ya1 yn1 ym1, .slice ya2 yn2 ym2, .slice na names.length nc, .slice ya4 yn4 ym4, .slice ya5 yn5 ym5, .int .i64 yc, .int .i64 ye] 27 (0, 0)) from hw8 ▸ Joins.block_setCell KY7.out _)
        have KR8 := Lib.hid (show w8.heap[w.heap.size + 1]? = some (.cells #[.int .i64 0, .slice none 0 0, .slice none 0 0, .slice none 0 0, .slice none 0 0, .slice none 0 0, .int .i64 0, .int .i64 0] 27 (0, 0)) from hw8 ▸ (Below.heap_setCell _ _ _ _ (by show w.heap.size + 1 ≠ w5.heap.size; omega)).trans KR7.out)
        have B8 := Lib.hid (show Below w.heap.size w w8 from hw8 ▸ B7.out.setCell (p := ⟨w5.heap.size, 3, none⟩) (show w.heap.size ≤ w5.heap.size by omega) _)
        have FIN := Lib.hid (show Own 1 (mkN 1 (itF (fun i => logI (f i)) k) names) (.agg #[.int .i64 yk, .slice ya1 yn1 ym1, .slice ya2 yn2 ym2, .slice na names.length nc, .slice ya4 yn4 ym4, .slice ya5 yn5 ym5, .int .i64 yc, .int .i64 ye]) wl.heap.size w8.heap.size w8 from by
          have h8 : w8.heap.size = w7.heap.size := by rw [← hw8]; simp
          have ho : Own 1 (vecOf 1 (itF (fun i => logI (f i)) k)) (.agg #[.int .i64 yk, .slice ya1 yn1 ym1, .slice ya2 yn2 ym2, .slice ya3 yn3 ym3, .slice ya4 yn4 ym4, .slice ya5 yn5 ym5, .int .i64 yc, .int .i64 ye]) wl.heap.size w5.heap.size w8 := hw8 ▸ HO7.out.setOut (Nat.le_refl _)
          have ht : OwnTxs w8 na names Fn := hw8 ▸ HT7.out.kept (fun g hg => Below.heap_setCell _ _ _ _ (by have := HR7.out g hg; show g ≠ w5.heap.size; omega))
          rw [h8]
          exact ho.setNames ht HN7.out HR7.out hcap (Nat.le_succ _) (by omega) (by have := S67.out; omega))
        rw [hw8]
        clear hw8 ky3 fy3
        obtain ⟨k0, k1, k2, k3, k4, k5, k6, k7⟩ := vec8 KY8.out
        obtain ⟨z0, z1, z2, z3, z4, z5, z6, z7⟩ := vec8 KR8.out
        obtain ⟨f0, f1, f2, f3, f4, f5, f6, f7⟩ := free8 KR8.out
        go_wp2
        rw [XV1.out, XS1.out]
        exact vec_endS rfl rfl rfl rfl KR8.out ⟨_, rfl, (FIN.out.put8 hr5 _ _ _ _ _ _ _ _).wide (by omega) (by rw [put8_size]; exact Nat.le_refl _), put8_below B8.out (Nat.le_succ _)⟩
  · rw [bB_no q]
    have XV1 := Lib.hid (missV_no q)
    have XS1 := Lib.hid (missS_no q)
    clear q
    go_wp2_with fail
    with_reducible refine (BD.out _).mono ?_
    rintro e w3 ⟨rfl, b⟩
    have B3 := Lib.hid (below_then B2.out b)
    have K0 := Lib.hid (blk_below b KR2.out)
    clear b
    obtain ⟨z0, z1, z2, z3, z4, z5, z6, z7⟩ := vec8 K0.out
    obtain ⟨f0, f1, f2, f3, f4, f5, f6, f7⟩ := free8 K0.out
    go_wp2
    rw [XV1.out, XS1.out]
    exact vec_endS rfl rfl rfl rfl K0.out (zeroS _ w _ (put8_below B3.out (Nat.le_succ _)))
end Go.Proofs.Yteigfhenbmhepaa
