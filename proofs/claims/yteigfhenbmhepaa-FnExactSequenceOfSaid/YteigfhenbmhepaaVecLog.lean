/- Vectors of items that a call builds; LogicalVector of the program. -/
import Derived.Test.YteigfhenbmhepaaRows
import Derived.Test.YteigfhenbmhepaaVecApp
import Derived.Test.YteigfhenbmhepaaOwn
import Derived.Test.YteigfhenbmhepaaLawRes
import Derived.Test.YteigfhenbmhepaaLogic
import Derived.WalkKit
import Derived.OwnWalk
import Derived.Deep.DeepCutAuto
import Derived.Lib.Hide
namespace Go.Proofs.Yteigfhenbmhepaa
open Go.RowKit
set_option maxRecDepth 100000
set_option linter.unusedVariables false

/-- A vector of items alone. -/
def vecOf (k : Int) (l : List It) : Vec := .mk k l [] [] [] [] 0 0
def itF (g : Nat → It) (n : Nat) : List It := (List.range n).map g
theorem itF_len (g : Nat → It) (n : Nat) : (itF g n).length = n := by simp [itF]
theorem itF_succ (g : Nat → It) (n : Nat) : itF g n ++ [g n] = itF g (n + 1) := by unfold itF; rw [List.range_succ, List.map_append]; rfl
theorem itF_zero (g : Nat → It) : itF g 0 = [] := rfl
theorem ret_eq {a b : Value} (h : a = b) : Ending.returned a = .returned b := by rw [h]
theorem own_zero (lo hi : Nat) (w : World) : Own 1 noV (.agg #[.int .i64 0, .slice none 0 0, .slice none 0 0, .slice none 0 0, .slice none 0 0, .slice none 0 0, .int .i64 0, .int .i64 0]) lo hi w := by
  refine ⟨[], ?_, List.nodup_nil, (fun _ h => by cases h)⟩
  show OwnVec w 1 (.mk 0 [] [] [] [] [] 0 0) _ []
  unfold OwnVec
  exact ⟨none, 0, none, 0, none, 0, none, 0, none, 0, [], [], [], [], [], rfl, rfl, ⟨Nat.le_refl _, Nat.le_refl _, Nat.le_refl _, Nat.le_refl _, Nat.le_refl _⟩, .inl ⟨rfl, rfl⟩, .inl ⟨rfl, rfl⟩, .inl ⟨rfl, rfl⟩, .inl ⟨rfl, rfl⟩, .inl ⟨rfl, rfl⟩⟩
/-- A vector whose items the call has built. -/
theorem own_vecOf {w : World} {B lo : Nat} {k : Int} {l : List It} {sa : Option Addr} {sn sc : Nat} (h : w.ownsRow B 62 3 (.slice sa sn sc) l.length (itCells l)) (hB : lo ≤ B) : Own 1 (vecOf k l) (.agg #[.int .i64 k, .slice sa sn sc, .slice none 0 0, .slice none 0 0, .slice none 0 0, .slice none 0 0, .int .i64 0, .int .i64 0]) lo w.heap.size w := by
  obtain ⟨a, c, F, e, ho, hn, hr, hc⟩ := own_of_its h
  obtain ⟨rfl, rfl, rfl⟩ : sa = a ∧ sn = l.length ∧ sc = c := by simpa using e
  refine ⟨F, ?_, hn, fun b hb => by have := hr b hb; omega⟩
  show OwnVec w 1 (.mk k l [] [] [] [] 0 0) _ F
  unfold OwnVec
  exact ⟨sa, sc, none, 0, none, 0, none, 0, none, 0, F, [], [], [], [], rfl, by simp, ⟨hc, Nat.le_refl _, Nat.le_refl _, Nat.le_refl _, Nat.le_refl _⟩, ho, .inl ⟨rfl, rfl⟩, .inl ⟨rfl, rfl⟩, .inl ⟨rfl, rfl⟩, .inl ⟨rfl, rfl⟩⟩
theorem small_vecOf {k : Int} {l : List It} (h : l.length ≤ 1048576) (ht : ∀ x ∈ l, x.t.size ≤ 1048576) : Small 1 (vecOf k l) := by
  show Small 1 (.mk k l [] [] [] [] 0 0)
  unfold Small
  exact ⟨h, Nat.zero_le _, Nat.zero_le _, Nat.zero_le _, Nat.zero_le _, ht, (fun _ h => by cases h), (fun _ h => by cases h), (fun _ h => by cases h), (fun _ h => by cases h)⟩
theorem small_noV : Small 1 noV := by
  show Small 1 (.mk 0 [] [] [] [] [] 0 0)
  unfold Small
  exact ⟨Nat.zero_le _, Nat.zero_le _, Nat.zero_le _, Nat.zero_le _, Nat.zero_le _, (fun _ h => by cases h), (fun _ h => by cases h), (fun _ h => by cases h), (fun _ h => by cases h), (fun _ h => by cases h)⟩
theorem fits_vecOf {k : Int} {l : List It} (hk : -9223372036854775808 ≤ k ∧ k ≤ 9223372036854775807) (h : l.length ≤ 1048576) (ht : ∀ x ∈ l, InB x) : Fits 1 (vecOf k l) := by
  show Fits 1 (.mk k l [] [] [] [] 0 0)
  unfold Fits
  refine ⟨hk, ⟨by decide, by decide⟩, ⟨by decide, by decide⟩, by unfold maxLen; omega, Nat.zero_le _, Nat.zero_le _, Nat.zero_le _, Nat.zero_le _, fun x hx => ht x hx, (fun _ h => by cases h), (fun _ h => by cases h), (fun _ h => by cases h), (fun _ h => by cases h)⟩
theorem fits_noV : Fits 1 noV := by
  show Fits 1 (.mk 0 [] [] [] [] [] 0 0)
  unfold Fits
  exact ⟨⟨by decide, by decide⟩, ⟨by decide, by decide⟩, ⟨by decide, by decide⟩, Nat.zero_le _, Nat.zero_le _, Nat.zero_le _, Nat.zero_le _, Nat.zero_le _, (fun _ h => by cases h), (fun _ h => by cases h), (fun _ h => by cases h), (fun _ h => by cases h), (fun _ h => by cases h)⟩
/-- What a loop that appends items keeps: the result's block, the vector's block behind it, the items so far. -/
structure AppL (w wr : World) (kind : Int) (l : List It) (sa : Option Addr) (sn sc : Nat) : Prop where
  res : wr.heap[w.heap.size]? = some (.cells #[.int .i64 0, .slice none 0 0, .slice none 0 0, .slice none 0 0, .slice none 0 0, .slice none 0 0, .int .i64 0, .int .i64 0] 27 (0, 0))
  vec : wr.heap[w.heap.size + 1]? = some (.cells #[.int .i64 kind, .slice sa sn sc, .slice none 0 0, .slice none 0 0, .slice none 0 0, .slice none 0 0, .int .i64 0, .int .i64 0] 27 (0, 0))
  row : wr.ownsRow (w.heap.size + 2) 62 3 (.slice sa sn sc) l.length (itCells l)
  below : Below w.heap.size w wr
theorem AppL.big {w wr : World} {kind : Int} {l : List It} {sa : Option Addr} {sn sc : Nat} (h : AppL w wr kind l sa sn sc) : w.heap.size + 1 < wr.heap.size := (Array.getElem?_eq_some_iff.1 h.vec).1
theorem AppL.keep {w wr w1 : World} {kind : Int} {l : List It} {sa : Option Addr} {sn sc : Nat} (h : AppL w wr kind l sa sn sc) (hb : Below wr.heap.size wr w1) : AppL w w1 kind l sa sn sc :=
  ⟨blk_below hb h.res, blk_below hb h.vec, ownsRow_below h.row hb, below_then h.below hb⟩
theorem AppL.heldC {w wr : World} {kind : Int} {l : List It} {sa : Option Addr} {sn sc : Nat} (h : AppL w wr kind l sa sn sc) : HeldC w wr [(w.heap.size, 27, #[.int .i64 0, .slice none 0 0, .slice none 0 0, .slice none 0 0, .slice none 0 0, .slice none 0 0, .int .i64 0, .int .i64 0]), (w.heap.size + 1, 27, #[.int .i64 kind, .slice sa sn sc, .slice none 0 0, .slice none 0 0, .slice none 0 0, .slice none 0 0, .int .i64 0, .int .i64 0])] := heldC_two h.below h.res h.vec
theorem AppL.far {w wr : World} {kind : Int} {l : List It} {sa : Option Addr} {sn sc : Nat} (h : AppL w wr kind l sa sn sc) {q : Nat × TypeId × Array Value} (hq : q ∈ [(w.heap.size, 27, #[.int .i64 0, .slice none 0 0, .slice none 0 0, .slice none 0 0, .slice none 0 0, .slice none 0 0, .int .i64 0, .int .i64 0]), (w.heap.size + 1, 27, #[.int .i64 kind, .slice sa sn sc, .slice none 0 0, .slice none 0 0, .slice none 0 0, .slice none 0 0, .int .i64 0, .int .i64 0])]) : ∀ k, (Value.slice sa sn sc).ownBlock = some k → q.1 ≠ k := by
  intro k hk e
  have h1 := (h.row.lt k hk).1
  rcases List.mem_cons.1 hq with rfl | hq
  · simp only at e; omega
  · obtain rfl := List.mem_singleton.1 hq
    simp only at e; omega
theorem AppL.start (w : World) (kind : Int) : AppL w ((w.alloc (.cells #[.int .i64 0, .slice none 0 0, .slice none 0 0, .slice none 0 0, .slice none 0 0, .slice none 0 0, .int .i64 0, .int .i64 0] 27)).alloc (.cells #[.int .i64 kind, .slice none 0 0, .slice none 0 0, .slice none 0 0, .slice none 0 0, .slice none 0 0, .int .i64 0, .int .i64 0] 27)) kind [] none 0 0 := by
  have h0 : (w.alloc (.cells #[.int .i64 0, .slice none 0 0, .slice none 0 0, .slice none 0 0, .slice none 0 0, .slice none 0 0, .int .i64 0, .int .i64 0] 27)).heap.size = w.heap.size + 1 := by simp
  refine ⟨blk_old (blk_new w _ rfl), ?_, ⟨rfl, .inl ⟨rfl, rfl⟩⟩, (below1 w _).alloc (by simp) _⟩
  have := blk_new (w.alloc (.cells #[.int .i64 0, .slice none 0 0, .slice none 0 0, .slice none 0 0, .slice none 0 0, .slice none 0 0, .int .i64 0, .int .i64 0] 27)) (.cells #[.int .i64 kind, .slice none 0 0, .slice none 0 0, .slice none 0 0, .slice none 0 0, .slice none 0 0, .int .i64 0, .int .i64 0] 27) rfl
  rwa [h0] at this
theorem AppL.next {w W : World} {kind : Int} {l : List It} {z : It} {sa sa' : Option Addr} {sn sc sn' sc' : Nat} (hK : W.heap[w.heap.size + 1]? = some (.cells (#[.int .i64 kind, .slice sa sn sc, .slice none 0 0, .slice none 0 0, .slice none 0 0, .slice none 0 0, .int .i64 0, .int .i64 0].setIfInBounds 1 (.slice sa' sn' sc')) 27 (0, 0)))
    (hO : W.ownsRow (w.heap.size + 2) 62 3 (.slice sa' sn' sc') (l ++ [z]).length (itCells (l ++ [z]))) (hB : Below w.heap.size w W)
    (hR : ∀ q ∈ [(w.heap.size, 27, #[.int .i64 0, .slice none 0 0, .slice none 0 0, .slice none 0 0, .slice none 0 0, .slice none 0 0, .int .i64 0, .int .i64 0]), (w.heap.size + 1, 27, #[.int .i64 kind, .slice sa sn sc, .slice none 0 0, .slice none 0 0, .slice none 0 0, .slice none 0 0, .int .i64 0, .int .i64 0])], q.1 ≠ w.heap.size + 1 → W.heap[q.1]? = some (.cells q.2.2 q.2.1 (0, 0))) : AppL w W kind (l ++ [z]) sa' sn' sc' :=
  ⟨hR _ (List.Mem.head _) (by simp only; omega), hK, hO, hB⟩
theorem free8 {w : World} {b : Nat} {C : Array Value} {t : TypeId} (h : w.heap[b]? = some (.cells C t (0, 0))) : w.frozen? ⟨b, 0, none⟩ = false ∧ w.frozen? ⟨b, 1, none⟩ = false ∧ w.frozen? ⟨b, 2, none⟩ = false ∧ w.frozen? ⟨b, 3, none⟩ = false ∧ w.frozen? ⟨b, 4, none⟩ = false ∧ w.frozen? ⟨b, 5, none⟩ = false ∧ w.frozen? ⟨b, 6, none⟩ = false ∧ w.frozen? ⟨b, 7, none⟩ = false :=
  ⟨freeOf h, freeOf h, freeOf h, freeOf h, freeOf h, freeOf h, freeOf h, freeOf h⟩
/-- A vector that has just been stored into the result's block. -/
theorem vec_end {fn : Func} {R : Ending → World → Prop} {act : Act} {w : World} {g : Nat} {p : Tmp} {z0 z1 z2 z3 z4 z5 z6 z7 c0 c1 c2 c3 c4 c5 c6 c7 : Value} {t : TypeId}
    (hfn : fn.results = #[.cell p 27]) (hp : act.tmps.getD p undef = .pointer (some ⟨g, 0, none⟩)) (hd : act.defers = []) (hg : w.heap[g]? = some (.cells #[z0, z1, z2, z3, z4, z5, z6, z7] t (0, 0)))
    (hR : R (.returned (.agg #[c0, c1, c2, c3, c4, c5, c6, c7])) (put8 w g 0 c0 c1 c2 c3 c4 c5 c6 c7)) :
    bodyPost Try.prog fn R .ret act ((((((((w.setCell ⟨g, 0, none⟩ c0).setCell ⟨g, 1, none⟩ c1).setCell ⟨g, 2, none⟩ c2).setCell ⟨g, 3, none⟩ c3).setCell ⟨g, 4, none⟩ c4).setCell ⟨g, 5, none⟩ c5).setCell ⟨g, 6, none⟩ c6).setCell ⟨g, 7, none⟩ c7) :=
  vec_ret0 hfn hp hd (put8_lit hg) hR
theorem Own.put8 {d : Nat} {V : Vec} {y : Value} {lo hi : Nat} {w : World} (h : Own d V y lo hi w) {g p : Nat} (hg : g < lo) (c0 c1 c2 c3 c4 c5 c6 c7 : Value) : Own d V y lo hi (put8 w g p c0 c1 c2 c3 c4 c5 c6 c7) := by
  obtain ⟨F, h1, h2, h3⟩ := h.out
  exact ⟨F, h1.kept _ _ _ _ (fun b hb => put8_other (by have := h3 b hb; omega)), h2, h3⟩
theorem put8_size {w : World} {g p : Nat} {c0 c1 c2 c3 c4 c5 c6 c7 : Value} : (put8 w g p c0 c1 c2 c3 c4 c5 c6 c7).heap.size = w.heap.size := by unfold put8; simp
theorem AppL.fin {w wr : World} {kind : Int} {l : List It} {sa : Option Addr} {sn sc : Nat} (h : AppL w wr kind l sa sn sc) : ResV 1 (vecOf kind l) w (.returned (.agg #[.int .i64 kind, .slice sa sn sc, .slice none 0 0, .slice none 0 0, .slice none 0 0, .slice none 0 0, .int .i64 0, .int .i64 0])) (put8 wr w.heap.size 0 (.int .i64 kind) (.slice sa sn sc) (.slice none 0 0) (.slice none 0 0) (.slice none 0 0) (.slice none 0 0) (.int .i64 0) (.int .i64 0)) := by
  have ho := own_vecOf (k := kind) (lo := w.heap.size + 2) h.row (Nat.le_refl _)
  refine ⟨_, rfl, ((ho.put8 (by omega) _ _ _ _ _ _ _ _).wide (by omega) ?_), put8_below h.below (Nat.le_refl _)⟩
  rw [put8_size]
  exact Nat.le_refl _
theorem AppL.set3 {w wr : World} {kind : Int} {l : List It} {sa : Option Addr} {sn sc g : Nat} {x y z : Value} (h : AppL w wr kind l sa sn sc) (h0 : w.heap.size ≤ g) (hf : ∀ j, (Value.slice sa sn sc).ownBlock = some j → j ≠ g) (hg : w.heap.size + 1 < g) :
    AppL w (((wr.setCell ⟨g, 0, none⟩ x).setCell ⟨g, 1, none⟩ y).setCell ⟨g, 2, none⟩ z) kind l sa sn sc := by
  refine ⟨blk_set3' h.res (by omega), blk_set3' h.vec (by omega), ?_, below_three h.below h0 _ _ _⟩
  obtain ⟨hl, h1⟩ := h.row
  refine ⟨hl, h1.imp id ?_⟩
  rintro ⟨b, cap, cur, e, hB, hb, r⟩
  exact ⟨b, cap, cur, e, hB, blk_set3' hb (hf b (by rw [e]; rfl)), r⟩
/-- The item of a logical value. -/
def logI (x : Int) : It := if x = 0 then ⟨0, 1, ⟨#[]⟩⟩ else if x = 1 then ⟨1, 1, ⟨#[]⟩⟩ else noI
theorem implLogItem (x : Int) (w : World) (h : L3 x) :
    Calls Try.prog 51 #[.int .i64 x] w fun e w' => e = .returned (.agg #[.int .i64 (logI x).n, .int .i64 (logI x).d, .string (logI x).t]) ∧ Below w.heap.size w w' := by
  rcases h with rfl | rfl | rfl
  all_goals
    go_enter Try.func51, Try.ntmps51
    go_wp2
    first | exact item_ret0 rfl rfl rfl (blk_new _ _ rfl) ⟨rfl, below1 w _⟩ | exact item_ret rfl rfl rfl (blk_new _ _ rfl) ⟨rfl, below_three (below1 w _) (Nat.le_refl _) _ _ _⟩
theorem specNum2 (n : Int) (w : World) :
    Calls Try.prog 50 #[.int .i64 n] w fun e w' => e = .returned (.agg #[.int .i64 n, .int .i64 1, .string ⟨#[]⟩]) ∧ Below w.heap.size w w' := by
  go_enter Try.func50, Try.ntmps50
  go_wp2
  first | exact item_ret0 rfl rfl rfl (blk_new _ _ rfl) ⟨rfl, below1 w _⟩ | exact item_ret rfl rfl rfl (blk_new _ _ rfl) ⟨rfl, below_three (below1 w _) (Nat.le_refl _) _ _ _⟩
theorem logI_v (x : Int) : logI (vL x) = logI x := by
  unfold logI vL
  by_cases h0 : x = 0
  · simp [h0]
  · by_cases h1 : x = 1
    · simp [h1]
    · simp [h0, h1]
set_option maxHeartbeats 2000000 in
theorem implLogVec (a : Option Addr) (n cap : Nat) (f : Nat → Int) (B : Nat) (w : World) (hs : IntsAt B w a n f) (hB : B ≤ w.heap.size) (hn : n ≤ 1048576) :
    Calls Try.prog 15 #[.slice a n cap] w (ResV 1 (if n ≤ 40 then vecOf 1 (itF (fun i => logI (f i)) n) else noV) w) := by
  by_cases h40 : n ≤ 40
  · rw [if_pos h40]
    have SA := Lib.hid hs
    have ST := Lib.hid (AppL.start w 1)
    clear hs
    go_enter Try.func15, Try.ntmps15
    go_wp2
    go_loopw [13] (fun i wr => ∃ (k : Nat) (sa : Option Addr) (sn sc : Nat), k ≤ n ∧ i = .int .i64 k ∧ AppL w wr 1 (itF (fun i => logI (f i)) k) sa sn sc) (fun i _ => n - (intOf i).toNat)
    case atStart => exact ⟨0, none, 0, 0, Nat.zero_le _, rfl, ST.out⟩
    case round =>
      obtain ⟨k, sa, sn, sc, hk, rfl, hap⟩ := hrel
      have AP := Lib.hid hap
      clear hap
      by_cases hlt : k < n
      · obtain ⟨b, off, rfl, hbB, hc⟩ := (SA.out.below (AP.out.below.mono hB)) k hlt
        have LN := Lib.hid (show (itF (fun i => logI (f i)) k).length ≤ 1048576 by rw [itF_len]; omega)
        have HZ := Lib.hid AP.out.big
        have H := Lib.hid AP.out.heldC
        have OR := Lib.hid AP.out.row
        have FAR := Lib.hid (fun q hq => AP.out.far (q := q) hq)
        have NX := Lib.hid (itF_succ (fun i => logI (f i)) k)
        have CV := Lib.hid (fun W => implVal (f k) W)
        have CI := Lib.hid (fun W => (logI_v (f k) ▸ implLogItem (vL (f k)) W (vL_three _)))
        go_wp2
        refine run_region (ops := (opsOf Try.f15 7)) (S := fun w' => HeldC w w' ([(w.heap.size, 27, #[.int .i64 0, .slice none 0 0, .slice none 0 0, .slice none 0 0, .slice none 0 0, .slice none 0 0, .int .i64 0, .int .i64 0]), (w.heap.size + 1, 27, #[.int .i64 1, .slice sa sn sc, .slice none 0 0, .slice none 0 0, .slice none 0 0, .slice none 0 0, .int .i64 0, .int .i64 0])])) [(0, true), (1, true), (2, true), (3, false), (4, false), (5, false), (6, false), (7, true), (8, false)] (by kernel_rfl) (by kernel_rfl) (by kernel_rfl) (by kernel_rfl) (by kernel_rfl) (fun _ _ _ _ _ h => h) (heldC_drew H.out) ?_
        have H := Lib.hid (heldC_drew H.out)
        have OR := Lib.hid (ownsRow_below OR.out (below_drew' (Below.refl _ _)))
        refine runC_partV (b := w.heap.size + 1) (by kernel_rfl) (show opAt (opsOf Try.f15 7) 0 = some (some 17, .fieldAddr 27 (.tmp 3) 1, none) from by kernel_rfl) (by kernel_rfl) (by kernel_rfl) (by kernel_rfl) ?_
        refine runC_cell (b := w.heap.size + 1) (j := 1) (v := .slice sa sn sc) load_its (show opAt (opsOf Try.f15 7) 1 = some (some 18, .load 23 (.tmp 17), none) from by kernel_rfl) (by kernel_rfl) (by kernel_rfl) (by kernel_rfl) (List.Mem.tail _ (List.Mem.head _)) rfl ?_
        refine run_mov (v := .int .i64 (f k)) (show opAt (opsOf Try.f15 7) 2 = some (some 19, .move (.tmp 5), none) from by kernel_rfl) (by kernel_rfl) (by kernel_rfl) (by kernel_rfl) ?_
        refine run_call (args := [.int .i64 (f k)]) (show opAt (opsOf Try.f15 7) 3 = some (some 20, .call { callee := .value (.func 52), args := [(.tmp 19)].toArray, argTypes := [3].toArray }, none) from by kernel_rfl) (by kernel_rfl) (by kernel_rfl) (by kernel_rfl) (by kernel_rfl) ?_
        refine (CV.out _).mono ?_
        rintro en rw1 ⟨rfl, rfl⟩
        refine ⟨_, rfl, H.out, ?_⟩
        refine run_call (args := [.int .i64 (vL (f k))]) (show opAt (opsOf Try.f15 7) 4 = some (some 21, .call { callee := .value (.func 51), args := [(.tmp 20)].toArray, argTypes := [66].toArray }, none) from by kernel_rfl) (by kernel_rfl) (by kernel_rfl) (by kernel_rfl) (by kernel_rfl) ?_
        refine (CI.out _).mono ?_
        rintro en rw2 ⟨rfl, hb⟩
        refine ⟨_, rfl, heldC_call H.out hb, ?_⟩
        have H := Lib.hid (heldC_call H.out hb)
        have OR := Lib.hid (ownsRow_below OR.out hb)
        clear hb
        refine tail_item (logI (f k)) (show opAt (opsOf Try.f15 7) 5 = some (some 22, .buildSlice 23 1 #[(0, (.tmp 21))], none) from by kernel_rfl) (by kernel_rfl) (by kernel_rfl) (show opAt (opsOf Try.f15 7) 6 = some (some 23, .call { callee := .builtin .append, args := [(.tmp 18), (.tmp 22)].toArray, argTypes := [23, 23].toArray }, none) from by kernel_rfl) (by kernel_rfl) (fun _ => by kernel_rfl) (show opAt (opsOf Try.f15 7) 7 = some (some 24, .fieldAddr 27 (.tmp 3) 1, none) from by kernel_rfl) (by kernel_rfl) (by kernel_rfl) (fun _ _ => by kernel_rfl) (show opAt (opsOf Try.f15 7) 8 = some (none, .store 23 (.tmp 24) (.tmp 23), none) from by kernel_rfl) (by kernel_rfl) (by kernel_rfl) H.out OR.out LN.out (Nat.succ_le_of_lt (Array.getElem?_eq_some_iff.1 (heldC_at H.out (List.Mem.tail _ (List.Mem.head _)))).1) (Nat.le_add_right _ 2) (List.Mem.tail _ (List.Mem.head _)) rfl (Nat.lt_succ_self _) (Nat.le_succ _) (fun q hq => FAR.out q hq) ?_
        rintro v' w2 ⟨sa, sn, sc, rfl⟩ hK hO hB hZ hR
        simp only [putAll, Act.put, List.setIfInBounds_toArray, List.set_cons_zero, List.set_cons_succ]
        have AN := Lib.hid (AppL.next (kind := 1) hK hO hB hR)
        clear hK hO hB hR H OR FAR HZ LN
        go_wp2
        go_roundw
        case rel => exact ⟨k + 1, sa, sn, sc, by omega, by go_num, NX.out ▸ AN.out⟩
        case measure => simp [intOf]; omega
      · obtain rfl : k = n := by omega
        have K1 := Lib.hid AP.out.vec
        have K0 := Lib.hid AP.out.res
        have FN := Lib.hid AP.out.fin
        obtain ⟨k0, k1, k2, k3, k4, k5, k6, k7⟩ := vec8 K1.out
        obtain ⟨z0, z1, z2, z3, z4, z5, z6, z7⟩ := vec8 K0.out
        obtain ⟨f0, f1, f2, f3, f4, f5, f6, f7⟩ := free8 K0.out
        go_wp2
        exact vec_end rfl rfl rfl K0.out FN.out
  · rw [if_neg h40]
    have Z := Lib.hid (fun hi W => own_zero w.heap.size hi W)
    clear hs
    go_enter Try.func15, Try.ntmps15
    go_wp2
    exact vec_ret0 rfl rfl rfl (blk_new _ _ rfl) ⟨_, rfl, Z.out _ _, below1 w _⟩
theorem heldC_cons {w v : World} {L : List (Nat × TypeId × Array Value)} {g : Nat} {t : TypeId} {C : Array Value} (h : HeldC w v L) (hb : v.heap[g]? = some (.cells C t (0, 0))) : HeldC w v ((g, t, C) :: L) :=
  ⟨h.1, fun q hq => by
    rcases List.mem_cons.1 hq with rfl | hq
    · exact hb
    · exact h.2 q hq⟩
theorem AppL.far2 {w wr : World} {kind : Int} {l : List It} {sa : Option Addr} {sn sc : Nat} (h : AppL w wr kind l sa sn sc) {C : Array Value} {q : Nat × TypeId × Array Value} (hq : q ∈ (wr.heap.size, 62, C) :: [(w.heap.size, 27, #[.int .i64 0, .slice none 0 0, .slice none 0 0, .slice none 0 0, .slice none 0 0, .slice none 0 0, .int .i64 0, .int .i64 0]), (w.heap.size + 1, 27, #[.int .i64 kind, .slice sa sn sc, .slice none 0 0, .slice none 0 0, .slice none 0 0, .slice none 0 0, .int .i64 0, .int .i64 0])]) : ∀ k, (Value.slice sa sn sc).ownBlock = some k → q.1 ≠ k := by
  rcases List.mem_cons.1 hq with rfl | hq
  · intro k hk e
    have h1 := (h.row.lt k hk).2
    simp only at e; omega
  · exact h.far hq
set_option maxHeartbeats 4000000 in
theorem specLogVec (a : Option Addr) (n cap : Nat) (f : Nat → Int) (B : Nat) (w : World) (hs : IntsAt B w a n f) (hB : B ≤ w.heap.size) (hn : n ≤ 1048576) :
    Calls Try.prog 13 #[.slice a n cap] w (ResV 1 (if n ≤ 40 then vecOf 1 (itF (fun i => logI (f i)) n) else noV) w) := by
  by_cases h40 : n ≤ 40
  · rw [if_pos h40]
    have SA := Lib.hid hs
    have ST := Lib.hid (AppL.start w 1)
    clear hs
    go_enter Try.func13, Try.ntmps13
    go_wp2
    go_loopw [4] (fun i wr => ∃ (k : Nat) (sa : Option Addr) (sn sc : Nat), k ≤ n ∧ i = .int .i64 k ∧ AppL w wr 1 (itF (fun i => logI (f i)) k) sa sn sc) (fun i _ => n - (intOf i).toNat)
    case atStart => exact ⟨0, none, 0, 0, Nat.zero_le _, rfl, ST.out⟩
    case round =>
      obtain ⟨k, sa, sn, sc, hk, rfl, hap⟩ := hrel
      have AP := Lib.hid hap
      clear hap
      by_cases hlt : k < n
      · obtain ⟨b, off, rfl, hbB, hc0⟩ := SA.out k hlt
        have hc := (AP.out.below.cell (p := ⟨b, off + k, none⟩) (Nat.lt_of_lt_of_le hbB hB)).trans hc0
        have LN := Lib.hid (show (itF (fun i => logI (f i)) k).length ≤ 1048576 by rw [itF_len]; omega)
        have HZ := Lib.hid AP.out.big
        have NX := Lib.hid (itF_succ (fun i => logI (f i)) k)
        have IN := Lib.hid (fun W => in01 (f k) W)
        have FAR := Lib.hid (fun C q hq => AP.out.far2 (C := C) (q := q) hq)
        have hz := AP.out.big
        have hbw : b < wr.heap.size := Nat.lt_of_lt_of_le (Nat.lt_of_lt_of_le hbB hB) AP.out.below.size
        go_wp2_with fail
        obtain ⟨w1, hw1⟩ : ∃ W, wr.alloc (.cells #[.int .i64 0, .int .i64 0, .string ⟨#[]⟩] 62) = W := ⟨_, rfl⟩
        have B1 := Lib.hid (show Below wr.heap.size wr w1 from hw1 ▸ below1 wr _)
        have X1 := Lib.hid (show w1.heap[wr.heap.size]? = some (.cells #[.int .i64 0, .int .i64 0, .string ⟨#[]⟩] 62 (0, 0)) from hw1 ▸ blk_new wr _ rfl)
        rw [hw1]
        clear hw1
        have hc1 := (B1.out.cell (p := ⟨b, off + k, none⟩) (Nat.lt_of_lt_of_le (Nat.lt_of_lt_of_le hbB hB) AP.out.below.size)).trans hc
        with_reducible refine (IN.out _).mono ?_
        rintro e w' ⟨rfl, rfl⟩
        by_cases h01 : f k = 0 ∨ f k = 1
        · rw [decide_eq_true h01]
          have LV := Lib.hid (show logI (f k) = ⟨f k, 1, ⟨#[]⟩⟩ by rcases h01 with h | h <;> rw [h] <;> rfl)
          have NU := Lib.hid (fun W => specNum2 (f k) W)
          clear h01
          go_wp2_with fail
          with_reducible refine (NU.out _).mono ?_
          rintro e w2 ⟨rfl, b2⟩
          have A2 := Lib.hid (AP.out.keep (below_then B1.out b2))
          have X2 := Lib.hid (blk_below b2 X1.out)
          have FX := Lib.hid (freeOf X2.out : w2.frozen? ⟨wr.heap.size, 0, none⟩ = false)
          have hlt2 := (Array.getElem?_eq_some_iff.1 X2.out).1
          have q0 : w2.cell? ⟨wr.heap.size, 0, none⟩ = some (.int .i64 0) := cellOf X2.out rfl
          have q1 : w2.cell? ⟨wr.heap.size, 1, none⟩ = some (.int .i64 0) := cellOf X2.out rfl
          have q2 : w2.cell? ⟨wr.heap.size, 2, none⟩ = some (.string ⟨#[]⟩) := cellOf X2.out rfl
          have f0 : w2.frozen? ⟨wr.heap.size, 0, none⟩ = false := freeOf X2.out
          have f1 : w2.frozen? ⟨wr.heap.size, 1, none⟩ = false := freeOf X2.out
          have f2 : w2.frozen? ⟨wr.heap.size, 2, none⟩ = false := freeOf X2.out
          clear b2
          go_upto_region 8 with (fail)
          obtain ⟨w3, hw3⟩ : ∃ W, ((w2.setCell ⟨wr.heap.size, 0, none⟩ (.int .i64 (f k))).setCell ⟨wr.heap.size, 1, none⟩ (.int .i64 1)).setCell ⟨wr.heap.size, 2, none⟩ (.string ⟨#[]⟩) = W := ⟨_, rfl⟩
          have A3 := Lib.hid (show AppL w w3 1 (itF (fun i => logI (f i)) k) sa sn sc from hw3 ▸ A2.out.set3 (AP.out.below.size) (fun j hj => by have := (AP.out.row.lt j hj).2; omega) hz)
          have X3 := Lib.hid (show w3.heap[wr.heap.size]? = some (.cells #[.int .i64 (f k), .int .i64 1, .string ⟨#[]⟩] 62 (0, 0)) from hw3 ▸ cells_set3 X2.out)
          rw [hw3]
          clear hw3 q0 q1 q2 f0 f1 f2
          have H := Lib.hid (heldC_cons A3.out.heldC X3.out)
          have OR := Lib.hid A3.out.row
          refine run_region_seq (ops := (opsOf Try.f13 8)) (S := fun w' => HeldC w w' ([(wr.heap.size, 62, #[.int .i64 (f k), .int .i64 1, .string ⟨#[]⟩]), (w.heap.size, 27, #[.int .i64 0, .slice none 0 0, .slice none 0 0, .slice none 0 0, .slice none 0 0, .slice none 0 0, .int .i64 0, .int .i64 0]), (w.heap.size + 1, 27, #[.int .i64 1, .slice sa sn sc, .slice none 0 0, .slice none 0 0, .slice none 0 0, .slice none 0 0, .int .i64 0, .int .i64 0])])) [(0, true), (1, true), (2, true), (3, false), (4, false), (5, true), (6, false)] (by kernel_rfl) (by kernel_rfl) (by kernel_rfl) H.out ?_
          refine runC_partV (b := w.heap.size + 1) (by kernel_rfl) (show opAt (opsOf Try.f13 8) 0 = some (some 29, .fieldAddr 27 (.tmp 3) 1, none) from by kernel_rfl) (by kernel_rfl) (by kernel_rfl) (by kernel_rfl) ?_
          refine runC_cell (b := w.heap.size + 1) (j := 1) (v := .slice sa sn sc) load_its (show opAt (opsOf Try.f13 8) 1 = some (some 30, .load 23 (.tmp 29), none) from by kernel_rfl) (by kernel_rfl) (by kernel_rfl) (by kernel_rfl) (List.Mem.tail _ (List.Mem.tail _ (List.Mem.head _))) rfl ?_
          refine runC_itm (b := wr.heap.size) (show opAt (opsOf Try.f13 8) 2 = some (some 31, .load 62 (.tmp 5), none) from by kernel_rfl) (by kernel_rfl) (by kernel_rfl) (by kernel_rfl) (List.Mem.head _) ?_
          refine tail_item ⟨f k, 1, ⟨#[]⟩⟩ (show opAt (opsOf Try.f13 8) 3 = some (some 32, .buildSlice 23 1 #[(0, (.tmp 31))], none) from by kernel_rfl) (by kernel_rfl) (by kernel_rfl) (show opAt (opsOf Try.f13 8) 4 = some (some 33, .call { callee := .builtin .append, args := [(.tmp 30), (.tmp 32)].toArray, argTypes := [23, 23].toArray }, none) from by kernel_rfl) (by kernel_rfl) (fun _ => by kernel_rfl) (show opAt (opsOf Try.f13 8) 5 = some (some 34, .fieldAddr 27 (.tmp 3) 1, none) from by kernel_rfl) (by kernel_rfl) (by kernel_rfl) (fun _ _ => by kernel_rfl) (show opAt (opsOf Try.f13 8) 6 = some (none, .store 23 (.tmp 34) (.tmp 33), none) from by kernel_rfl) (by kernel_rfl) (by kernel_rfl) H.out OR.out LN.out (Nat.succ_le_of_lt (Array.getElem?_eq_some_iff.1 (heldC_at H.out (List.Mem.tail _ (List.Mem.tail _ (List.Mem.head _))))).1) (Nat.le_add_right _ 2) (List.Mem.tail _ (List.Mem.tail _ (List.Mem.head _))) rfl (Nat.lt_succ_self _) (Nat.le_succ _) (fun q hq => FAR.out _ q hq) ?_
          rintro v' w2 ⟨sa, sn, sc, rfl⟩ hK hO hB hZ hR
          simp only [putAll, Act.put, List.setIfInBounds_toArray, List.set_cons_zero, List.set_cons_succ]
          have NX := Lib.hid (show itF (fun i => logI (f i)) k ++ [⟨f k, 1, ⟨#[]⟩⟩] = itF (fun i => logI (f i)) (k + 1) by rw [← LV.out]; exact NX.out)
          have AN := Lib.hid (AppL.next (kind := 1) hK hO hB (fun q hq => hR q (List.Mem.tail _ hq)))
          clear hK hO hB hR H OR FAR HZ LN
          go_wp2
          go_roundw
          case rel => exact ⟨k + 1, sa, sn, sc, by omega, by go_num, NX.out ▸ AN.out⟩
          case measure => simp [intOf]; omega
        · rw [decide_eq_false h01]
          have LV := Lib.hid (show logI (f k) = ⟨0, 0, ⟨#[]⟩⟩ by unfold logI; rw [if_neg (fun h => h01 (.inl h)), if_neg (fun h => h01 (.inr h))]; rfl)
          clear h01
          have A3 := Lib.hid (AP.out.keep B1.out)
          go_upto_region 8 with (fail)
          have H := Lib.hid (heldC_cons A3.out.heldC X1.out)
          have OR := Lib.hid A3.out.row
          refine run_region_seq (ops := (opsOf Try.f13 8)) (S := fun w' => HeldC w w' ([(wr.heap.size, 62, #[.int .i64 0, .int .i64 0, .string ⟨#[]⟩]), (w.heap.size, 27, #[.int .i64 0, .slice none 0 0, .slice none 0 0, .slice none 0 0, .slice none 0 0, .slice none 0 0, .int .i64 0, .int .i64 0]), (w.heap.size + 1, 27, #[.int .i64 1, .slice sa sn sc, .slice none 0 0, .slice none 0 0, .slice none 0 0, .slice none 0 0, .int .i64 0, .int .i64 0])])) [(0, true), (1, true), (2, true), (3, false), (4, false), (5, true), (6, false)] (by kernel_rfl) (by kernel_rfl) (by kernel_rfl) H.out ?_
          refine runC_partV (b := w.heap.size + 1) (by kernel_rfl) (show opAt (opsOf Try.f13 8) 0 = some (some 29, .fieldAddr 27 (.tmp 3) 1, none) from by kernel_rfl) (by kernel_rfl) (by kernel_rfl) (by kernel_rfl) ?_
          refine runC_cell (b := w.heap.size + 1) (j := 1) (v := .slice sa sn sc) load_its (show opAt (opsOf Try.f13 8) 1 = some (some 30, .load 23 (.tmp 29), none) from by kernel_rfl) (by kernel_rfl) (by kernel_rfl) (by kernel_rfl) (List.Mem.tail _ (List.Mem.tail _ (List.Mem.head _))) rfl ?_
          refine runC_itm (b := wr.heap.size) (show opAt (opsOf Try.f13 8) 2 = some (some 31, .load 62 (.tmp 5), none) from by kernel_rfl) (by kernel_rfl) (by kernel_rfl) (by kernel_rfl) (List.Mem.head _) ?_
          refine tail_item ⟨0, 0, ⟨#[]⟩⟩ (show opAt (opsOf Try.f13 8) 3 = some (some 32, .buildSlice 23 1 #[(0, (.tmp 31))], none) from by kernel_rfl) (by kernel_rfl) (by kernel_rfl) (show opAt (opsOf Try.f13 8) 4 = some (some 33, .call { callee := .builtin .append, args := [(.tmp 30), (.tmp 32)].toArray, argTypes := [23, 23].toArray }, none) from by kernel_rfl) (by kernel_rfl) (fun _ => by kernel_rfl) (show opAt (opsOf Try.f13 8) 5 = some (some 34, .fieldAddr 27 (.tmp 3) 1, none) from by kernel_rfl) (by kernel_rfl) (by kernel_rfl) (fun _ _ => by kernel_rfl) (show opAt (opsOf Try.f13 8) 6 = some (none, .store 23 (.tmp 34) (.tmp 33), none) from by kernel_rfl) (by kernel_rfl) (by kernel_rfl) H.out OR.out LN.out (Nat.succ_le_of_lt (Array.getElem?_eq_some_iff.1 (heldC_at H.out (List.Mem.tail _ (List.Mem.tail _ (List.Mem.head _))))).1) (Nat.le_add_right _ 2) (List.Mem.tail _ (List.Mem.tail _ (List.Mem.head _))) rfl (Nat.lt_succ_self _) (Nat.le_succ _) (fun q hq => FAR.out _ q hq) ?_
          rintro v' w2 ⟨sa, sn, sc, rfl⟩ hK hO hB hZ hR
          simp only [putAll, Act.put, List.setIfInBounds_toArray, List.set_cons_zero, List.set_cons_succ]
          have NX := Lib.hid (show itF (fun i => logI (f i)) k ++ [⟨0, 0, ⟨#[]⟩⟩] = itF (fun i => logI (f i)) (k + 1) by rw [← LV.out]; exact NX.out)
          have AN := Lib.hid (AppL.next (kind := 1) hK hO hB (fun q hq => hR q (List.Mem.tail _ hq)))
          clear hK hO hB hR H OR FAR HZ LN
          go_wp2
          go_roundw
          case rel => exact ⟨k + 1, sa, sn, sc, by omega, by go_num, NX.out ▸ AN.out⟩
          case measure => simp [intOf]; omega
      · obtain rfl : k = n := by omega
        have K1 := Lib.hid AP.out.vec
        have K0 := Lib.hid AP.out.res
        have FN := Lib.hid AP.out.fin
        obtain ⟨k0, k1, k2, k3, k4, k5, k6, k7⟩ := vec8 K1.out
        obtain ⟨z0, z1, z2, z3, z4, z5, z6, z7⟩ := vec8 K0.out
        obtain ⟨f0, f1, f2, f3, f4, f5, f6, f7⟩ := free8 K0.out
        go_wp2
        exact vec_end rfl rfl rfl K0.out FN.out
  · rw [if_neg h40]
    have Z := Lib.hid (fun hi W => own_zero w.heap.size hi W)
    clear hs
    go_enter Try.func13, Try.ntmps13
    go_wp2
    refine wp_loop_rounds 1 ?_
    rw [rounds_succ]
    go_wp2
    exact vec_ret0 rfl rfl rfl (blk_old (blk_new w _ rfl)) ⟨_, rfl, Z.out _ _, (below1 w _).alloc (by simp) _⟩
end Go.Proofs.Yteigfhenbmhepaa
