/- TextVector on both sides. -/
import Derived.Test.YteigfhenbmhepaaRows
import Derived.Test.YteigfhenbmhepaaVecLog
import Derived.Test.YteigfhenbmhepaaLawItems
import Derived.Test.YteigfhenbmhepaaVecCntI
import Derived.Test.YteigfhenbmhepaaVecCnt
import Derived.WalkKit
import Derived.OwnWalk
import Derived.Deep.DeepCutAuto
import Derived.Lib.Hide
namespace Go.Proofs.Yteigfhenbmhepaa
open Go.RowKit
set_option maxRecDepth 100000
set_option linter.unusedVariables false

def txI (s : ByteArray) : It := ⟨0, 1, s⟩
theorem valid_vecOf {k : Int} {l : List It} (hk : 1 ≤ k ∧ k ≤ 3) : ValidV (vecOf k l) ↔ l.length ≤ 40 ∧ ∀ i, i < l.length → ItOk k (l.getD i noI) := by
  have e4 : cellsV 3 (vecOf k l) = lenV k l.length 0 := by
    show lengthV _ + sumN _ 0 = _
    simp [sumN]; rfl
  have e5 : lenV k l.length 0 = l.length := by unfold lenV; rw [if_neg (by omega)]; rfl
  have z : ∀ i, i < ([] : List ByteArray).length → False := fun i h => Nat.not_lt_zero _ h
  constructor
  · rintro ⟨h, _⟩
    have hf : FlatOk k l 0 [] [] [] 0 0 := h.flat
    exact ⟨by have := hf.h_len; omega, fun i hi => (hf.h_items i hi).1⟩
  · rintro ⟨h1, h2⟩
    have hf : FlatOk k l 0 [] [] [] 0 0 := ⟨by omega, by omega, .inl rfl, ⟨fun i h => (z i h).elim, .inl rfl⟩, ⟨Nat.zero_le _, fun i h => (z i h).elim⟩, ⟨Nat.zero_le _, fun i h => (z i h).elim⟩, fun _ => ⟨rfl, rfl⟩, fun _ => rfl, fun _ => rfl, fun h => by omega, fun h => by omega, fun h => by omega, fun i hi => ⟨h2 i hi, .inl rfl⟩⟩
    exact ⟨⟨hf, fun i h => (Nat.not_lt_zero i h).elim⟩, by omega⟩
theorem itF_getD (g : Nat → It) {i n : Nat} (h : i < n) : (itF g n).getD i noI = g i := by unfold itF; simp [List.getD_eq_getElem?_getD, h]
theorem valid_txt {f : Nat → ByteArray} {n : Nat} (h : n ≤ 40) : ValidV (vecOf 3 (itF (fun i => txI (f i)) n)) ↔ ¬ LongIn f n := by
  rw [valid_vecOf (by decide), itF_len]
  constructor
  · rintro ⟨_, h2⟩ ⟨i, hi, hl⟩
    have h3 := h2 i hi
    rw [itF_getD _ hi] at h3
    rcases h3 with h3 | ⟨h3, _⟩ | ⟨h3, _⟩ | ⟨_, _, _, h3⟩
    · exact absurd (congrArg It.d h3) (by show ¬ (1 : Int) = 0; decide)
    · omega
    · omega
    · have h4 : (f i).size ≤ 60 := h3
      omega
  · intro hn
    refine ⟨h, fun i hi => ?_⟩
    rw [itF_getD _ hi]
    exact .inr (.inr (.inr ⟨rfl, rfl, rfl, Nat.not_lt.1 (fun hl => hn ⟨i, hi, hl⟩)⟩))
/-- What TextVector answers. -/
noncomputable def textV (f : Nat → ByteArray) (n : Nat) : Vec := match bB (n ≤ 40 ∧ ¬ LongIn f n) with
  | true => vecOf 3 (itF (fun i => txI (f i)) n)
  | false => noV
theorem textV_yes {f : Nat → ByteArray} {n : Nat} (h : n ≤ 40) (hl : ¬ LongIn f n) : textV f n = vecOf 3 (itF (fun i => txI (f i)) n) := by unfold textV; rw [bB_yes ⟨h, hl⟩]
theorem textV_big {f : Nat → ByteArray} {n : Nat} (h : ¬ n ≤ 40) : textV f n = noV := by unfold textV; rw [bB_no (fun k => h k.1)]
theorem textV_long {f : Nat → ByteArray} {n : Nat} (hl : LongIn f n) : textV f n = noV := by unfold textV; rw [bB_no (fun k => k.2 hl)]
theorem implTxtItem (s : ByteArray) (w : World) :
    Calls Try.prog 64 #[.string s] w fun e w' => e = .returned (.agg #[.int .i64 0, .int .i64 1, .string s]) ∧ Below w.heap.size w w' := by
  go_enter Try.func64, Try.ntmps64
  go_wp2
  first | exact item_ret0 rfl rfl rfl (blk_new _ _ rfl) ⟨rfl, below1 w _⟩ | exact item_ret rfl rfl rfl (blk_new _ _ rfl) ⟨rfl, below_three (below1 w _) (Nat.le_refl _) _ _ _⟩
theorem specTxtItem (s : ByteArray) (w : World) :
    Calls Try.prog 60 #[.string s] w fun e w' => e = .returned (.agg #[.int .i64 0, .int .i64 1, .string s]) ∧ Below w.heap.size w w' := by
  go_enter Try.func60, Try.ntmps60
  go_wp2
  first | exact item_ret0 rfl rfl rfl (blk_new _ _ rfl) ⟨rfl, below1 w _⟩ | exact item_ret rfl rfl rfl (blk_new _ _ rfl) ⟨rfl, below_three (below1 w _) (Nat.le_refl _) _ _ _⟩
set_option maxHeartbeats 2000000 in
theorem implTxtVec (a : Option Addr) (n cap : Nat) (f : Nat → ByteArray) (B : Nat) (w : World) (hs : StrsAt B w a n f) (hB : B ≤ w.heap.size) (hn : n ≤ 1048576) (hsz : ∀ i, i < n → (f i).size ≤ 1048576) :
    Calls Try.prog 26 #[.slice a n cap] w (ResV 1 (textV f n) w) := by
  have Z := Lib.hid (fun hi W => own_zero w.heap.size hi W)
  by_cases h40 : n ≤ 40
  · have CF := Lib.hid (fun (w1 : World) (hb : Below w.heap.size w w1) => implContainsFunc a n cap f B w1 (hs.below (hb.mono hB)) (by omega) (fun i hi => by have := hsz i hi; omega))
    by_cases hl : LongIn f n
    · rw [textV_long hl]
      rw [bB_yes hl] at CF
      clear hs hsz hl
      go_enter Try.func26, Try.ntmps26
      go_wp2_with fail
      with_reducible refine (CF.out _ (below1 w _)).mono ?_
      rintro e w' ⟨rfl, rfl⟩
      go_wp2
      exact vec_ret0 rfl rfl rfl (blk_new _ _ rfl) ⟨_, rfl, Z.out _ _, below1 w _⟩
    rw [textV_yes h40 hl]
    rw [bB_no hl] at CF
    have SA := Lib.hid hs
    have ST := Lib.hid (AppL.start w 3)
    clear hs hsz hl
    go_enter Try.func26, Try.ntmps26
    go_wp2_with fail
    with_reducible refine (CF.out _ (below1 w _)).mono ?_
    rintro e w' ⟨rfl, rfl⟩
    go_wp2
    go_loopw [17] (fun i wr => ∃ (k : Nat) (sa : Option Addr) (sn sc : Nat), k ≤ n ∧ i = .int .i64 k ∧ AppL w wr 3 (itF (fun i => txI (f i)) k) sa sn sc) (fun i _ => n - (intOf i).toNat)
    case atStart => exact ⟨0, none, 0, 0, Nat.zero_le _, rfl, ST.out⟩
    case round =>
      obtain ⟨k, sa, sn, sc, hk, rfl, hap⟩ := hrel
      have AP := Lib.hid hap
      clear hap
      by_cases hlt : k < n
      · obtain ⟨b, off, rfl, hbB, hc⟩ := (SA.out.below (AP.out.below.mono hB)) k hlt
        have LN := Lib.hid (show (itF (fun i => txI (f i)) k).length ≤ 1048576 by rw [itF_len]; omega)
        have HZ := Lib.hid AP.out.big
        have H := Lib.hid AP.out.heldC
        have OR := Lib.hid AP.out.row
        have FAR := Lib.hid (fun q hq => AP.out.far (q := q) hq)
        have NX := Lib.hid (itF_succ (fun i => txI (f i)) k)
        have CI := Lib.hid (fun W => implTxtItem (f k) W)
        go_wp2
        refine run_region (ops := (opsOf Try.f26 7)) (S := fun w' => HeldC w w' ([(w.heap.size, 27, #[.int .i64 0, .slice none 0 0, .slice none 0 0, .slice none 0 0, .slice none 0 0, .slice none 0 0, .int .i64 0, .int .i64 0]), (w.heap.size + 1, 27, #[.int .i64 3, .slice sa sn sc, .slice none 0 0, .slice none 0 0, .slice none 0 0, .slice none 0 0, .int .i64 0, .int .i64 0])])) [(0, true), (1, true), (2, true), (3, false), (4, false), (5, false), (6, true), (7, false)] (by kernel_rfl) (by kernel_rfl) (by kernel_rfl) (by kernel_rfl) (by kernel_rfl) (fun _ _ _ _ _ h => h) (heldC_drew H.out) ?_
        have H := Lib.hid (heldC_drew H.out)
        have OR := Lib.hid (ownsRow_below OR.out (below_drew' (Below.refl _ _)))
        refine runC_partV (b := w.heap.size + 1) (by kernel_rfl) (show opAt (opsOf Try.f26 7) 0 = some (some 21, .fieldAddr 27 (.tmp 3) 1, none) from by kernel_rfl) (by kernel_rfl) (by kernel_rfl) (by kernel_rfl) ?_
        refine runC_cell (b := w.heap.size + 1) (j := 1) (v := .slice sa sn sc) load_its (show opAt (opsOf Try.f26 7) 1 = some (some 22, .load 23 (.tmp 21), none) from by kernel_rfl) (by kernel_rfl) (by kernel_rfl) (by kernel_rfl) (List.Mem.tail _ (List.Mem.head _)) rfl ?_
        refine run_mov (v := .string (f k)) (show opAt (opsOf Try.f26 7) 2 = some (some 23, .move (.tmp 5), none) from by kernel_rfl) (by kernel_rfl) (by kernel_rfl) (by kernel_rfl) ?_
        refine run_call (args := [.string (f k)]) (show opAt (opsOf Try.f26 7) 3 = some (some 24, .call { callee := .value (.func 64), args := [(.tmp 23)].toArray, argTypes := [9].toArray }, none) from by kernel_rfl) (by kernel_rfl) (by kernel_rfl) (by kernel_rfl) (by kernel_rfl) ?_
        refine (CI.out _).mono ?_
        rintro en rw1 ⟨rfl, hb⟩
        refine ⟨_, rfl, heldC_call H.out hb, ?_⟩
        have H := Lib.hid (heldC_call H.out hb)
        have OR := Lib.hid (ownsRow_below OR.out hb)
        clear hb
        refine tail_item (txI (f k)) (show opAt (opsOf Try.f26 7) 4 = some (some 25, .buildSlice 23 1 #[(0, (.tmp 24))], none) from by kernel_rfl) (by kernel_rfl) (by kernel_rfl) (show opAt (opsOf Try.f26 7) 5 = some (some 26, .call { callee := .builtin .append, args := [(.tmp 22), (.tmp 25)].toArray, argTypes := [23, 23].toArray }, none) from by kernel_rfl) (by kernel_rfl) (fun _ => by kernel_rfl) (show opAt (opsOf Try.f26 7) 6 = some (some 27, .fieldAddr 27 (.tmp 3) 1, none) from by kernel_rfl) (by kernel_rfl) (by kernel_rfl) (fun _ _ => by kernel_rfl) (show opAt (opsOf Try.f26 7) 7 = some (none, .store 23 (.tmp 27) (.tmp 26), none) from by kernel_rfl) (by kernel_rfl) (by kernel_rfl) H.out OR.out LN.out (Nat.succ_le_of_lt (Array.getElem?_eq_some_iff.1 (heldC_at H.out (List.Mem.tail _ (List.Mem.head _)))).1) (Nat.le_add_right _ 2) (List.Mem.tail _ (List.Mem.head _)) rfl (Nat.lt_succ_self _) (Nat.le_succ _) (fun q hq => FAR.out q hq) ?_
        rintro v' w2 ⟨sa, sn, sc, rfl⟩ hK hO hB hZ hR
        simp only [putAll, Act.put, List.setIfInBounds_toArray, List.set_cons_zero, List.set_cons_succ]
        have AN := Lib.hid (AppL.next (kind := 3) hK hO hB hR)
        clear hK hO hB hR H OR FAR HZ LN
        go_wp2
        go_roundw
        case rel => exact ⟨k + 1, sa, sn, sc, by omega, by go_num, NX.out ▸ AN.out⟩
        case measure => simp [intOf]; omega
      · obtain rfl : k = n := by omega
        have K1 := Lib.hid AP.out.vec
        have K0 := Lib.hid AP.out.res
        have FN := Lib.hid AP.out.fin
        obtain ⟨k0, k1, k2, k3, k4, k5, k6, k7⟩ := vec8 K1.out
        obtain ⟨z0, z1, z2, z3, z4, z5, z6, z7⟩ := vec8 K0.out
        obtain ⟨f0, f1, f2, f3, f4, f5, f6, f7⟩ := free8 K0.out
        go_wp2
        exact vec_end rfl rfl rfl K0.out FN.out
  · rw [textV_big h40]
    clear hs hsz
    go_enter Try.func26, Try.ntmps26
    go_wp2
    exact vec_ret0 rfl rfl rfl (blk_new _ _ rfl) ⟨_, rfl, Z.out _ _, below1 w _⟩
theorem AppL.vat {w wr : World} {kind : Int} {l : List It} {sa : Option Addr} {sn sc : Nat} (h : AppL w wr kind l sa sn sc) : VecAt 0 wr.heap.size wr 1 (vecOf kind l) (.agg #[.int .i64 kind, .slice sa sn sc, .slice none 0 0, .slice none 0 0, .slice none 0 0, .slice none 0 0, .int .i64 0, .int .i64 0]) :=
  (own_vecOf (k := kind) (lo := 0) h.row (Nat.zero_le _)).vat (Nat.le_refl _)
theorem valid_nil3 : ValidV (vecOf 3 []) := (valid_vecOf (by decide)).2 ⟨Nat.zero_le _, fun i hi => (Nat.not_lt_zero i hi).elim⟩
set_option maxHeartbeats 4000000 in
theorem specTxtVec (a : Option Addr) (n cap : Nat) (f : Nat → ByteArray) (B : Nat) (w : World) (hs : StrsAt B w a n f) (hB : B ≤ w.heap.size) (hn : n ≤ 1048576) (hsz : ∀ i, i < n → (f i).size ≤ 1048576) :
    Calls Try.prog 24 #[.slice a n cap] w (ResV 1 (textV f n) w) := by
  have Z := Lib.hid (fun hi W => own_zero w.heap.size hi W)
  by_cases h40 : n ≤ 40
  · have IS := Lib.hid (fun (wr : World) (sa : Option Addr) (sn sc : Nat) (h : AppL w wr 3 (itF (fun i => txI (f i)) n) sa sn sc) => specIsVector 1 (vecOf 3 (itF (fun i => txI (f i)) n)) _ 0 wr.heap.size wr h.vat (Nat.le_refl _) (small_vecOf (by rw [itF_len]; omega) (fun x hx => by obtain ⟨i, hi, rfl⟩ := mem_itF hx; exact hsz i hi)))
    have SA := Lib.hid hs
    have ST := Lib.hid (AppL.start w 3)
    clear hs hsz
    go_enter Try.func24, Try.ntmps24
    go_wp2
    go_loopw [4] (fun i wr => ∃ (k : Nat) (sa : Option Addr) (sn sc : Nat), k ≤ n ∧ i = .int .i64 k ∧ AppL w wr 3 (itF (fun i => txI (f i)) k) sa sn sc) (fun i _ => n - (intOf i).toNat)
    case atStart => exact ⟨0, none, 0, 0, Nat.zero_le _, rfl, ST.out⟩
    case round =>
      obtain ⟨k, sa, sn, sc, hk, rfl, hap⟩ := hrel
      have AP := Lib.hid hap
      clear hap
      by_cases hlt : k < n
      · obtain ⟨b, off, rfl, hbB, hc0⟩ := SA.out k hlt
        have LN := Lib.hid (show (itF (fun i => txI (f i)) k).length ≤ 1048576 by rw [itF_len]; omega)
        have HZ := Lib.hid AP.out.big
        have H := Lib.hid AP.out.heldC
        have OR := Lib.hid AP.out.row
        have FAR := Lib.hid (fun q hq => AP.out.far (q := q) hq)
        have NX := Lib.hid (itF_succ (fun i => txI (f i)) k)
        have CI := Lib.hid (fun W => specTxtItem (f k) W)
        go_wp2
        refine run_region (ops := (opsOf Try.f24 5)) (S := fun w' => HeldC w w' ([(w.heap.size, 27, #[.int .i64 0, .slice none 0 0, .slice none 0 0, .slice none 0 0, .slice none 0 0, .slice none 0 0, .int .i64 0, .int .i64 0]), (w.heap.size + 1, 27, #[.int .i64 3, .slice sa sn sc, .slice none 0 0, .slice none 0 0, .slice none 0 0, .slice none 0 0, .int .i64 0, .int .i64 0])])) [(0, true), (1, true), (2, true), (3, true), (4, true), (5, true), (6, false), (7, false), (8, false), (9, true), (10, false)] (by kernel_rfl) (by kernel_rfl) (by kernel_rfl) (by kernel_rfl) (by kernel_rfl) (fun _ _ _ _ _ h => h) (heldC_drew H.out) ?_
        have H := Lib.hid (heldC_drew H.out)
        have OR := Lib.hid (ownsRow_below OR.out (below_drew' (Below.refl _ _)))
        refine runC_partV (b := w.heap.size + 1) (by kernel_rfl) (show opAt (opsOf Try.f24 5) 0 = some (some 17, .fieldAddr 27 (.tmp 3) 1, none) from by kernel_rfl) (by kernel_rfl) (by kernel_rfl) (by kernel_rfl) ?_
        refine runC_cell (b := w.heap.size + 1) (j := 1) (v := .slice sa sn sc) load_its (show opAt (opsOf Try.f24 5) 1 = some (some 18, .load 23 (.tmp 17), none) from by kernel_rfl) (by kernel_rfl) (by kernel_rfl) (by kernel_rfl) (List.Mem.tail _ (List.Mem.head _)) rfl ?_
        refine run_mov (v := .slice (some ⟨b, off, none⟩) n cap) (show opAt (opsOf Try.f24 5) 2 = some (some 19, .move (.tmp 0), none) from by kernel_rfl) (by kernel_rfl) (by kernel_rfl) (by kernel_rfl) ?_
        refine run_mov (v := .int .i64 ((k : Int))) (show opAt (opsOf Try.f24 5) 3 = some (some 20, .move (.tmp 4), none) from by kernel_rfl) (by kernel_rfl) (by kernel_rfl) (by kernel_rfl) ?_
        refine run_idx1 (n := n) (c := cap) (b := b) (off := off) (k := k) (show opAt (opsOf Try.f24 5) 4 = some (some 21, .indexAddr 25 (.tmp 19) (.tmp 20), none) from by kernel_rfl) (by kernel_rfl) (by kernel_rfl) (by kernel_rfl) (by kernel_rfl) hlt Try.underlying25 (by kernel_rfl) infoStr ?_
        refine runC_old (b := b) (j := off + k) (v := .string (f k)) load_text (show opAt (opsOf Try.f24 5) 5 = some (some 22, .load 9 (.tmp 21), none) from by kernel_rfl) (by kernel_rfl) (by kernel_rfl) (by kernel_rfl) (Nat.lt_of_lt_of_le hbB hB) hc0 ?_
        refine run_call (args := [.string (f k)]) (show opAt (opsOf Try.f24 5) 6 = some (some 23, .call { callee := .value (.func 60), args := [(.tmp 22)].toArray, argTypes := [9].toArray }, none) from by kernel_rfl) (by kernel_rfl) (by kernel_rfl) (by kernel_rfl) (by kernel_rfl) ?_
        refine (CI.out _).mono ?_
        rintro en rw1 ⟨rfl, hb⟩
        refine ⟨_, rfl, heldC_call H.out hb, ?_⟩
        have H := Lib.hid (heldC_call H.out hb)
        have OR := Lib.hid (ownsRow_below OR.out hb)
        clear hb
        refine tail_item (txI (f k)) (show opAt (opsOf Try.f24 5) 7 = some (some 24, .buildSlice 23 1 #[(0, (.tmp 23))], none) from by kernel_rfl) (by kernel_rfl) (by kernel_rfl) (show opAt (opsOf Try.f24 5) 8 = some (some 25, .call { callee := .builtin .append, args := [(.tmp 18), (.tmp 24)].toArray, argTypes := [23, 23].toArray }, none) from by kernel_rfl) (by kernel_rfl) (fun _ => by kernel_rfl) (show opAt (opsOf Try.f24 5) 9 = some (some 26, .fieldAddr 27 (.tmp 3) 1, none) from by kernel_rfl) (by kernel_rfl) (by kernel_rfl) (fun _ _ => by kernel_rfl) (show opAt (opsOf Try.f24 5) 10 = some (none, .store 23 (.tmp 26) (.tmp 25), none) from by kernel_rfl) (by kernel_rfl) (by kernel_rfl) H.out OR.out LN.out (Nat.succ_le_of_lt (Array.getElem?_eq_some_iff.1 (heldC_at H.out (List.Mem.tail _ (List.Mem.head _)))).1) (Nat.le_add_right _ 2) (List.Mem.tail _ (List.Mem.head _)) rfl (Nat.lt_succ_self _) (Nat.le_succ _) (fun q hq => FAR.out q hq) ?_
        rintro v' w2 ⟨sa, sn, sc, rfl⟩ hK hO hB hZ hR
        simp only [putAll, Act.put, List.setIfInBounds_toArray, List.set_cons_zero, List.set_cons_succ]
        have AN := Lib.hid (AppL.next (kind := 3) hK hO hB hR)
        clear hK hO hB hR H OR FAR HZ LN
        go_wp2
        go_roundw
        case rel => exact ⟨k + 1, sa, sn, sc, by omega, by go_num, NX.out ▸ AN.out⟩
        case measure => simp [intOf]; omega
      · obtain rfl : k = n := by omega
        have K1 := Lib.hid AP.out.vec
        have K0 := Lib.hid AP.out.res
        have FN := Lib.hid AP.out.fin
        obtain ⟨k0, k1, k2, k3, k4, k5, k6, k7⟩ := vec8 K1.out
        obtain ⟨z0, z1, z2, z3, z4, z5, z6, z7⟩ := vec8 K0.out
        obtain ⟨f0, f1, f2, f3, f4, f5, f6, f7⟩ := free8 K0.out
        go_wp2_with fail
        with_reducible refine (IS.out _ _ _ _ AP.out).mono ?_
        rintro e w2 ⟨rfl, b⟩
        have A2 := Lib.hid (AP.out.keep b)
        clear b FN K1 K0 k0 k1 k2 k3 k4 k5 k6 k7 z0 z1 z2 z3 z4 z5 z6 z7 f0 f1 f2 f3 f4 f5 f6 f7
        have K1 := Lib.hid A2.out.vec
        have K0 := Lib.hid A2.out.res
        have FN := Lib.hid A2.out.fin
        have BB := Lib.hid A2.out.below
        obtain ⟨k0, k1, k2, k3, k4, k5, k6, k7⟩ := vec8 K1.out
        obtain ⟨z0, z1, z2, z3, z4, z5, z6, z7⟩ := vec8 K0.out
        obtain ⟨f0, f1, f2, f3, f4, f5, f6, f7⟩ := free8 K0.out
        by_cases hl : LongIn f k
        · rw [bB_no (fun h => ((valid_txt h40).1 h) hl)]
          have X := Lib.hid (textV_long hl)
          clear hl
          go_wp2
          rw [X.out]
          exact vec_end rfl rfl rfl K0.out ⟨_, rfl, Z.out _ _, put8_below BB.out (Nat.le_refl _)⟩
        · rw [bB_yes ((valid_txt h40).2 hl)]
          have X := Lib.hid (textV_yes h40 hl)
          clear hl
          go_wp2
          rw [X.out]
          exact vec_end rfl rfl rfl K0.out FN.out
  · rw [textV_big h40]
    have ST := Lib.hid (AppL.start w 3)
    have IS := Lib.hid (specIsVector 1 (vecOf 3 []) _ 0 _ _ ST.out.vat (Nat.le_refl _) (small_vecOf (Nat.zero_le _) (fun x hx => by cases hx)))
    rw [bB_yes valid_nil3] at IS
    clear hs hsz
    go_enter Try.func24, Try.ntmps24
    go_wp2
    refine wp_loop_rounds 1 ?_
    rw [rounds_succ]
    go_wp2_with fail
    with_reducible refine IS.out.mono ?_
    rintro e w2 ⟨rfl, b⟩
    have A2 := Lib.hid (ST.out.keep b)
    clear b
    have K0 := Lib.hid A2.out.res
    have BB := Lib.hid A2.out.below
    obtain ⟨z0, z1, z2, z3, z4, z5, z6, z7⟩ := vec8 K0.out
    obtain ⟨f0, f1, f2, f3, f4, f5, f6, f7⟩ := free8 K0.out
    go_wp2
    exact vec_end rfl rfl rfl K0.out ⟨_, rfl, Z.out _ _, put8_below BB.out (Nat.le_refl _)⟩
end Go.Proofs.Yteigfhenbmhepaa
