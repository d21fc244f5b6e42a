/- The laws' own comparison of two vectors: two copies of one vector are equal. -/
import Derived.Test.YtddebgmjolojeaaDoorRows
import Derived.Deep.OwnRows
import Derived.Test.YtddebgmjolojeaaDoorVecSz
import Derived.Test.YtddebgmjolojeaaDoorRegV
import Derived.Test.YtddebgmjolojeaaDoorMt1
import Derived.Test.YtddebgmjolojeaaDoorProg
import Derived.Test.YtddebgmjolojeaaDoorNumMake
import Derived.Test.YtddebgmjolojeaaDoorNumGcd
import Derived.Test.YtddebgmjolojeaaDoorVecIt
import Derived.Test.YtddebgmjolojeaaDoorNumMath
import Derived.Deep.RegionHeld3
import Derived.WalkKit
import Derived.Lib.Hide
import Derived.WalkSpells
import Derived.WalkLawsBesides
import Derived.Lib.SmallJoins
import Derived.ChangeSlices
import Derived.ProofKit
import Derived.BigQuiet
import Derived.Deep.QuietTactic
import Derived.OpenShut
import Derived.IntWalk
import Derived.Below
import Derived.OwnWalk
import Derived.Deep.DeepCutAuto
import Derived.Shelf.Strconv.Itoa0
import Derived.Shelf.Strconv.Itoa1
import Derived.Shelf.LaysM
import Derived.Shelf.Strconv.Itoa2
import Derived.Shelf.Strconv.Itoa3
import Derived.Shelf.Slices.Turned
import Derived.Shelf.Slices.Equal
import Derived.Shelf.Slices.Empties2
import Derived.Lib.AppendIntMem
import Derived.LaidMore
import Derived.Stop.LaidErr
import Derived.Lib.LaidTab
import Derived.Lib.ItoaNum
import Derived.MakeChecks
import Derived.KernelRfl
import Derived.WalkSmall
import Derived.RegionTactic
import Derived.Laws.ResultCell
import Derived.Deep.MidRow
import Derived.Maps.AppendAt
namespace Go.Proofs.YtddebgmjolojeaaDoor
open Go.RowKit
set_option maxRecDepth 100000
set_option linter.unusedVariables false

structure EqOk (d : Nat) : Prop where
  out : ∀ (v : Vec) (x y : Value) (lo hi lo' hi' : Nat) (w : World), VecAt lo hi w d v x → hi ≤ w.heap.size → VecAt lo' hi' w d v y → hi' ≤ w.heap.size → Fits d v →
    Calls Tryd.prog 9 #[x, y] w fun e w' => e = .returned (.bool true) ∧ Below w.heap.size w w'

set_option maxHeartbeats 2000000 in
theorem eqParts (d : Nat) (IH : EqOk d) (parts : List Vec) (a a' : Option Addr) (cap cap' : Nat) (lo hi lo' hi' : Nat) (w : World) (hs : VecsAt lo hi w d a parts) (hhi : hi ≤ w.heap.size) (hs' : VecsAt lo' hi' w d a' parts) (hhi' : hi' ≤ w.heap.size) (hf : ∀ i, i < parts.length → Fits d (parts.getD i noV)) (hn : parts.length ≤ 9223372036854775807) :
    Calls Tryd.prog 18 #[.slice a parts.length cap, .slice a' parts.length cap'] w fun e w' => e = .returned (.bool true) ∧ Below w.heap.size w w' := by
  have A := Lib.hid (fun (k : Nat) (w1 : World) (hk : k < parts.length) (hb : Below w.heap.size w w1) => (hs.below hb hhi).at_ hk)
  have A' := Lib.hid (fun (k : Nat) (w1 : World) (hk : k < parts.length) (hb : Below w.heap.size w w1) => (hs'.below hb hhi').at_ hk)
  have C := Lib.hid (fun (k : Nat) (w1 : World) (x y : Value) (hk : k < parts.length) (hb : Below w.heap.size w w1) (hv : VecAt lo hi w1 d (parts.getD k noV) x) (hv' : VecAt lo' hi' w1 d (parts.getD k noV) y) => IH.out _ x y lo hi lo' hi' w1 hv (Nat.le_trans hhi hb.size) hv' (Nat.le_trans hhi' hb.size) (hf k hk))
  clear hs hs' hf IH
  obtain ⟨n, hn'⟩ : ∃ n, parts.length = n := ⟨_, rfl⟩
  rw [hn'] at hn A A' C ⊢
  clear hn'
  go_enter Tryd.func18, Tryd.ntmps18
  go_wp2
  go_loopw [5] (fun i wr => ∃ k : Nat, k ≤ n ∧ i = .int .i64 k ∧ Below w.heap.size w wr) (fun i _ => n - (intOf i).toNat)
  case atStart => exact ⟨0, Nat.zero_le _, rfl, Below.refl _ _⟩
  case round =>
    obtain ⟨k, hk, rfl, hb⟩ := hrel
    have BB := Lib.hid hb
    clear hb
    by_cases hlt : k < n
    · obtain ⟨b, off, u0, u1, u2, u3, u4, u5, u6, u7, rfl, hbB, hv, c0, c1, c2, c3, c4, c5, c6, c7⟩ := A.out _ _ hlt BB.out
      obtain ⟨b', off', x0, x1, x2, x3, x4, x5, x6, x7, rfl, hbB', hv', d0, d1, d2, d3, d4, d5, d6, d7⟩ := A'.out _ _ hlt BB.out
      have HV := Lib.hid hv
      have HV' := Lib.hid hv'
      clear hv hv'
      have hlt' : (k : Int) < (n : Int) := by omega
      have HQ := Lib.hid (fun (w' : World) (hb : Below wr.heap.size wr w') => (⟨hb, bcl hb c0, bcl hb c1, bcl hb c2, bcl hb c3, bcl hb c4, bcl hb c5, bcl hb c6, bcl hb c7, bcl hb d0, bcl hb d1, bcl hb d2, bcl hb d3, bcl hb d4, bcl hb d5, bcl hb d6, bcl hb d7⟩ : (Below wr.heap.size wr w' ∧ w'.cell? ⟨b, off + k * 8, none⟩ = some u0 ∧ w'.cell? ⟨b, off + k * 8 + 1, none⟩ = some u1 ∧ w'.cell? ⟨b, off + k * 8 + 2, none⟩ = some u2 ∧ w'.cell? ⟨b, off + k * 8 + 3, none⟩ = some u3 ∧ w'.cell? ⟨b, off + k * 8 + 4, none⟩ = some u4 ∧ w'.cell? ⟨b, off + k * 8 + 5, none⟩ = some u5 ∧ w'.cell? ⟨b, off + k * 8 + 6, none⟩ = some u6 ∧ w'.cell? ⟨b, off + k * 8 + 7, none⟩ = some u7 ∧ w'.cell? ⟨b', off' + k * 8, none⟩ = some x0 ∧ w'.cell? ⟨b', off' + k * 8 + 1, none⟩ = some x1 ∧ w'.cell? ⟨b', off' + k * 8 + 2, none⟩ = some x2 ∧ w'.cell? ⟨b', off' + k * 8 + 3, none⟩ = some x3 ∧ w'.cell? ⟨b', off' + k * 8 + 4, none⟩ = some x4 ∧ w'.cell? ⟨b', off' + k * 8 + 5, none⟩ = some x5 ∧ w'.cell? ⟨b', off' + k * 8 + 6, none⟩ = some x6 ∧ w'.cell? ⟨b', off' + k * 8 + 7, none⟩ = some x7)))
      have CS := Lib.hid (fun (w' : World) (hb : Below wr.heap.size wr w') => C.out k w' _ _ hlt (below_then BB.out hb) (HV.out.kept (Kept.of_below hb (Nat.le_trans hhi BB.out.size))) (HV'.out.kept (Kept.of_below hb (Nat.le_trans hhi' BB.out.size))))
      clear c0 c1 c2 c3 c4 c5 c6 c7 d0 d1 d2 d3 d4 d5 d6 d7
      go_wp2
      go_region_held3 (fun w' => Below wr.heap.size wr w' ∧ w'.cell? ⟨b, off + k * 8, none⟩ = some u0 ∧ w'.cell? ⟨b, off + k * 8 + 1, none⟩ = some u1 ∧ w'.cell? ⟨b, off + k * 8 + 2, none⟩ = some u2 ∧ w'.cell? ⟨b, off + k * 8 + 3, none⟩ = some u3 ∧ w'.cell? ⟨b, off + k * 8 + 4, none⟩ = some u4 ∧ w'.cell? ⟨b, off + k * 8 + 5, none⟩ = some u5 ∧ w'.cell? ⟨b, off + k * 8 + 6, none⟩ = some u6 ∧ w'.cell? ⟨b, off + k * 8 + 7, none⟩ = some u7 ∧ w'.cell? ⟨b', off' + k * 8, none⟩ = some x0 ∧ w'.cell? ⟨b', off' + k * 8 + 1, none⟩ = some x1 ∧ w'.cell? ⟨b', off' + k * 8 + 2, none⟩ = some x2 ∧ w'.cell? ⟨b', off' + k * 8 + 3, none⟩ = some x3 ∧ w'.cell? ⟨b', off' + k * 8 + 4, none⟩ = some x4 ∧ w'.cell? ⟨b', off' + k * 8 + 5, none⟩ = some x5 ∧ w'.cell? ⟨b', off' + k * 8 + 6, none⟩ = some x6 ∧ w'.cell? ⟨b', off' + k * 8 + 7, none⟩ = some x7) (first | exact HQ.out _ (below_drew' (Below.refl _ _)) | exact HQ.out _ (below_then (And.left (by assumption)) (by assumption))) (first | (go_at_call 9; refine (CS.out _ (And.left (by assumption))).mono ?_; rintro e w1 ⟨rfl, b1⟩))
      have B1 := Lib.hid (below_then BB.out (And.left ‹Below wr.heap.size wr _ ∧ _›))
      go_wp2
      go_roundw
      case rel => exact ⟨k + 1, by omega, by go_num, B1.out⟩
      case measure => simp [intOf]; omega
    · obtain rfl : k = n := by omega
      go_wp2
      go_ret
      exact ⟨rfl, BB.out⟩

set_option maxHeartbeats 4000000 in
theorem eqStep (d : Nat) (IH : EqOk d) : EqOk (d + 1) := by
  refine ⟨fun v x y lo hi lo' hi' w hv hhi hv' hhi' hf => ?_⟩
  obtain ⟨kk, items, parts, names, cls, levels, code, env⟩ := v
  obtain ⟨d', ai, ci, ap, cp, an, cn, ac, cc, al, cl, ed, rfl, hI, hN, hC, hL, hP⟩ := vecAt_open hv
  obtain rfl : d = d' := by omega
  obtain ⟨d', ai', ci', ap', cp', an', cn', ac', cc', al', cl', ed', rfl, hI', hN', hC', hL', hP'⟩ := vecAt_open hv'
  obtain rfl : d = d' := by omega
  have hfp := fun {i : Nat} (hi : i < parts.length) => hf.part hi
  obtain ⟨_, _, _, li, lp, ln, lc, ll, bi, bn, bc, bl, _⟩ := hf
  unfold maxLen at li lp ln lc ll bi bn bc bl
  have CI := Lib.hid (fun (w1 : World) (hb : Below w.heap.size w w1) => eqItems items ai ai' ci ci' lo hi lo' hi' w1 (hI.below hb hhi) (Nat.le_trans hhi hb.size) (hI'.below hb hhi') (Nat.le_trans hhi' hb.size) (by omega))
  have CP := Lib.hid (fun (w1 : World) (hb : Below w.heap.size w w1) => eqParts d IH parts ap ap' cp cp' lo hi lo' hi' w1 (hP.below hb hhi) (Nat.le_trans hhi hb.size) (hP'.below hb hhi') (Nat.le_trans hhi' hb.size) (fun i hi => hfp hi) (by omega))
  have TS : ∀ (l : List ByteArray) (a a' : Option Addr) (cap cap' : Nat), TextsAt lo hi w a l → TextsAt lo' hi' w a' l → l.length ≤ 2 ^ 63 - 1 → ∀ (w1 : World), Below w.heap.size w w1 →
      Calls Tryd.prog 19 #[.slice a l.length cap, .slice a' l.length cap'] w1 fun e w' => e = .returned (.bool true) ∧ Below w1.heap.size w1 w' := by
    intro l a a' cap cap' ht ht' hlen w1 hb
    refine (eqStrs a a' l.length cap cap' (txtS l) (txtS l) (max hi hi') w1 ((ht.below hb hhi).strs.mono (Nat.le_max_left _ _)) ((ht'.below hb hhi').strs.mono (Nat.le_max_right _ _)) (by omega) (fun _ _ => rfl)).mono ?_
    rintro e w' ⟨rfl, m, rfl⟩
    exact ⟨rfl, below_drewN' (Below.refl _ _) m⟩
  have CN := Lib.hid (TS names an an' cn cn' hN hN' ln)
  have CC := Lib.hid (TS cls ac ac' cc cc' hC hC' lc)
  have CL := Lib.hid (TS levels al al' cl cl' hL hL' ll)
  clear hv hv' hI hN hC hL hP hI' hN' hC' hL' hP' hfp TS ed ed' li lp ln lc ll bi bn bc bl IH
  go_enter Tryd.func9, Tryd.ntmps9
  go_wp2_with fail
  refine (CI.out _ (below2 w _ _)).mono ?_
  rintro e w1 ⟨rfl, b1⟩
  have B1 := Lib.hid (below_then (below2 w _ _) b1)
  have KA1 := Lib.hid (blk_below b1 (blk_old (blk_new w _ rfl)))
  have KB1 := Lib.hid (blk_below b1 (blk_new _ _ (show w.heap.size + 1 = _ by simp)))
  clear b1
  obtain ⟨k0, k1, k2, k3, k4, k5, k6, k7⟩ := vec8 KA1.out
  obtain ⟨l0, l1, l2, l3, l4, l5, l6, l7⟩ := vec8 KB1.out
  go_wp2_with fail
  refine (CP.out _ B1.out).mono ?_
  rintro e w2 ⟨rfl, b1⟩
  have B2 := Lib.hid (below_then B1.out b1)
  have KA2 := Lib.hid (blk_below b1 KA1.out)
  have KB2 := Lib.hid (blk_below b1 KB1.out)
  clear b1 k0 k1 k2 k3 k4 k5 k6 k7 l0 l1 l2 l3 l4 l5 l6 l7
  obtain ⟨k0, k1, k2, k3, k4, k5, k6, k7⟩ := vec8 KA2.out
  obtain ⟨l0, l1, l2, l3, l4, l5, l6, l7⟩ := vec8 KB2.out
  go_wp2_with fail
  refine (CN.out _ B2.out).mono ?_
  rintro e w3 ⟨rfl, b1⟩
  have B3 := Lib.hid (below_then B2.out b1)
  have KA3 := Lib.hid (blk_below b1 KA2.out)
  have KB3 := Lib.hid (blk_below b1 KB2.out)
  clear b1 k0 k1 k2 k3 k4 k5 k6 k7 l0 l1 l2 l3 l4 l5 l6 l7
  obtain ⟨k0, k1, k2, k3, k4, k5, k6, k7⟩ := vec8 KA3.out
  obtain ⟨l0, l1, l2, l3, l4, l5, l6, l7⟩ := vec8 KB3.out
  go_wp2_with fail
  refine (CC.out _ B3.out).mono ?_
  rintro e w4 ⟨rfl, b1⟩
  have B4 := Lib.hid (below_then B3.out b1)
  have KA4 := Lib.hid (blk_below b1 KA3.out)
  have KB4 := Lib.hid (blk_below b1 KB3.out)
  clear b1 k0 k1 k2 k3 k4 k5 k6 k7 l0 l1 l2 l3 l4 l5 l6 l7
  obtain ⟨k0, k1, k2, k3, k4, k5, k6, k7⟩ := vec8 KA4.out
  obtain ⟨l0, l1, l2, l3, l4, l5, l6, l7⟩ := vec8 KB4.out
  go_wp2_with fail
  refine (CL.out _ B4.out).mono ?_
  rintro e w5 ⟨rfl, b1⟩
  have B5 := Lib.hid (below_then B4.out b1)
  have KA5 := Lib.hid (blk_below b1 KA4.out)
  have KB5 := Lib.hid (blk_below b1 KB4.out)
  clear b1 k0 k1 k2 k3 k4 k5 k6 k7 l0 l1 l2 l3 l4 l5 l6 l7
  obtain ⟨k0, k1, k2, k3, k4, k5, k6, k7⟩ := vec8 KA5.out
  obtain ⟨l0, l1, l2, l3, l4, l5, l6, l7⟩ := vec8 KB5.out
  go_wp2
  go_ret
  exact ⟨rfl, B5.out⟩
theorem eqZero : EqOk 0 := ⟨fun _ _ _ _ _ _ _ _ h => h.elim⟩
theorem eqAll : ∀ d, EqOk d
  | 0 => eqZero
  | d + 1 => eqStep d (eqAll d)
end Go.Proofs.YtddebgmjolojeaaDoor

/- Vectors of the laws' own type in a region that draws its order; a new block filled with a vector. -/
namespace Go.Proofs.YtddebgmjolojeaaDoor
set_option maxRecDepth 100000
open Go.RowKit
set_option linter.unusedVariables false

theorem infoLVec : (Tryd.prog.info? 26).map (·.size) = some 8 := by kernel_rfl
theorem load_lvec {w' : World} {b : Nat} {c0 c1 c2 c3 c4 c5 c6 c7 : Value} {t : TypeId} (h : w'.heap[b]? = some (.cells #[c0, c1, c2, c3, c4, c5, c6, c7] t (0, 0))) :
    (Instr.loadAt 26 (.pointer (some ⟨b, 0, none⟩))).run Tryd.prog w' = .ok (.agg #[c0, c1, c2, c3, c4, c5, c6, c7]) w' :=
  run_loadVar_row w' b t 26 #[c0, c1, c2, c3, c4, c5, c6, c7] (0, 0) _ h Tryd.underlying26 rfl infoLVec
section
variable {ops : Array Oper} {Q : Exit → Act → World → Prop} {w0 : World} {L : List (Nat × TypeId × Array Value)}
variable {r : List (Nat × Bool)} {a : Act} {e : List (Nat × Value)} {w : World} {i d : Nat} {g : Option (Nat × Bool)} {v : Value}
theorem runC_lvec {x : Operand} {tt : TypeId} {b : Nat} {c0 c1 c2 c3 c4 c5 c6 c7 : Value} (ho : opAt ops i = some (some d, .load 26 x, g)) (hd : Nat.blt d a.tmps.size = true) (hw : wantE ops a e g = some true)
    (hx : lookO a e x = .pointer (some ⟨b, 0, none⟩)) (m : (b, tt, #[c0, c1, c2, c3, c4, c5, c6, c7]) ∈ L) (h : RunE Tryd.prog ops Q (fun w' => HeldC w0 w' L) r a ((d, .agg #[c0, c1, c2, c3, c4, c5, c6, c7]) :: e) w) : RunE Tryd.prog ops Q (fun w' => HeldC w0 w' L) ((i, true) :: r) a e w :=
  run_load ho hd hw hx (fun w' hS => load_lvec (heldC_at hS m)) h
end
/-- A new block that was filled with the eight fields of a vector. -/
theorem put_new (w : World) (z0 z1 z2 z3 z4 z5 z6 z7 c0 c1 c2 c3 c4 c5 c6 c7 : Value) (t : TypeId) :
    ∃ W, ((((((((w.alloc (.cells #[z0, z1, z2, z3, z4, z5, z6, z7] t)).setCell ⟨w.heap.size, 0, none⟩ c0).setCell ⟨w.heap.size, 1, none⟩ c1).setCell ⟨w.heap.size, 2, none⟩ c2).setCell ⟨w.heap.size, 3, none⟩ c3).setCell ⟨w.heap.size, 4, none⟩ c4).setCell ⟨w.heap.size, 5, none⟩ c5).setCell ⟨w.heap.size, 6, none⟩ c6).setCell ⟨w.heap.size, 7, none⟩ c7 = W ∧
      W.heap[w.heap.size]? = some (.cells #[c0, c1, c2, c3, c4, c5, c6, c7] t (0, 0)) ∧ Below w.heap.size w W := by
  refine ⟨_, rfl, ?_, ?_⟩
  · have h : (w.alloc (.cells #[z0, z1, z2, z3, z4, z5, z6, z7] t)).heap[w.heap.size]? = some (.cells #[z0, z1, z2, z3, z4, z5, z6, z7] t (0, 0)) := blk_new w _ rfl
    exact put8_lit h
  · have hB : w.heap.size ≤ w.heap.size := Nat.le_refl _
    exact (Below.setCell (Below.setCell (Below.setCell (Below.setCell (Below.setCell (Below.setCell (Below.setCell (Below.setCell (below1 w _) (p := ⟨w.heap.size, 0, none⟩) hB c0) (p := ⟨w.heap.size, 1, none⟩) hB c1) (p := ⟨w.heap.size, 2, none⟩) hB c2) (p := ⟨w.heap.size, 3, none⟩) hB c3) (p := ⟨w.heap.size, 4, none⟩) hB c4) (p := ⟨w.heap.size, 5, none⟩) hB c5) (p := ⟨w.heap.size, 6, none⟩) hB c6) (p := ⟨w.heap.size, 7, none⟩) hB c7)
end Go.Proofs.YtddebgmjolojeaaDoor

/- Results that are vectors, in blocks of a range of their own; what a mark leaves alone. -/
namespace Go.Proofs.YtddebgmjolojeaaDoor
open Go.RowKit
set_option maxRecDepth 100000
set_option linter.unusedVariables false

/-- The value is the vector V; each of its slices lies in a block of its own from lo to hi. -/
structure Own (d : Nat) (V : Vec) (y : Value) (lo hi : Nat) (w : World) : Prop where
  out : ∃ F, OwnVec w d V y F ∧ F.Nodup ∧ ∀ b ∈ F, lo ≤ b ∧ b < hi
/-- Nothing but blocks from lo to hi has changed. -/
structure Within (lo hi : Nat) (w w' : World) : Prop where
  os : w'.os = w.os
  tape : w'.tape = w.tape
  output : w'.output = w.output
  size : w.heap.size ≤ w'.heap.size
  block : ∀ b, b < w.heap.size → (b < lo ∨ hi ≤ b) → w'.heap[b]? = w.heap[b]?
theorem Touch.within {F : List Nat} {lo hi : Nat} {w w' : World} (h : Touch F w w') (hF : ∀ b ∈ F, lo ≤ b ∧ b < hi) : Within lo hi w w' :=
  ⟨h.os, h.tape, h.output, h.size, fun b hb hr => h.block b hb (fun hm => by have := hF b hm; omega)⟩
theorem Within.below {lo hi B : Nat} {w w' : World} (h : Within lo hi w w') (hB : B ≤ lo) (hw : B ≤ w.heap.size) : Below B w w' :=
  ⟨h.os, h.tape, h.output, h.size, fun b hb => h.block b (by omega) (.inl (by omega))⟩
theorem Within.blk {lo hi b : Nat} {w w' : World} {o : Obj} (h : Within lo hi w w') (hr : b < lo ∨ hi ≤ b) (hb : w.heap[b]? = some o) : w'.heap[b]? = some o :=
  (h.block b (Array.getElem?_eq_some_iff.1 hb).1 hr).trans hb
theorem Own.below {d : Nat} {V : Vec} {y : Value} {lo hi : Nat} {w w' : World} (h : Own d V y lo hi w) (hb : Below w.heap.size w w') (hh : hi ≤ w.heap.size) : Own d V y lo hi w' := by
  obtain ⟨F, h1, h2, h3⟩ := h.out
  exact ⟨F, h1.kept _ _ _ _ (fun b hm => hb.block b (by have := h3 b hm; omega)), h2, h3⟩
theorem Own.within {d : Nat} {V : Vec} {y : Value} {lo hi lo' hi' : Nat} {w w' : World} (h : Own d V y lo hi w) (k : Within lo' hi' w w') (hr : hi ≤ lo' ∨ hi' ≤ lo) (hh : hi ≤ w.heap.size) : Own d V y lo hi w' := by
  obtain ⟨F, h1, h2, h3⟩ := h.out
  exact ⟨F, h1.kept _ _ _ _ (fun b hm => k.block b (by have := h3 b hm; omega) (by have := h3 b hm; omega)), h2, h3⟩
theorem Own.vat {d : Nat} {V : Vec} {y : Value} {lo hi : Nat} {w : World} (h : Own d V y lo hi w) {H : Nat} (hh : hi ≤ H) : VecAt 0 H w d V y := by
  obtain ⟨F, h1, _, h3⟩ := h.out
  exact h1.vecAt _ _ _ _ (fun b hm => by have := h3 b hm; omega)
theorem Own.wide {d : Nat} {V : Vec} {y : Value} {lo hi lo' hi' : Nat} {w : World} (h : Own d V y lo hi w) (h0 : lo' ≤ lo) (h1 : hi ≤ hi') : Own d V y lo' hi' w := by
  obtain ⟨F, a, b, c⟩ := h.out
  exact ⟨F, a, b, fun g hg => by have := c g hg; omega⟩
theorem Own.agg {d : Nat} {V : Vec} {y : Value} {lo hi : Nat} {w : World} (h : Own d V y lo hi w) : ∃ (k : Int) (a1 : Option Addr) (n1 m1 : Nat) (a2 : Option Addr) (n2 m2 : Nat) (a3 : Option Addr) (n3 m3 : Nat) (a4 : Option Addr) (n4 m4 : Nat) (a5 : Option Addr) (n5 m5 : Nat) (code env : Int), y = .agg #[.int .i64 k, .slice a1 n1 m1, .slice a2 n2 m2, .slice a3 n3 m3, .slice a4 n4 m4, .slice a5 n5 m5, .int .i64 code, .int .i64 env] := by
  obtain ⟨F, h1, _⟩ := h.out
  exact h1.agg
/-- A function's answer: a vector in new blocks. -/
def ResV (d : Nat) (V : Vec) (w : World) (e : Ending) (w' : World) : Prop := ∃ y, e = .returned y ∧ Own d V y w.heap.size w'.heap.size w' ∧ Below w.heap.size w w'
/-- A function's answer: a vector in new blocks, and a text. -/
def ResVS (d : Nat) (V : Vec) (s : ByteArray) (w : World) (e : Ending) (w' : World) : Prop := ∃ y, e = .returned (.tuple #[y, .string s]) ∧ Own d V y w.heap.size w'.heap.size w' ∧ Below w.heap.size w w'
/-- The mark of a vector of one's own. -/
theorem markOwn (d : Nat) (V : Vec) (y : Value) (lo hi : Nat) (w : World) (h : Own d V y lo hi w) (hh : hi ≤ w.heap.size) (hs : Small d V) (hc : 1 + cntM d V ≤ 8000000) :
    Calls Tryd.prog 10 #[y, .int .i64 1] w fun e w' => e = .returned (.int .i64 ((1 + cntM d V : Nat) : Int)) ∧ Own d (markV d 1 V) y lo hi w' ∧ Within lo hi w w' := by
  obtain ⟨F, h1, h2, h3⟩ := h.out
  refine (markVec d V y 1 F w h1 h2 (fun b hb => by have := h3 b hb; omega) hs (Nat.le_refl _) hc).mono ?_
  rintro e w' ⟨rfl, ho, t⟩
  exact ⟨rfl, ⟨F, ho, h2, h3⟩, t.within h3⟩
theorem heldOwn (d : Nat) (V : Vec) (y : Value) (lo hi : Nat) (w : World) (h : Own d (markV d 1 V) y lo hi w) (hh : hi ≤ w.heap.size) (hs : Small d V) (hc : 1 + cntM d V ≤ 8000000) :
    Calls Tryd.prog 11 #[y, .int .i64 1] w fun e w' => e = .returned (.int .i64 ((1 + cntM d V : Nat) : Int)) ∧ Below w.heap.size w w' :=
  heldVec d V y 1 0 w.heap.size w (h.vat hh) (Nat.le_refl _) hs (Nat.le_refl _) hc
end Go.Proofs.YtddebgmjolojeaaDoor

/- Slices of ints in memory, and the laws' own helpers on them. -/
namespace Go.Proofs.YtddebgmjolojeaaDoor
set_option maxRecDepth 100000
open Go.RowKit

/-- The slice at a holds the n ints f 0, f 1, .., in a block below B. -/
def IntsAt (B : Nat) (w : World) (a : Option Addr) (n : Nat) (f : Nat → Int) : Prop := ∀ i, i < n → ∃ b off, a = some ⟨b, off, none⟩ ∧ b < B ∧ w.cell? ⟨b, off + i, none⟩ = some (.int .i64 (f i))
theorem IntsAt.below {B : Nat} {w w1 : World} {a : Option Addr} {n : Nat} {f : Nat → Int} (h : IntsAt B w a n f) (hb : Below B w w1) : IntsAt B w1 a n f := by
  intro i hi
  obtain ⟨b, off, e, hlt, hc⟩ := h i hi
  exact ⟨b, off, e, hlt, by rw [hb.cell hlt]; exact hc⟩
theorem IntsAt.mono {B B' : Nat} {w : World} {a : Option Addr} {n : Nat} {f : Nat → Int} (h : IntsAt B w a n f) (hB : B ≤ B') : IntsAt B' w a n f := by
  intro i hi
  obtain ⟨b, off, e, hlt, hc⟩ := h i hi
  exact ⟨b, off, e, by omega, hc⟩
/-- Block b holds the cells C. -/
def RowI (w : World) (b : Nat) (C : Array Value) : Prop := w.heap[b]? = some (.cells C 3 (0, 0))
theorem RowI.cell {w : World} {b i : Nat} {C : Array Value} {v : Value} (h : RowI w b C) (hv : C[i]? = some v) : w.cell? ⟨b, i, none⟩ = some v := by
  unfold RowI at h; unfold World.cell?; simp only [h]; exact hv
theorem RowI.free {w : World} {b i : Nat} {C : Array Value} (h : RowI w b C) : w.frozen? ⟨b, i, none⟩ = false := by
  unfold RowI at h; unfold World.frozen?; simp only [h]; simp
theorem RowI.set {w : World} {b i : Nat} {C : Array Value} (h : RowI w b C) (v : Value) : RowI (w.setCell ⟨b, i, none⟩ v) b (C.setIfInBounds i v) := Joins.block_setCell h v
theorem RowI.lt {w : World} {b : Nat} {C : Array Value} (h : RowI w b C) : b < w.heap.size := (Array.getElem?_eq_some_iff.1 h).1
/-- A row of n cells whose first k are the ints of f. -/
def FilledI (w : World) (b n k : Nat) (f : Nat → Int) : Prop := ∃ C, RowI w b C ∧ C.size = n ∧ ∀ i, i < k → C[i]? = some (.int .i64 (f i))
theorem FilledI.step {w : World} {b n k : Nat} {f : Nat → Int} (h : FilledI w b n k f) (hk : k < n) : FilledI (w.setCell ⟨b, k, none⟩ (.int .i64 (f k))) b n (k + 1) f := by
  obtain ⟨C, hC, hn, hf⟩ := h
  refine ⟨C.setIfInBounds k (.int .i64 (f k)), hC.set _, by simpa using hn, fun i hi => ?_⟩
  by_cases e : i = k
  · subst e; simp [hn, hk]
  · rw [Array.getElem?_setIfInBounds_ne (by omega)]; exact hf i (by omega)
theorem FilledI.ints {w : World} {b n : Nat} {f : Nat → Int} (h : FilledI w b n n f) : IntsAt w.heap.size w (some ⟨b, 0, none⟩) n f := by
  obtain ⟨C, hC, _, hf⟩ := h
  intro i hi
  exact ⟨b, 0, rfl, hC.lt, by rw [Nat.zero_add]; exact hC.cell (hf i hi)⟩
theorem infoInt : (Tryd.prog.info? 3).map (fun i => (i.zero, i.size, i.bytes)) = some (some (.int .i64 0), 1, 8) := by kernel_rfl
theorem madeI_size (z : Array Value) (n : Nat) (hz : z.size = 1) : (madeCells z n).size = n := by
  unfold madeCells; simp [hz]
theorem madeRowI (w : World) (n : Nat) (f : Nat → Int) : FilledI (w.alloc (.cells (madeCells #[.int .i64 0] n) 3)) w.heap.size n 0 f :=
  ⟨_, (MapKept.heap_alloc w _).1, madeI_size _ n rfl, fun _ hi => absurd hi (Nat.not_lt_zero _)⟩
theorem cellI_lt {w : World} {p : Addr} {v : Value} (h : w.cell? p = some v) : p.block < w.heap.size := by
  unfold World.cell? at h
  rcases Nat.lt_or_ge p.block w.heap.size with h' | h'
  · exact h'
  · rw [Array.getElem?_eq_none h'] at h; cases h
theorem cellsIntOf : Tryd.prog.cellsOf 3 = 1 := by kernel_rfl
end Go.Proofs.YtddebgmjolojeaaDoor

/- Slices of ints and of texts that a law makes of its arguments; the laws' own helpers on them, said by ranges of blocks. -/
namespace Go.Proofs.YtddebgmjolojeaaDoor
open Go.RowKit
set_option maxRecDepth 100000
set_option linter.unusedVariables false

/-- The slice at a holds n ints f in a block of its own from lo to hi. -/
structure OwnI (a : Option Addr) (n : Nat) (f : Nat → Int) (lo hi : Nat) (w : World) : Prop where
  out : ∃ b C, a = some ⟨b, 0, none⟩ ∧ lo ≤ b ∧ b < hi ∧ w.heap[b]? = some (.cells C 3 (0, 0)) ∧ n ≤ C.size ∧ ∀ i, i < n → C[i]? = some (.int .i64 (f i))
theorem OwnI.below {a : Option Addr} {n : Nat} {f : Nat → Int} {lo hi : Nat} {w w' : World} (h : OwnI a n f lo hi w) (hb : Below w.heap.size w w') (hh : hi ≤ w.heap.size) : OwnI a n f lo hi w' := by
  obtain ⟨b, C, e, h0, h1, h2, r⟩ := h.out
  exact ⟨b, C, e, h0, h1, blk_below hb h2, r⟩
theorem OwnI.within {a : Option Addr} {n : Nat} {f : Nat → Int} {lo hi lo' hi' : Nat} {w w' : World} (h : OwnI a n f lo hi w) (k : Within lo' hi' w w') (hr : hi ≤ lo' ∨ hi' ≤ lo) (hh : hi ≤ w.heap.size) : OwnI a n f lo hi w' := by
  obtain ⟨b, C, e, h0, h1, h2, r⟩ := h.out
  exact ⟨b, C, e, h0, h1, k.blk (by omega) h2, r⟩
theorem OwnI.at_ {a : Option Addr} {n : Nat} {f : Nat → Int} {lo hi : Nat} {w : World} (h : OwnI a n f lo hi w) {H : Nat} (hh : hi ≤ H) : IntsAt H w a n f := by
  obtain ⟨b, C, e, h0, h1, h2, _, r⟩ := h.out
  intro i hi'
  exact ⟨b, 0, e, by omega, by rw [Nat.zero_add]; exact cellOf h2 (r i hi')⟩
/-- The slice at a holds the n texts f in a block of its own from lo to hi. -/
structure OwnS (a : Option Addr) (n : Nat) (f : Nat → ByteArray) (lo hi : Nat) (w : World) : Prop where
  out : ∃ b C, a = some ⟨b, 0, none⟩ ∧ lo ≤ b ∧ b < hi ∧ w.heap[b]? = some (.cells C 9 (0, 0)) ∧ n ≤ C.size ∧ ∀ i, i < n → C[i]? = some (.string (f i))
theorem OwnS.below {a : Option Addr} {n : Nat} {f : Nat → ByteArray} {lo hi : Nat} {w w' : World} (h : OwnS a n f lo hi w) (hb : Below w.heap.size w w') (hh : hi ≤ w.heap.size) : OwnS a n f lo hi w' := by
  obtain ⟨b, C, e, h0, h1, h2, r⟩ := h.out
  exact ⟨b, C, e, h0, h1, blk_below hb h2, r⟩
theorem OwnS.within {a : Option Addr} {n : Nat} {f : Nat → ByteArray} {lo hi lo' hi' : Nat} {w w' : World} (h : OwnS a n f lo hi w) (k : Within lo' hi' w w') (hr : hi ≤ lo' ∨ hi' ≤ lo) (hh : hi ≤ w.heap.size) : OwnS a n f lo hi w' := by
  obtain ⟨b, C, e, h0, h1, h2, r⟩ := h.out
  exact ⟨b, C, e, h0, h1, k.blk (by omega) h2, r⟩
theorem OwnS.at_ {a : Option Addr} {n : Nat} {f : Nat → ByteArray} {lo hi : Nat} {w : World} (h : OwnS a n f lo hi w) {H : Nat} (hh : hi ≤ H) : StrsAt H w a n f := by
  obtain ⟨b, C, e, h0, h1, h2, _, r⟩ := h.out
  intro i hi'
  exact ⟨b, 0, e, by omega, by rw [Nat.zero_add]; exact cellOf h2 (r i hi')⟩
theorem toStrsR (a : Option Addr) (n cap : Nat) (f : Nat → ByteArray) (B : Nat) (w : World) (hs : StrsAt B w a n f) (hB : B ≤ w.heap.size) (hn : n ≤ 1048576) :
    Calls Tryd.prog 16 #[.slice a n cap] w fun e w' => ∃ x, e = .returned (.slice x n n) ∧ OwnS x n f w.heap.size w'.heap.size w' ∧ Below w.heap.size w w' := by
  refine (toStrs a n cap f w (hs.mono hB) hn).mono ?_
  rintro e w' ⟨rfl, ⟨C, hC, hn', r⟩, hb⟩
  exact ⟨_, rfl, ⟨_, C, rfl, Nat.le_refl _, hC.lt, hC, by omega, r⟩, hb⟩
theorem eqStrsR (a b : Option Addr) (n ca cb : Nat) (f : Nat → ByteArray) (B : Nat) (w : World) (ha : StrsAt B w a n f) (hb : StrsAt B w b n f) (hn : n ≤ 1048576) :
    Calls Tryd.prog 19 #[.slice a n ca, .slice b n cb] w fun e w' => e = .returned (.bool true) ∧ Below w.heap.size w w' := by
  refine (eqStrs a b n ca cb f f B w ha hb (by omega) (fun _ _ => rfl)).mono ?_
  rintro e w' ⟨rfl, m, rfl⟩
  exact ⟨rfl, below_drewN' (Below.refl _ _) m⟩
theorem markStrsR (a : Option Addr) (n c k : Nat) (f : Nat → ByteArray) (lo hi : Nat) (w : World) (h : OwnS a n f lo hi w) (hn : n ≤ 1048576) (h1 : 1 ≤ k) (hk : k + n ≤ 9000000) :
    Calls Tryd.prog 21 #[.slice a n c, .int .i64 k] w fun e w' => e = .returned (.int .i64 ((k : Int) + (n : Int))) ∧ Within lo hi w w' := by
  obtain ⟨b, C, rfl, h0, hb1, hC, hnC, r⟩ := h.out
  have hl : ((List.range n).map f).length = n := by simp
  have ho : OwnTxs w (some ⟨b, 0, none⟩) ((List.range n).map f) [b] := by
    refine .inr ⟨b, C, rfl, rfl, hC, by rw [hl]; exact hnC, fun i hi => ?_⟩
    rw [hl] at hi
    rw [r i hi]; unfold txtS; simp [List.getD_eq_getElem?_getD, hi]
  have hm := markTxs ((List.range n).map f) (some ⟨b, 0, none⟩) c k [b] w ho (by omega) h1 (by omega)
  rw [hl] at hm
  refine hm.mono ?_
  rintro e w' ⟨rfl, _, t⟩
  exact ⟨rfl, t.within (fun g hg => by obtain rfl := List.mem_singleton.1 hg; exact ⟨h0, hb1⟩)⟩
end Go.Proofs.YtddebgmjolojeaaDoor

/- Three-valued logic on ints: the program's and the reference's functions. -/
namespace Go.Proofs.YtddebgmjolojeaaDoor
set_option maxRecDepth 100000
open Go.RowKit
set_option linter.unusedVariables false

/-- The three values: 0, 1 and missing. -/
def vL (x : Int) : Int := if x = 0 then 0 else if x = 1 then 1 else 2
def nL (x : Int) : Int := if x = 0 then 1 else if x = 1 then 0 else 2
def aL (x y : Int) : Int := if x = 0 ∨ y = 0 then 0 else if x = 1 ∧ y = 1 then 1 else 2
def oL (x y : Int) : Int := if x = 1 ∨ y = 1 then 1 else if x = 0 ∧ y = 0 then 0 else 2
def xL (x y : Int) : Int := if (x = 0 ∨ x = 1) ∧ (y = 0 ∨ y = 1) then (if x = y then 0 else 1) else 2
def L3 (x : Int) : Prop := x = 0 ∨ x = 1 ∨ x = 2
theorem vL_three (x : Int) : L3 (vL x) := by unfold vL L3; split <;> (try split) <;> omega
theorem nL_three (x : Int) : L3 (nL x) := by unfold nL L3; split <;> (try split) <;> omega
theorem aL_three (x y : Int) : L3 (aL x y) := by unfold aL L3; split <;> (try split) <;> omega
theorem oL_three (x y : Int) : L3 (oL x y) := by unfold oL L3; split <;> (try split) <;> omega
theorem xL_three (x y : Int) : L3 (xL x y) := by unfold xL L3; split <;> (try split) <;> omega
theorem L3.in {x : Int} (h : L3 x) : -9223372036854775808 ≤ x ∧ x ≤ 9223372036854775807 := by unfold L3 at h; omega
theorem vL_self {x : Int} (h : L3 x) : vL x = x := by rcases h with rfl | rfl | rfl <;> rfl
theorem nL_v (x : Int) : nL (vL x) = nL x := by unfold nL vL; repeat' split
                                                all_goals omega
theorem aL_v (x y : Int) : aL (vL x) (vL y) = aL x y := by unfold aL vL; repeat' split
                                                           all_goals omega
theorem aL_r (x y : Int) : aL x (vL y) = aL x y := by unfold aL vL; repeat' split
                                                      all_goals omega
theorem oL_v (x y : Int) : oL (vL x) (vL y) = oL x y := by unfold oL vL; repeat' split
                                                           all_goals omega
theorem oL_r (x y : Int) : oL x (vL y) = oL x y := by unfold oL vL; repeat' split
                                                      all_goals omega
theorem xL_v (x y : Int) : xL (vL x) (vL y) = xL x y := by unfold xL vL; repeat' split
                                                           all_goals omega
theorem oL_morgan (x y : Int) : nL (aL (nL x) (nL y)) = oL x y := by unfold nL aL oL; repeat' split
                                                                     all_goals omega
theorem aL_morgan (x y : Int) : nL (oL (nL x) (nL y)) = aL x y := by unfold nL aL oL; repeat' split
                                                                     all_goals omega
theorem xL_parts (x y : Int) : oL (aL x (nL y)) (aL (nL x) y) = xL x y := by unfold nL aL oL xL; repeat' split
                                                                             all_goals omega
theorem oL_comm (x y : Int) : oL y x = oL x y := by unfold oL; repeat' split
                                                    all_goals omega
theorem nL_oL (x y : Int) : oL (nL x) (nL y) = nL (aL x y) := by unfold nL aL oL; repeat' split
                                                                 all_goals omega
theorem ret_l {a b : Int} (h : a = b) : Ending.returned (.int .i64 a) = .returned (.int .i64 b) := by rw [h]

set_option maxHeartbeats 1000000 in
theorem in01 (x : Int) (w : World) :
    Calls Tryd.prog 60 #[.int .i64 x, .int .i64 0, .int .i64 1] w fun e w' => e = .returned (.bool (decide (x = 0 ∨ x = 1))) ∧ w = w' := by
  by_cases h0 : x < 0
  · rw [show decide (x = 0 ∨ x = 1) = false from decide_eq_false (by omega)]
    go_enter Tryd.func60, Tryd.ntmps60
    go_wp2
    go_ret
    exact ⟨rfl, rfl⟩
  · by_cases h1 : 1 < x
    · rw [show decide (x = 0 ∨ x = 1) = false from decide_eq_false (by omega)]
      go_enter Tryd.func60, Tryd.ntmps60
      go_wp2
      go_ret
      exact ⟨congrArg (fun b => Ending.returned (.bool b)) (decide_eq_false (by omega)), rfl⟩
    · rw [show decide (x = 0 ∨ x = 1) = true from decide_eq_true (by omega)]
      have g0 : 0 ≤ x := by omega
      have g1 : x ≤ 1 := by omega
      go_enter Tryd.func60, Tryd.ntmps60
      go_wp2
      go_ret
      exact ⟨rfl, rfl⟩

theorem aL_max {x y : Int} (hx : ¬ x = 0) (hy : ¬ y = 0) : ∃ u v : Int, vL x = u ∧ vL y = v ∧ 1 ≤ u ∧ u ≤ 2 ∧ 1 ≤ v ∧ v ≤ 2 ∧ aL x y = max u v := by
  refine ⟨_, _, rfl, rfl, ?_⟩
  unfold aL vL; repeat' split
  all_goals omega

end Go.Proofs.YtddebgmjolojeaaDoor

/- Vectors of items that a call builds; LogicalVector of the program. -/
namespace Go.Proofs.YtddebgmjolojeaaDoor
open Go.RowKit
set_option maxRecDepth 100000
set_option linter.unusedVariables false

/-- A vector of items alone. -/
def vecOf (k : Int) (l : List It) : Vec := .mk k l [] [] [] [] 0 0
def itF (g : Nat → It) (n : Nat) : List It := (List.range n).map g
theorem itF_len (g : Nat → It) (n : Nat) : (itF g n).length = n := by simp [itF]
theorem itF_succ (g : Nat → It) (n : Nat) : itF g n ++ [g n] = itF g (n + 1) := by unfold itF; rw [List.range_succ, List.map_append]; rfl
theorem itF_zero (g : Nat → It) : itF g 0 = [] := rfl
theorem ret_eq {a b : Value} (h : a = b) : Ending.returned a = .returned b := by rw [h]
theorem own_zero (lo hi : Nat) (w : World) : Own 1 noV (.agg #[.int .i64 0, .slice none 0 0, .slice none 0 0, .slice none 0 0, .slice none 0 0, .slice none 0 0, .int .i64 0, .int .i64 0]) lo hi w := by
  refine ⟨[], ?_, List.nodup_nil, (fun _ h => by cases h)⟩
  show OwnVec w 1 (.mk 0 [] [] [] [] [] 0 0) _ []
  unfold OwnVec
  exact ⟨none, 0, none, 0, none, 0, none, 0, none, 0, [], [], [], [], [], rfl, rfl, ⟨Nat.le_refl _, Nat.le_refl _, Nat.le_refl _, Nat.le_refl _, Nat.le_refl _⟩, .inl ⟨rfl, rfl⟩, .inl ⟨rfl, rfl⟩, .inl ⟨rfl, rfl⟩, .inl ⟨rfl, rfl⟩, .inl ⟨rfl, rfl⟩⟩
/-- A vector whose items the call has built. -/
theorem own_vecOf {w : World} {B lo : Nat} {k : Int} {l : List It} {sa : Option Addr} {sn sc : Nat} (h : w.ownsRow B 67 3 (.slice sa sn sc) l.length (itCells l)) (hB : lo ≤ B) : Own 1 (vecOf k l) (.agg #[.int .i64 k, .slice sa sn sc, .slice none 0 0, .slice none 0 0, .slice none 0 0, .slice none 0 0, .int .i64 0, .int .i64 0]) lo w.heap.size w := by
  obtain ⟨a, c, F, e, ho, hn, hr, hc⟩ := own_of_its h
  obtain ⟨rfl, rfl, rfl⟩ : sa = a ∧ sn = l.length ∧ sc = c := by simpa using e
  refine ⟨F, ?_, hn, fun b hb => by have := hr b hb; omega⟩
  show OwnVec w 1 (.mk k l [] [] [] [] 0 0) _ F
  unfold OwnVec
  exact ⟨sa, sc, none, 0, none, 0, none, 0, none, 0, F, [], [], [], [], rfl, by simp, ⟨hc, Nat.le_refl _, Nat.le_refl _, Nat.le_refl _, Nat.le_refl _⟩, ho, .inl ⟨rfl, rfl⟩, .inl ⟨rfl, rfl⟩, .inl ⟨rfl, rfl⟩, .inl ⟨rfl, rfl⟩⟩
theorem small_vecOf {k : Int} {l : List It} (h : l.length ≤ 1048576) (ht : ∀ x ∈ l, x.t.size ≤ 1048576) : Small 1 (vecOf k l) := by
  show Small 1 (.mk k l [] [] [] [] 0 0)
  unfold Small
  exact ⟨h, Nat.zero_le _, Nat.zero_le _, Nat.zero_le _, Nat.zero_le _, ht, (fun _ h => by cases h), (fun _ h => by cases h), (fun _ h => by cases h), (fun _ h => by cases h)⟩
theorem small_noV : Small 1 noV := by
  show Small 1 (.mk 0 [] [] [] [] [] 0 0)
  unfold Small
  exact ⟨Nat.zero_le _, Nat.zero_le _, Nat.zero_le _, Nat.zero_le _, Nat.zero_le _, (fun _ h => by cases h), (fun _ h => by cases h), (fun _ h => by cases h), (fun _ h => by cases h), (fun _ h => by cases h)⟩
theorem fits_vecOf {k : Int} {l : List It} (hk : -9223372036854775808 ≤ k ∧ k ≤ 9223372036854775807) (h : l.length ≤ 1048576) (ht : ∀ x ∈ l, InB x) : Fits 1 (vecOf k l) := by
  show Fits 1 (.mk k l [] [] [] [] 0 0)
  unfold Fits
  refine ⟨hk, ⟨by decide, by decide⟩, ⟨by decide, by decide⟩, by unfold maxLen; omega, Nat.zero_le _, Nat.zero_le _, Nat.zero_le _, Nat.zero_le _, fun x hx => ht x hx, (fun _ h => by cases h), (fun _ h => by cases h), (fun _ h => by cases h), (fun _ h => by cases h)⟩
theorem fits_noV : Fits 1 noV := by
  show Fits 1 (.mk 0 [] [] [] [] [] 0 0)
  unfold Fits
  exact ⟨⟨by decide, by decide⟩, ⟨by decide, by decide⟩, ⟨by decide, by decide⟩, Nat.zero_le _, Nat.zero_le _, Nat.zero_le _, Nat.zero_le _, Nat.zero_le _, (fun _ h => by cases h), (fun _ h => by cases h), (fun _ h => by cases h), (fun _ h => by cases h), (fun _ h => by cases h)⟩
/-- What a loop that appends items keeps: the result's block, the vector's block behind it, the items so far. -/
structure AppL (w wr : World) (kind : Int) (l : List It) (sa : Option Addr) (sn sc : Nat) : Prop where
  res : wr.heap[w.heap.size]? = some (.cells #[.int .i64 0, .slice none 0 0, .slice none 0 0, .slice none 0 0, .slice none 0 0, .slice none 0 0, .int .i64 0, .int .i64 0] 31 (0, 0))
  vec : wr.heap[w.heap.size + 1]? = some (.cells #[.int .i64 kind, .slice sa sn sc, .slice none 0 0, .slice none 0 0, .slice none 0 0, .slice none 0 0, .int .i64 0, .int .i64 0] 31 (0, 0))
  row : wr.ownsRow (w.heap.size + 2) 67 3 (.slice sa sn sc) l.length (itCells l)
  below : Below w.heap.size w wr
theorem AppL.big {w wr : World} {kind : Int} {l : List It} {sa : Option Addr} {sn sc : Nat} (h : AppL w wr kind l sa sn sc) : w.heap.size + 1 < wr.heap.size := (Array.getElem?_eq_some_iff.1 h.vec).1
theorem AppL.keep {w wr w1 : World} {kind : Int} {l : List It} {sa : Option Addr} {sn sc : Nat} (h : AppL w wr kind l sa sn sc) (hb : Below wr.heap.size wr w1) : AppL w w1 kind l sa sn sc :=
  ⟨blk_below hb h.res, blk_below hb h.vec, ownsRow_below h.row hb, below_then h.below hb⟩
theorem AppL.heldC {w wr : World} {kind : Int} {l : List It} {sa : Option Addr} {sn sc : Nat} (h : AppL w wr kind l sa sn sc) : HeldC w wr [(w.heap.size, 31, #[.int .i64 0, .slice none 0 0, .slice none 0 0, .slice none 0 0, .slice none 0 0, .slice none 0 0, .int .i64 0, .int .i64 0]), (w.heap.size + 1, 31, #[.int .i64 kind, .slice sa sn sc, .slice none 0 0, .slice none 0 0, .slice none 0 0, .slice none 0 0, .int .i64 0, .int .i64 0])] := heldC_two h.below h.res h.vec
theorem AppL.far {w wr : World} {kind : Int} {l : List It} {sa : Option Addr} {sn sc : Nat} (h : AppL w wr kind l sa sn sc) {q : Nat × TypeId × Array Value} (hq : q ∈ [(w.heap.size, 31, #[.int .i64 0, .slice none 0 0, .slice none 0 0, .slice none 0 0, .slice none 0 0, .slice none 0 0, .int .i64 0, .int .i64 0]), (w.heap.size + 1, 31, #[.int .i64 kind, .slice sa sn sc, .slice none 0 0, .slice none 0 0, .slice none 0 0, .slice none 0 0, .int .i64 0, .int .i64 0])]) : ∀ k, (Value.slice sa sn sc).ownBlock = some k → q.1 ≠ k := by
  intro k hk e
  have h1 := (h.row.lt k hk).1
  rcases List.mem_cons.1 hq with rfl | hq
  · simp only at e; omega
  · obtain rfl := List.mem_singleton.1 hq
    simp only at e; omega
theorem AppL.start (w : World) (kind : Int) : AppL w ((w.alloc (.cells #[.int .i64 0, .slice none 0 0, .slice none 0 0, .slice none 0 0, .slice none 0 0, .slice none 0 0, .int .i64 0, .int .i64 0] 31)).alloc (.cells #[.int .i64 kind, .slice none 0 0, .slice none 0 0, .slice none 0 0, .slice none 0 0, .slice none 0 0, .int .i64 0, .int .i64 0] 31)) kind [] none 0 0 := by
  have h0 : (w.alloc (.cells #[.int .i64 0, .slice none 0 0, .slice none 0 0, .slice none 0 0, .slice none 0 0, .slice none 0 0, .int .i64 0, .int .i64 0] 31)).heap.size = w.heap.size + 1 := by simp
  refine ⟨blk_old (blk_new w _ rfl), ?_, ⟨rfl, .inl ⟨rfl, rfl⟩⟩, (below1 w _).alloc (by simp) _⟩
  have := blk_new (w.alloc (.cells #[.int .i64 0, .slice none 0 0, .slice none 0 0, .slice none 0 0, .slice none 0 0, .slice none 0 0, .int .i64 0, .int .i64 0] 31)) (.cells #[.int .i64 kind, .slice none 0 0, .slice none 0 0, .slice none 0 0, .slice none 0 0, .slice none 0 0, .int .i64 0, .int .i64 0] 31) rfl
  rwa [h0] at this
theorem AppL.next {w W : World} {kind : Int} {l : List It} {z : It} {sa sa' : Option Addr} {sn sc sn' sc' : Nat} (hK : W.heap[w.heap.size + 1]? = some (.cells (#[.int .i64 kind, .slice sa sn sc, .slice none 0 0, .slice none 0 0, .slice none 0 0, .slice none 0 0, .int .i64 0, .int .i64 0].setIfInBounds 1 (.slice sa' sn' sc')) 31 (0, 0)))
    (hO : W.ownsRow (w.heap.size + 2) 67 3 (.slice sa' sn' sc') (l ++ [z]).length (itCells (l ++ [z]))) (hB : Below w.heap.size w W)
    (hR : ∀ q ∈ [(w.heap.size, 31, #[.int .i64 0, .slice none 0 0, .slice none 0 0, .slice none 0 0, .slice none 0 0, .slice none 0 0, .int .i64 0, .int .i64 0]), (w.heap.size + 1, 31, #[.int .i64 kind, .slice sa sn sc, .slice none 0 0, .slice none 0 0, .slice none 0 0, .slice none 0 0, .int .i64 0, .int .i64 0])], q.1 ≠ w.heap.size + 1 → W.heap[q.1]? = some (.cells q.2.2 q.2.1 (0, 0))) : AppL w W kind (l ++ [z]) sa' sn' sc' :=
  ⟨hR _ (List.Mem.head _) (by simp only; omega), hK, hO, hB⟩
theorem free8 {w : World} {b : Nat} {C : Array Value} {t : TypeId} (h : w.heap[b]? = some (.cells C t (0, 0))) : w.frozen? ⟨b, 0, none⟩ = false ∧ w.frozen? ⟨b, 1, none⟩ = false ∧ w.frozen? ⟨b, 2, none⟩ = false ∧ w.frozen? ⟨b, 3, none⟩ = false ∧ w.frozen? ⟨b, 4, none⟩ = false ∧ w.frozen? ⟨b, 5, none⟩ = false ∧ w.frozen? ⟨b, 6, none⟩ = false ∧ w.frozen? ⟨b, 7, none⟩ = false :=
  ⟨freeOf h, freeOf h, freeOf h, freeOf h, freeOf h, freeOf h, freeOf h, freeOf h⟩
/-- A vector that has just been stored into the result's block. -/
theorem vec_end {fn : Func} {R : Ending → World → Prop} {act : Act} {w : World} {g : Nat} {p : Tmp} {z0 z1 z2 z3 z4 z5 z6 z7 c0 c1 c2 c3 c4 c5 c6 c7 : Value} {t : TypeId}
    (hfn : fn.results = #[.cell p 31]) (hp : act.tmps.getD p undef = .pointer (some ⟨g, 0, none⟩)) (hd : act.defers = []) (hg : w.heap[g]? = some (.cells #[z0, z1, z2, z3, z4, z5, z6, z7] t (0, 0)))
    (hR : R (.returned (.agg #[c0, c1, c2, c3, c4, c5, c6, c7])) (put8 w g 0 c0 c1 c2 c3 c4 c5 c6 c7)) :
    bodyPost Tryd.prog fn R .ret act ((((((((w.setCell ⟨g, 0, none⟩ c0).setCell ⟨g, 1, none⟩ c1).setCell ⟨g, 2, none⟩ c2).setCell ⟨g, 3, none⟩ c3).setCell ⟨g, 4, none⟩ c4).setCell ⟨g, 5, none⟩ c5).setCell ⟨g, 6, none⟩ c6).setCell ⟨g, 7, none⟩ c7) :=
  vec_ret0 hfn hp hd (put8_lit hg) hR
theorem Own.put8 {d : Nat} {V : Vec} {y : Value} {lo hi : Nat} {w : World} (h : Own d V y lo hi w) {g p : Nat} (hg : g < lo) (c0 c1 c2 c3 c4 c5 c6 c7 : Value) : Own d V y lo hi (put8 w g p c0 c1 c2 c3 c4 c5 c6 c7) := by
  obtain ⟨F, h1, h2, h3⟩ := h.out
  exact ⟨F, h1.kept _ _ _ _ (fun b hb => put8_other (by have := h3 b hb; omega)), h2, h3⟩
theorem put8_size {w : World} {g p : Nat} {c0 c1 c2 c3 c4 c5 c6 c7 : Value} : (put8 w g p c0 c1 c2 c3 c4 c5 c6 c7).heap.size = w.heap.size := by unfold put8; simp
theorem AppL.fin {w wr : World} {kind : Int} {l : List It} {sa : Option Addr} {sn sc : Nat} (h : AppL w wr kind l sa sn sc) : ResV 1 (vecOf kind l) w (.returned (.agg #[.int .i64 kind, .slice sa sn sc, .slice none 0 0, .slice none 0 0, .slice none 0 0, .slice none 0 0, .int .i64 0, .int .i64 0])) (put8 wr w.heap.size 0 (.int .i64 kind) (.slice sa sn sc) (.slice none 0 0) (.slice none 0 0) (.slice none 0 0) (.slice none 0 0) (.int .i64 0) (.int .i64 0)) := by
  have ho := own_vecOf (k := kind) (lo := w.heap.size + 2) h.row (Nat.le_refl _)
  refine ⟨_, rfl, ((ho.put8 (by omega) _ _ _ _ _ _ _ _).wide (by omega) ?_), put8_below h.below (Nat.le_refl _)⟩
  rw [put8_size]
  exact Nat.le_refl _
theorem AppL.set3 {w wr : World} {kind : Int} {l : List It} {sa : Option Addr} {sn sc g : Nat} {x y z : Value} (h : AppL w wr kind l sa sn sc) (h0 : w.heap.size ≤ g) (hf : ∀ j, (Value.slice sa sn sc).ownBlock = some j → j ≠ g) (hg : w.heap.size + 1 < g) :
    AppL w (((wr.setCell ⟨g, 0, none⟩ x).setCell ⟨g, 1, none⟩ y).setCell ⟨g, 2, none⟩ z) kind l sa sn sc := by
  refine ⟨blk_set3' h.res (by omega), blk_set3' h.vec (by omega), ?_, below_three h.below h0 _ _ _⟩
  obtain ⟨hl, h1⟩ := h.row
  refine ⟨hl, h1.imp id ?_⟩
  rintro ⟨b, cap, cur, e, hB, hb, r⟩
  exact ⟨b, cap, cur, e, hB, blk_set3' hb (hf b (by rw [e]; rfl)), r⟩
/-- The item of a logical value. -/
def logI (x : Int) : It := if x = 0 then ⟨0, 1, ⟨#[]⟩⟩ else if x = 1 then ⟨1, 1, ⟨#[]⟩⟩ else noI
theorem logI_v (x : Int) : logI (vL x) = logI x := by
  unfold logI vL
  by_cases h0 : x = 0
  · simp [h0]
  · by_cases h1 : x = 1
    · simp [h1]
    · simp [h0, h1]
theorem heldC_cons {w v : World} {L : List (Nat × TypeId × Array Value)} {g : Nat} {t : TypeId} {C : Array Value} (h : HeldC w v L) (hb : v.heap[g]? = some (.cells C t (0, 0))) : HeldC w v ((g, t, C) :: L) :=
  ⟨h.1, fun q hq => by
    rcases List.mem_cons.1 hq with rfl | hq
    · exact hb
    · exact h.2 q hq⟩
theorem AppL.far2 {w wr : World} {kind : Int} {l : List It} {sa : Option Addr} {sn sc : Nat} (h : AppL w wr kind l sa sn sc) {C : Array Value} {q : Nat × TypeId × Array Value} (hq : q ∈ (wr.heap.size, 67, C) :: [(w.heap.size, 31, #[.int .i64 0, .slice none 0 0, .slice none 0 0, .slice none 0 0, .slice none 0 0, .slice none 0 0, .int .i64 0, .int .i64 0]), (w.heap.size + 1, 31, #[.int .i64 kind, .slice sa sn sc, .slice none 0 0, .slice none 0 0, .slice none 0 0, .slice none 0 0, .int .i64 0, .int .i64 0])]) : ∀ k, (Value.slice sa sn sc).ownBlock = some k → q.1 ≠ k := by
  rcases List.mem_cons.1 hq with rfl | hq
  · intro k hk e
    have h1 := (h.row.lt k hk).2
    simp only at e; omega
  · exact h.far hq
end Go.Proofs.YtddebgmjolojeaaDoor

/- Vectors of items alone as results of laws: they are small, they fit, and their marks are few; ints that come in, with their bounds. -/
namespace Go.Proofs.YtddebgmjolojeaaDoor
open Go.RowKit
set_option maxRecDepth 100000
set_option linter.unusedVariables false

theorem mem_itF {g : Nat → It} {n : Nat} {x : It} (h : x ∈ itF g n) : ∃ i, i < n ∧ x = g i := by
  obtain ⟨i, hi, rfl⟩ := List.mem_map.1 h
  exact ⟨i, List.mem_range.1 hi, rfl⟩
theorem cnt_vecOf (k : Int) (l : List It) : cntM 1 (vecOf k l) = 3 * l.length := by
  show cntM 1 (.mk k l [] [] [] [] 0 0) = _
  rw [cntM_eq]
  show 3 * l.length + sumN _ 0 + 0 + 0 + 0 = _
  simp [sumN]
theorem cnt_noV : cntM 1 noV = 0 := by
  show cntM 1 (.mk 0 [] [] [] [] [] 0 0) = _
  rw [cntM_eq]
  show 3 * 0 + sumN _ 0 + 0 + 0 + 0 = _
  simp [sumN]
theorem small_res (k : Int) (g : Nat → It) (n : Nat) (h : ∀ i, (g i).t.size ≤ 1048576) : Small 1 (if n ≤ 40 then vecOf k (itF g n) else noV) := by
  split
  · exact small_vecOf (by rw [itF_len]; omega) (fun x hx => by obtain ⟨i, _, rfl⟩ := mem_itF hx; exact h i)
  · exact small_noV
theorem fits_res (k : Int) (g : Nat → It) (n : Nat) (hk : -9223372036854775808 ≤ k ∧ k ≤ 9223372036854775807) (h : ∀ i, InB (g i)) : Fits 1 (if n ≤ 40 then vecOf k (itF g n) else noV) := by
  split
  · exact fits_vecOf hk (by rw [itF_len]; omega) (fun x hx => by obtain ⟨i, _, rfl⟩ := mem_itF hx; exact h i)
  · exact fits_noV
theorem cnt_res (k : Int) (g : Nat → It) (n : Nat) : 1 + cntM 1 (if n ≤ 40 then vecOf k (itF g n) else noV) ≤ 8000000 := by
  split
  · rw [cnt_vecOf, itF_len]; omega
  · rw [cnt_noV]; omega
theorem logI_t (x : Int) : (logI x).t.size ≤ 1048576 := by
  unfold logI; repeat' split
  all_goals exact Nat.zero_le _
theorem inB_small {n d : Int} (h : (-9223372036854775808 ≤ n ∧ n ≤ 9223372036854775807) ∧ (-9223372036854775808 ≤ d ∧ d ≤ 9223372036854775807)) : InB ⟨n, d, ⟨#[]⟩⟩ := ⟨h.1, h.2, Nat.zero_le _⟩
theorem inB_noI : InB noI := inB_small (by decide)
theorem logI_in (x : Int) : InB (logI x) := by
  unfold logI; split
  · exact inB_small (by decide)
  · split
    · exact inB_small (by decide)
    · exact inB_noI
end Go.Proofs.YtddebgmjolojeaaDoor

/- TextVector on both sides. -/
namespace Go.Proofs.YtddebgmjolojeaaDoor
open Go.RowKit
set_option maxRecDepth 100000
set_option linter.unusedVariables false

def txE (s : ByteArray) : It := ⟨0, 1, s⟩
theorem valid_vecOf {k : Int} {l : List It} (hk : 1 ≤ k ∧ k ≤ 3) : ValidV (vecOf k l) ↔ l.length ≤ 40 ∧ ∀ i, i < l.length → ItOk k (l.getD i noI) := by
  have e4 : cellsV 3 (vecOf k l) = lenV k l.length 0 := by
    show lengthV _ + sumN _ 0 = _
    simp [sumN]; rfl
  have e5 : lenV k l.length 0 = l.length := by unfold lenV; rw [if_neg (by omega)]; rfl
  have z : ∀ i, i < ([] : List ByteArray).length → False := fun i h => Nat.not_lt_zero _ h
  constructor
  · rintro ⟨h, _⟩
    have hf : FlatOk k l 0 [] [] [] 0 0 := h.flat
    exact ⟨by have := hf.h_len; omega, fun i hi => (hf.h_items i hi).1⟩
  · rintro ⟨h1, h2⟩
    have hf : FlatOk k l 0 [] [] [] 0 0 := ⟨by omega, by omega, .inl rfl, ⟨fun i h => (z i h).elim, .inl rfl⟩, ⟨Nat.zero_le _, fun i h => (z i h).elim⟩, ⟨Nat.zero_le _, fun i h => (z i h).elim⟩, fun _ => ⟨rfl, rfl⟩, fun _ => rfl, fun _ => rfl, fun h => by omega, fun h => by omega, fun h => by omega, fun i hi => ⟨h2 i hi, .inl rfl⟩⟩
    exact ⟨⟨hf, fun i h => (Nat.not_lt_zero i h).elim⟩, by omega⟩
theorem itF_getD (g : Nat → It) {i n : Nat} (h : i < n) : (itF g n).getD i noI = g i := by unfold itF; simp [List.getD_eq_getElem?_getD, h]
theorem valid_txt {f : Nat → ByteArray} {n : Nat} (h : n ≤ 40) : ValidV (vecOf 3 (itF (fun i => txE (f i)) n)) ↔ ¬ LongIn f n := by
  rw [valid_vecOf (by decide), itF_len]
  constructor
  · rintro ⟨_, h2⟩ ⟨i, hi, hl⟩
    have h3 := h2 i hi
    rw [itF_getD _ hi] at h3
    rcases h3 with h3 | ⟨h3, _⟩ | ⟨h3, _⟩ | ⟨_, _, _, h3⟩
    · exact absurd (congrArg It.d h3) (by show ¬ (1 : Int) = 0; decide)
    · omega
    · omega
    · have h4 : (f i).size ≤ 60 := h3
      omega
  · intro hn
    refine ⟨h, fun i hi => ?_⟩
    rw [itF_getD _ hi]
    exact .inr (.inr (.inr ⟨rfl, rfl, rfl, Nat.not_lt.1 (fun hl => hn ⟨i, hi, hl⟩)⟩))
/-- What TextVector answers. -/
noncomputable def textV (f : Nat → ByteArray) (n : Nat) : Vec := match bB (n ≤ 40 ∧ ¬ LongIn f n) with
  | true => vecOf 3 (itF (fun i => txE (f i)) n)
  | false => noV
theorem textV_yes {f : Nat → ByteArray} {n : Nat} (h : n ≤ 40) (hl : ¬ LongIn f n) : textV f n = vecOf 3 (itF (fun i => txE (f i)) n) := by unfold textV; rw [bB_yes ⟨h, hl⟩]
theorem textV_big {f : Nat → ByteArray} {n : Nat} (h : ¬ n ≤ 40) : textV f n = noV := by unfold textV; rw [bB_no (fun k => h k.1)]
theorem textV_long {f : Nat → ByteArray} {n : Nat} (hl : LongIn f n) : textV f n = noV := by unfold textV; rw [bB_no (fun k => k.2 hl)]
theorem implTxtItem (s : ByteArray) (w : World) :
    Calls Tryd.prog 77 #[.string s] w fun e w' => e = .returned (.agg #[.int .i64 0, .int .i64 1, .string s]) ∧ Below w.heap.size w w' := by
  go_enter Tryd.func77, Tryd.ntmps77
  go_wp2
  first | exact item_ret0 rfl rfl rfl (blk_new _ _ rfl) ⟨rfl, below1 w _⟩ | exact item_ret rfl rfl rfl (blk_new _ _ rfl) ⟨rfl, below_three (below1 w _) (Nat.le_refl _) _ _ _⟩
theorem specTxtItem (s : ByteArray) (w : World) :
    Calls Tryd.prog 52 #[.string s] w fun e w' => e = .returned (.agg #[.int .i64 0, .int .i64 1, .string s]) ∧ Below w.heap.size w w' := by
  go_enter Tryd.func52, Tryd.ntmps52
  go_wp2
  first | exact item_ret0 rfl rfl rfl (blk_new _ _ rfl) ⟨rfl, below1 w _⟩ | exact item_ret rfl rfl rfl (blk_new _ _ rfl) ⟨rfl, below_three (below1 w _) (Nat.le_refl _) _ _ _⟩
theorem AppL.vat {w wr : World} {kind : Int} {l : List It} {sa : Option Addr} {sn sc : Nat} (h : AppL w wr kind l sa sn sc) : VecAt 0 wr.heap.size wr 1 (vecOf kind l) (.agg #[.int .i64 kind, .slice sa sn sc, .slice none 0 0, .slice none 0 0, .slice none 0 0, .slice none 0 0, .int .i64 0, .int .i64 0]) :=
  (own_vecOf (k := kind) (lo := 0) h.row (Nat.zero_le _)).vat (Nat.le_refl _)
theorem valid_nil3 : ValidV (vecOf 3 []) := (valid_vecOf (by decide)).2 ⟨Nat.zero_le _, fun i hi => (Nat.not_lt_zero i hi).elim⟩
end Go.Proofs.YtddebgmjolojeaaDoor

/- The text of an integer: the specification's function, against one plain function. -/
namespace Go.Proofs.YtddebgmjolojeaaDoor
set_option maxRecDepth 100000
open Go.RowKit

theorem ret_strF {a b : ByteArray} (h : a = b) : Ending.returned (.string a) = .returned (.string b) := by rw [h]
set_option maxHeartbeats 1000000 in
theorem specFmtPos (n : Nat) (w : World) (h : n ≤ 9223372036854775807) (h0 : 0 < n) :
    Calls Tryd.prog 64 #[.int .i64 n] w fun e w' => e = .returned (.string ⟨(Lib.decDigits n).toArray⟩) ∧ w = w' := by
  go_enter Tryd.func64, Tryd.ntmps64
  go_wp2
  go_loop [3, 4] (fun v x => ∃ a : Nat, a ≤ n ∧ x = .int .i64 a ∧ DigAt n a v) (fun _ x => (intOf x).toNat)
  case atStart => exact ⟨n, Nat.le_refl _, rfl, DigAt.start n⟩
  case round =>
    obtain ⟨a, ha, rfl, ⟨acc, rfl, hd⟩⟩ := hrel
    have hal := acc_len hd (by omega) h0
    have D := Lib.hid hd
    clear hd
    by_cases hz : 0 < a
    · have hx := digit_text (a % 10) (by omega)
      go_wp2
      go_round
      case rel => exact ⟨a / 10, by omega, by go_num, DigAt.step D.out (by omega) rfl⟩
      case measure => simp [intOf]; omega
    · obtain rfl : a = 0 := by omega
      have X := Lib.hid (digs_pos n (by omega))
      go_wp2
      go_ret
      exact ⟨ret_strF (by rw [← X.out, ← D.out]; rfl), rfl⟩
theorem int0 (a : Nat) (h : 0 < a) : (-(a : Int) != 0) = true := by simp; omega
set_option maxHeartbeats 1000000 in
theorem specFmtNeg (n : Nat) (w : World) (h : n ≤ 9223372036854775808) (h0 : 0 < n) :
    Calls Tryd.prog 64 #[.int .i64 (-(n : Int))] w fun e w' => e = .returned (.string ⟨(45 :: Lib.decDigits n).toArray⟩) ∧ w = w' := by
  have g0 : (-(n : Int) == 0) = false := by simp; omega
  have g1 : -(n : Int) < 0 := by omega
  go_enter Tryd.func64, Tryd.ntmps64
  go_wp2
  go_loop [3, 4] (fun v x => ∃ a : Nat, a ≤ n ∧ x = .int .i64 (-(a : Int)) ∧ DigAt n a v) (fun _ x => (-(intOf x)).toNat)
  case atStart => exact ⟨n, Nat.le_refl _, rfl, DigAt.start n⟩
  case round =>
    obtain ⟨a, ha, rfl, ⟨acc, rfl, hd⟩⟩ := hrel
    have hal := acc_len hd h h0
    have D := Lib.hid hd
    clear hd
    by_cases hz : 0 < a
    · have hx := digit_text (a % 10) (by omega)
      have HX := Lib.hid hx
      have q1 := neg_tdiv a
      have q2 := neg_tmod a
      have q3 := int0 a hz
      go_wp2
      · go_round
        case rel => exact ⟨a / 10, by omega, by go_num, DigAt.step D.out (by omega) rfl⟩
        case measure => simp [intOf]; omega
      · go_round
        case rel => exact ⟨a / 10, by omega, by go_num, DigAt.step D.out (by omega) (by
          have e1 : (-((a : Int) % 10)).toNat = a % 10 := by omega
          have e2 : (-((a : Int) % 10) + 1).toNat = a % 10 + 1 := by omega
          rw [e1, e2, HX.out])⟩
        case measure => simp [intOf]; omega
    · obtain rfl : a = 0 := by omega
      have X := Lib.hid (digs_pos n (by omega))
      go_wp2
      go_ret
      exact ⟨ret_strF (by rw [← X.out, ← D.out]; exact bytes_cat [45] acc), rfl⟩
theorem specFmtZero (w : World) :
    Calls Tryd.prog 64 #[.int .i64 0] w fun e w' => e = .returned (.string ⟨#[48]⟩) ∧ w = w' := by
  go_enter Tryd.func64, Tryd.ntmps64
  go_wp2
  go_loop [3, 4] (fun _ x => x = .int .i64 0) (fun _ x => (intOf x).toNat)
  case atStart => exact rfl
  case round =>
    obtain rfl := hrel
    go_wp2
    go_ret
    exact ⟨rfl, rfl⟩
/-- THE SPECIFICATION's FormatInt, AT EVERY int. -/
theorem specFmt (n : Int) (w : World) (h0 : -9223372036854775808 ≤ n) (h1 : n ≤ 9223372036854775807) :
    Calls Tryd.prog 64 #[.int .i64 n] w fun e w' => e = .returned (.string ⟨(Lib.itoa n).toArray⟩) ∧ w = w' := by
  by_cases hz : n = 0
  · subst hz
    have e : Lib.itoa 0 = [48] := by
      rw [show (0 : Int) = ((0 : Nat) : Int) from rfl, Lib.itoa_nonneg, Lib.decDigits_one (by omega)]; rfl
    rw [e]
    exact specFmtZero w
  · by_cases hp : 0 < n
    · obtain ⟨a, rfl⟩ : ∃ a : Nat, n = a := ⟨n.toNat, by omega⟩
      rw [Lib.itoa_nonneg]
      exact specFmtPos a w (by omega) (by omega)
    · obtain ⟨a, rfl⟩ : ∃ a : Nat, n = -(a : Int) := ⟨(-n).toNat, by omega⟩
      rw [Lib.itoa_neg a (by omega)]
      exact specFmtNeg a w (by omega) (by omega)
end Go.Proofs.YtddebgmjolojeaaDoor

/-
  The library's contracts at this translation, in plain words (by program out of the kit's own laying).
-/
namespace Go.Proofs
open Go.Shelf
def Tryd.lays129_ren : Go.Shelf.Ren := ⟨fun | 129 => 107 | n => n, fun | 53 => 96 | 3 => 3 | 4 => 4 | 46 => 107 | 5 => 5 | 9 => 9 | n => n, fun | n => n⟩
theorem Tryd.lays129 : Go.Proofs.Lays.n129 Tryd.prog Tryd.lays129_ren := {
  mixed := by kernel_rfl
  f129 := Tryd.func107.trans (congrArg some (by kernel_rfl))
  t3 := Tryd.underlying3
  a3 := Tryd.isAgg3
  z3 := Tryd.sizeOf3
  v3 := Tryd.zeroValue3
  t4 := Tryd.underlying4
  a4 := Tryd.isAgg4
  z4 := Tryd.sizeOf4
  v4 := Tryd.zeroValue4
  t5 := Tryd.underlying5
  a5 := Tryd.isAgg5
  z5 := Tryd.sizeOf5
  v5 := Tryd.zeroValue5
  t9 := Tryd.underlying9
  a9 := Tryd.isAgg9
  z9 := Tryd.sizeOf9
  v9 := Tryd.zeroValue9
  t46 := Tryd.underlying107
  a46 := Tryd.isAgg107
  z46 := Tryd.sizeOf107
  v46 := Tryd.zeroValue107
  t53 := Tryd.underlying96
  a53 := Tryd.isAgg96
  z53 := Tryd.sizeOf96
  v53 := Tryd.zeroValue96 }
theorem Tryd.bits_Len64 (x : Int) (w : World) (h0 : 0 ≤ x) (h1 : x ≤ 18446744073709551615) :
    Calls Tryd.prog 107 #[.int .u64 x] w fun e w' => e = .returned (.int .i64 (Lib.bitLen x.toNat)) ∧ w' = w := Any.bits_Len64 Tryd.lays129 x w h0 h1
def Tryd.lays317_ren : Go.Shelf.Ren := ⟨fun | 317 => 106 | n => n, fun | 3 => 3 | 46 => 107 | n => n, fun | n => n⟩
theorem Tryd.lays317 : Go.Proofs.Lays.n317 Tryd.prog Tryd.lays317_ren := {
  mixed := by kernel_rfl
  f317 := Tryd.func106.trans (congrArg some (by kernel_rfl))
  t3 := Tryd.underlying3
  a3 := Tryd.isAgg3
  z3 := Tryd.sizeOf3
  v3 := Tryd.zeroValue3
  t46 := Tryd.underlying107
  a46 := Tryd.isAgg107
  z46 := Tryd.sizeOf107
  v46 := Tryd.zeroValue107 }
open Go.Lib in
theorem Tryd.internal_strconv_log10Pow2 (x : Nat) (h : x ≤ 64) (w : World) :
    Calls Tryd.prog 106 #[.int .i64 x] w fun e w' => e = .returned (.int .i64 (Lib.l10 x)) ∧ w' = w := Any.internal_strconv_log10Pow2 Tryd.lays317 x h w
def Tryd.lays318_ren : Go.Shelf.Ren := ⟨fun | 318 => 108 | n => n, fun | 3 => 3 | 4 => 4 | n => n, fun | n => n⟩
theorem Tryd.lays318 : Go.Proofs.Lays.n318 Tryd.prog Tryd.lays318_ren := {
  mixed := by kernel_rfl
  f318 := Tryd.func108.trans (congrArg some (by kernel_rfl))
  t3 := Tryd.underlying3
  a3 := Tryd.isAgg3
  z3 := Tryd.sizeOf3
  v3 := Tryd.zeroValue3
  t4 := Tryd.underlying4
  a4 := Tryd.isAgg4
  z4 := Tryd.sizeOf4
  v4 := Tryd.zeroValue4 }
open Go.Lib in
theorem Tryd.internal_strconv_bool2_int (b : Bool) (w : World) :
    Calls Tryd.prog 108 #[.bool b] w fun e w' => e = .returned (.int .i64 (if b then 1 else 0)) ∧ w' = w := Any.internal_strconv_bool2_int Tryd.lays318 b w
def Tryd.lays283_ren : Go.Shelf.Ren := ⟨fun | 283 => 100 | n => n, fun | 3 => 3 | 9 => 9 | 4 => 4 | n => n, fun | n => n⟩
theorem Tryd.lays283 : Go.Proofs.Lays.n283 Tryd.prog Tryd.lays283_ren := {
  mixed := by kernel_rfl
  f283 := Tryd.func100.trans (congrArg some (by kernel_rfl))
  t3 := Tryd.underlying3
  a3 := Tryd.isAgg3
  z3 := Tryd.sizeOf3
  v3 := Tryd.zeroValue3
  t4 := Tryd.underlying4
  a4 := Tryd.isAgg4
  z4 := Tryd.sizeOf4
  v4 := Tryd.zeroValue4
  t9 := Tryd.underlying9
  a9 := Tryd.isAgg9
  z9 := Tryd.sizeOf9
  v9 := Tryd.zeroValue9 }
open Go.Lib in
theorem Tryd.internal_strconv_small (i : Nat) (h : i < 100) (w : World) :
    Calls Tryd.prog 100 #[.int .i64 i] w fun e w' => e = .returned (.string ⟨(Lib.decDigits i).toArray⟩) ∧ w' = w := Any.internal_strconv_small Tryd.lays283 i h w
def Tryd.laysM284_ren : Go.Shelf.Ren := ⟨fun | 284 => 101 | 129 => 107 | 317 => 106 | 318 => 108 | n => n, fun | 53 => 96 | 3 => 3 | 212 => 103 | 0 => 0 | 4 => 4 | 46 => 107 | 5 => 5 | 9 => 9 | n => n, fun | 17 => 0 | n => n⟩
theorem Tryd.laysM284 : Go.Proofs.LaysM.n284 Tryd.prog Tryd.laysM284_ren := {
  mixed := by kernel_rfl
  f129 := Tryd.func107.trans (congrArg some (by kernel_rfl))
  f284 := Tryd.func101.trans (congrArg some (by kernel_rfl))
  f317 := Tryd.func106.trans (congrArg some (by kernel_rfl))
  f318 := Tryd.func108.trans (congrArg some (by kernel_rfl))
  t0 := Tryd.underlying0
  a0 := Tryd.isAgg0
  z0 := Tryd.sizeOf0
  v0 := Tryd.zeroValue0
  t3 := Tryd.underlying3
  a3 := Tryd.isAgg3
  z3 := Tryd.sizeOf3
  v3 := Tryd.zeroValue3
  t4 := Tryd.underlying4
  a4 := Tryd.isAgg4
  z4 := Tryd.sizeOf4
  v4 := Tryd.zeroValue4
  t5 := Tryd.underlying5
  a5 := Tryd.isAgg5
  z5 := Tryd.sizeOf5
  v5 := Tryd.zeroValue5
  t9 := Tryd.underlying9
  a9 := Tryd.isAgg9
  z9 := Tryd.sizeOf9
  v9 := Tryd.zeroValue9
  t46 := Tryd.underlying107
  a46 := Tryd.isAgg107
  z46 := Tryd.sizeOf107
  v46 := Tryd.zeroValue107
  t53 := Tryd.underlying96
  a53 := Tryd.isAgg96
  z53 := Tryd.sizeOf96
  v53 := Tryd.zeroValue96
  t212 := Tryd.underlying103
  a212 := Tryd.isAgg103
  z212 := Tryd.sizeOf103
  v212 := Tryd.zeroValue103
  g17 := by kernel_rfl
  i0 := by kernel_rfl
  i3 := by kernel_rfl
  i4 := by kernel_rfl
  i5 := by kernel_rfl
  i9 := by kernel_rfl
  i46 := by kernel_rfl
  i53 := by kernel_rfl
  i212 := by kernel_rfl
  m17 := by kernel_rfl }
open Go.Lib in
theorem Tryd.internal_strconv_numDigits (u : Nat) (h1 : 1 ≤ u) (h2 : u < 18446744073709551616) (w : World) (htab : Lib.TabIs Tryd.prog w "internal/strconv.uint64pow10" .u64 Lib.pow10Tab) :
    Calls Tryd.prog 101 #[.int .u64 u] w fun e w' => e = .returned (.int .i64 (Lib.nDigits u)) ∧ w' = w := Any.internal_strconv_numDigits Tryd.laysM284 u h1 h2 w htab
def Tryd.lays285_ren : Go.Shelf.Ren := ⟨fun | 285 => 102 | n => n, fun | 37 => 78 | 53 => 96 | 3 => 3 | 4 => 4 | 51 => 104 | 9 => 9 | 5 => 5 | 0 => 0 | n => n, fun | n => n⟩
theorem Tryd.lays285 : Go.Proofs.Lays.n285 Tryd.prog Tryd.lays285_ren := {
  mixed := by kernel_rfl
  f285 := Tryd.func102.trans (congrArg some (by kernel_rfl))
  t0 := Tryd.underlying0
  a0 := Tryd.isAgg0
  z0 := Tryd.sizeOf0
  v0 := Tryd.zeroValue0
  t3 := Tryd.underlying3
  a3 := Tryd.isAgg3
  z3 := Tryd.sizeOf3
  v3 := Tryd.zeroValue3
  t4 := Tryd.underlying4
  a4 := Tryd.isAgg4
  z4 := Tryd.sizeOf4
  v4 := Tryd.zeroValue4
  t5 := Tryd.underlying5
  a5 := Tryd.isAgg5
  z5 := Tryd.sizeOf5
  v5 := Tryd.zeroValue5
  t9 := Tryd.underlying9
  a9 := Tryd.isAgg9
  z9 := Tryd.sizeOf9
  v9 := Tryd.zeroValue9
  t37 := Tryd.underlying78
  a37 := Tryd.isAgg78
  z37 := Tryd.sizeOf78
  v37 := Tryd.zeroValue78
  t51 := Tryd.underlying104
  a51 := Tryd.isAgg104
  z51 := Tryd.sizeOf104
  v51 := Tryd.zeroValue104
  t53 := Tryd.underlying96
  a53 := Tryd.isAgg96
  z53 := Tryd.sizeOf96
  v53 := Tryd.zeroValue96 }
open Go.RowKit Go.Sort Go.Lib in
theorem Tryd.internal_strconv_formatBase10 (blk off cap : Nat) (u : Nat) (d : Array UInt8) (w : World) (hH : Holds (fun (b : UInt8) => Value.int .u8 (b.toNat : Int)) w blk off d) (hu : u < 10 ^ d.size) (hu64 : u < 18446744073709551616) (hsz : d.size < 4611686018427387904) :
    Calls Tryd.prog 102 #[.slice (some ⟨blk, off, none⟩) d.size cap, .int .u64 u] w fun e w' =>
      e = .returned (.tuple #[]) ∧ ∃ (n v' : Nat) (dk : Array UInt8), w' = (putRow (fun (b : UInt8) => Value.int .u8 (b.toNat : Int)) w blk off dk).drewN n ∧ FmtInv d.size u 0 v' dk := Any.internal_strconv_formatBase10 Tryd.lays285 blk off cap u d w hH hu hu64 hsz
def Tryd.laysM246_ren : Go.Shelf.Ren := ⟨fun | 246 => 92 | 283 => 100 | 284 => 101 | 285 => 102 | 286 => 103 | 129 => 107 | 317 => 106 | 318 => 108 | 319 => 109 | 320 => 110 | 337 => 111 | 338 => 112 | n => n, fun | 2 => 2 | 3 => 3 | 9 => 9 | 4 => 4 | 171 => 95 | 0 => 0 | 53 => 96 | 37 => 78 | 5 => 5 | 173 => 99 | 212 => 103 | 51 => 104 | 20 => 20 | 213 => 105 | 46 => 107 | 232 => 110 | 233 => 111 | n => n, fun | 17 => 0 | 18 => 1 | 19 => 2 | n => n⟩
theorem Tryd.laysM246 : Go.Proofs.LaysM.n246 Tryd.prog Tryd.laysM246_ren := {
  mixed := by kernel_rfl
  f129 := Tryd.func107.trans (congrArg some (by kernel_rfl))
  f246 := Tryd.func92.trans (congrArg some (by kernel_rfl))
  f283 := Tryd.func100.trans (congrArg some (by kernel_rfl))
  f284 := Tryd.func101.trans (congrArg some (by kernel_rfl))
  f285 := Tryd.func102.trans (congrArg some (by kernel_rfl))
  f286 := Tryd.func103.trans (congrArg some (by kernel_rfl))
  f317 := Tryd.func106.trans (congrArg some (by kernel_rfl))
  f318 := Tryd.func108.trans (congrArg some (by kernel_rfl))
  f319 := Tryd.func109.trans (congrArg some (by kernel_rfl))
  f320 := Tryd.func110.trans (congrArg some (by kernel_rfl))
  f337 := Tryd.func111.trans (congrArg some (by kernel_rfl))
  f338 := Tryd.func112.trans (congrArg some (by kernel_rfl))
  t0 := Tryd.underlying0
  a0 := Tryd.isAgg0
  z0 := Tryd.sizeOf0
  v0 := Tryd.zeroValue0
  t2 := Tryd.underlying2
  a2 := Tryd.isAgg2
  z2 := Tryd.sizeOf2
  v2 := Tryd.zeroValue2
  t3 := Tryd.underlying3
  a3 := Tryd.isAgg3
  z3 := Tryd.sizeOf3
  v3 := Tryd.zeroValue3
  t4 := Tryd.underlying4
  a4 := Tryd.isAgg4
  z4 := Tryd.sizeOf4
  v4 := Tryd.zeroValue4
  t5 := Tryd.underlying5
  a5 := Tryd.isAgg5
  z5 := Tryd.sizeOf5
  v5 := Tryd.zeroValue5
  t9 := Tryd.underlying9
  a9 := Tryd.isAgg9
  z9 := Tryd.sizeOf9
  v9 := Tryd.zeroValue9
  t20 := Tryd.underlying20
  a20 := Tryd.isAgg20
  z20 := Tryd.sizeOf20
  v20 := Tryd.zeroValue20
  t37 := Tryd.underlying78
  a37 := Tryd.isAgg78
  z37 := Tryd.sizeOf78
  v37 := Tryd.zeroValue78
  t46 := Tryd.underlying107
  a46 := Tryd.isAgg107
  z46 := Tryd.sizeOf107
  v46 := Tryd.zeroValue107
  t51 := Tryd.underlying104
  a51 := Tryd.isAgg104
  z51 := Tryd.sizeOf104
  v51 := Tryd.zeroValue104
  t53 := Tryd.underlying96
  a53 := Tryd.isAgg96
  z53 := Tryd.sizeOf96
  v53 := Tryd.zeroValue96
  t171 := Tryd.underlying95
  a171 := Tryd.isAgg95
  z171 := Tryd.sizeOf95
  v171 := Tryd.zeroValue95
  t173 := Tryd.underlying99
  a173 := Tryd.isAgg99
  z173 := Tryd.sizeOf99
  v173 := Tryd.zeroValue99
  t212 := Tryd.underlying103
  a212 := Tryd.isAgg103
  z212 := Tryd.sizeOf103
  v212 := Tryd.zeroValue103
  t213 := Tryd.underlying105
  a213 := Tryd.isAgg105
  z213 := Tryd.sizeOf105
  t232 := Tryd.underlying110
  a232 := Tryd.isAgg110
  z232 := Tryd.sizeOf110
  v232 := Tryd.zeroValue110
  t233 := Tryd.underlying111
  a233 := Tryd.isAgg111
  z233 := Tryd.sizeOf111
  v233 := Tryd.zeroValue111
  g17 := by kernel_rfl
  g18 := by kernel_rfl
  g19 := by kernel_rfl
  i0 := by kernel_rfl
  i2 := by kernel_rfl
  i3 := by kernel_rfl
  i4 := by kernel_rfl
  i5 := by kernel_rfl
  i9 := by kernel_rfl
  i20 := by kernel_rfl
  i37 := by kernel_rfl
  i46 := by kernel_rfl
  i51 := by kernel_rfl
  i53 := by kernel_rfl
  i171 := by kernel_rfl
  i173 := by kernel_rfl
  i212 := by kernel_rfl
  i232 := by kernel_rfl
  i233 := by kernel_rfl
  m17 := by kernel_rfl
  m18 := by kernel_rfl
  m19 := by kernel_rfl }
open Go.RowKit Go.Sort Go.Lib in
theorem Tryd.internal_strconv_FormatInt_10 (n : Int) (h0 : -9223372036854775808 ≤ n) (h1 : n ≤ 9223372036854775807) (w : World) (htab : Lib.TabIs Tryd.prog w "internal/strconv.uint64pow10" .u64 Lib.pow10Tab) :
    Calls Tryd.prog 92 #[.int .i64 n, .int .i64 10] w fun e w' => e = .returned (.string ⟨(Lib.itoa n).toArray⟩) ∧ ∃ k os, w' = grow (w.drewN k) os := Any.internal_strconv_FormatInt_10 Tryd.laysM246 n h0 h1 w htab
def Tryd.lays246_ren : Go.Shelf.Ren := ⟨fun | 246 => 92 | 283 => 100 | 284 => 101 | 285 => 102 | 286 => 103 | 129 => 107 | 317 => 106 | 318 => 108 | 319 => 109 | 320 => 110 | 337 => 111 | 338 => 112 | n => n, fun | 2 => 2 | 3 => 3 | 9 => 9 | 4 => 4 | 171 => 95 | 0 => 0 | 53 => 96 | 37 => 78 | 5 => 5 | 173 => 99 | 212 => 103 | 51 => 104 | 20 => 20 | 213 => 105 | 46 => 107 | 232 => 110 | 233 => 111 | n => n, fun | 17 => 0 | 18 => 1 | 19 => 2 | n => n⟩
theorem Tryd.lays246 : Go.Proofs.Lays.n246 Tryd.prog Tryd.lays246_ren := {
  mixed := by kernel_rfl
  f129 := Tryd.func107.trans (congrArg some (by kernel_rfl))
  f246 := Tryd.func92.trans (congrArg some (by kernel_rfl))
  f283 := Tryd.func100.trans (congrArg some (by kernel_rfl))
  f284 := Tryd.func101.trans (congrArg some (by kernel_rfl))
  f285 := Tryd.func102.trans (congrArg some (by kernel_rfl))
  f286 := Tryd.func103.trans (congrArg some (by kernel_rfl))
  f317 := Tryd.func106.trans (congrArg some (by kernel_rfl))
  f318 := Tryd.func108.trans (congrArg some (by kernel_rfl))
  f319 := Tryd.func109.trans (congrArg some (by kernel_rfl))
  f320 := Tryd.func110.trans (congrArg some (by kernel_rfl))
  f337 := Tryd.func111.trans (congrArg some (by kernel_rfl))
  f338 := Tryd.func112.trans (congrArg some (by kernel_rfl))
  t0 := Tryd.underlying0
  a0 := Tryd.isAgg0
  z0 := Tryd.sizeOf0
  v0 := Tryd.zeroValue0
  t2 := Tryd.underlying2
  a2 := Tryd.isAgg2
  z2 := Tryd.sizeOf2
  v2 := Tryd.zeroValue2
  t3 := Tryd.underlying3
  a3 := Tryd.isAgg3
  z3 := Tryd.sizeOf3
  v3 := Tryd.zeroValue3
  t4 := Tryd.underlying4
  a4 := Tryd.isAgg4
  z4 := Tryd.sizeOf4
  v4 := Tryd.zeroValue4
  t5 := Tryd.underlying5
  a5 := Tryd.isAgg5
  z5 := Tryd.sizeOf5
  v5 := Tryd.zeroValue5
  t9 := Tryd.underlying9
  a9 := Tryd.isAgg9
  z9 := Tryd.sizeOf9
  v9 := Tryd.zeroValue9
  t20 := Tryd.underlying20
  a20 := Tryd.isAgg20
  z20 := Tryd.sizeOf20
  v20 := Tryd.zeroValue20
  t37 := Tryd.underlying78
  a37 := Tryd.isAgg78
  z37 := Tryd.sizeOf78
  v37 := Tryd.zeroValue78
  t46 := Tryd.underlying107
  a46 := Tryd.isAgg107
  z46 := Tryd.sizeOf107
  v46 := Tryd.zeroValue107
  t51 := Tryd.underlying104
  a51 := Tryd.isAgg104
  z51 := Tryd.sizeOf104
  v51 := Tryd.zeroValue104
  t53 := Tryd.underlying96
  a53 := Tryd.isAgg96
  z53 := Tryd.sizeOf96
  v53 := Tryd.zeroValue96
  t171 := Tryd.underlying95
  a171 := Tryd.isAgg95
  z171 := Tryd.sizeOf95
  v171 := Tryd.zeroValue95
  t173 := Tryd.underlying99
  a173 := Tryd.isAgg99
  z173 := Tryd.sizeOf99
  v173 := Tryd.zeroValue99
  t212 := Tryd.underlying103
  a212 := Tryd.isAgg103
  z212 := Tryd.sizeOf103
  v212 := Tryd.zeroValue103
  t213 := Tryd.underlying105
  a213 := Tryd.isAgg105
  z213 := Tryd.sizeOf105
  t232 := Tryd.underlying110
  a232 := Tryd.isAgg110
  z232 := Tryd.sizeOf110
  v232 := Tryd.zeroValue110
  t233 := Tryd.underlying111
  a233 := Tryd.isAgg111
  z233 := Tryd.sizeOf111
  v233 := Tryd.zeroValue111
  g17 := by kernel_rfl
  g18 := by kernel_rfl
  g19 := by kernel_rfl }
open Go.RowKit Go.Sort Go.Lib in
theorem Tryd.internal_strconv_FormatInt_10_small (i : Nat) (hi : i < 100) (w : World) :
    Calls Tryd.prog 92 #[.int .i64 i, .int .i64 10] w fun e w' => e = .returned (.string ⟨(Lib.decDigits i).toArray⟩) ∧ w' = w := Any.internal_strconv_FormatInt_10_small Tryd.lays246 i hi w
def Tryd.laysM243_ren : Go.Shelf.Ren := ⟨fun | 243 => 85 | 246 => 92 | 283 => 100 | 284 => 101 | 285 => 102 | 286 => 103 | 129 => 107 | 317 => 106 | 318 => 108 | 319 => 109 | 320 => 110 | 337 => 111 | 338 => 112 | n => n, fun | 3 => 3 | 9 => 9 | 2 => 2 | 4 => 4 | 171 => 95 | 0 => 0 | 53 => 96 | 37 => 78 | 5 => 5 | 173 => 99 | 212 => 103 | 51 => 104 | 20 => 20 | 213 => 105 | 46 => 107 | 232 => 110 | 233 => 111 | n => n, fun | 17 => 0 | 18 => 1 | 19 => 2 | n => n⟩
theorem Tryd.laysM243 : Go.Proofs.LaysM.n243 Tryd.prog Tryd.laysM243_ren := {
  mixed := by kernel_rfl
  f129 := Tryd.func107.trans (congrArg some (by kernel_rfl))
  f243 := Tryd.func85.trans (congrArg some (by kernel_rfl))
  f246 := Tryd.func92.trans (congrArg some (by kernel_rfl))
  f283 := Tryd.func100.trans (congrArg some (by kernel_rfl))
  f284 := Tryd.func101.trans (congrArg some (by kernel_rfl))
  f285 := Tryd.func102.trans (congrArg some (by kernel_rfl))
  f286 := Tryd.func103.trans (congrArg some (by kernel_rfl))
  f317 := Tryd.func106.trans (congrArg some (by kernel_rfl))
  f318 := Tryd.func108.trans (congrArg some (by kernel_rfl))
  f319 := Tryd.func109.trans (congrArg some (by kernel_rfl))
  f320 := Tryd.func110.trans (congrArg some (by kernel_rfl))
  f337 := Tryd.func111.trans (congrArg some (by kernel_rfl))
  f338 := Tryd.func112.trans (congrArg some (by kernel_rfl))
  t0 := Tryd.underlying0
  a0 := Tryd.isAgg0
  z0 := Tryd.sizeOf0
  v0 := Tryd.zeroValue0
  t2 := Tryd.underlying2
  a2 := Tryd.isAgg2
  z2 := Tryd.sizeOf2
  v2 := Tryd.zeroValue2
  t3 := Tryd.underlying3
  a3 := Tryd.isAgg3
  z3 := Tryd.sizeOf3
  v3 := Tryd.zeroValue3
  t4 := Tryd.underlying4
  a4 := Tryd.isAgg4
  z4 := Tryd.sizeOf4
  v4 := Tryd.zeroValue4
  t5 := Tryd.underlying5
  a5 := Tryd.isAgg5
  z5 := Tryd.sizeOf5
  v5 := Tryd.zeroValue5
  t9 := Tryd.underlying9
  a9 := Tryd.isAgg9
  z9 := Tryd.sizeOf9
  v9 := Tryd.zeroValue9
  t20 := Tryd.underlying20
  a20 := Tryd.isAgg20
  z20 := Tryd.sizeOf20
  v20 := Tryd.zeroValue20
  t37 := Tryd.underlying78
  a37 := Tryd.isAgg78
  z37 := Tryd.sizeOf78
  v37 := Tryd.zeroValue78
  t46 := Tryd.underlying107
  a46 := Tryd.isAgg107
  z46 := Tryd.sizeOf107
  v46 := Tryd.zeroValue107
  t51 := Tryd.underlying104
  a51 := Tryd.isAgg104
  z51 := Tryd.sizeOf104
  v51 := Tryd.zeroValue104
  t53 := Tryd.underlying96
  a53 := Tryd.isAgg96
  z53 := Tryd.sizeOf96
  v53 := Tryd.zeroValue96
  t171 := Tryd.underlying95
  a171 := Tryd.isAgg95
  z171 := Tryd.sizeOf95
  v171 := Tryd.zeroValue95
  t173 := Tryd.underlying99
  a173 := Tryd.isAgg99
  z173 := Tryd.sizeOf99
  v173 := Tryd.zeroValue99
  t212 := Tryd.underlying103
  a212 := Tryd.isAgg103
  z212 := Tryd.sizeOf103
  v212 := Tryd.zeroValue103
  t213 := Tryd.underlying105
  a213 := Tryd.isAgg105
  z213 := Tryd.sizeOf105
  t232 := Tryd.underlying110
  a232 := Tryd.isAgg110
  z232 := Tryd.sizeOf110
  v232 := Tryd.zeroValue110
  t233 := Tryd.underlying111
  a233 := Tryd.isAgg111
  z233 := Tryd.sizeOf111
  v233 := Tryd.zeroValue111
  g17 := by kernel_rfl
  g18 := by kernel_rfl
  g19 := by kernel_rfl
  i0 := by kernel_rfl
  i2 := by kernel_rfl
  i3 := by kernel_rfl
  i4 := by kernel_rfl
  i5 := by kernel_rfl
  i9 := by kernel_rfl
  i20 := by kernel_rfl
  i37 := by kernel_rfl
  i46 := by kernel_rfl
  i51 := by kernel_rfl
  i53 := by kernel_rfl
  i171 := by kernel_rfl
  i173 := by kernel_rfl
  i212 := by kernel_rfl
  i232 := by kernel_rfl
  i233 := by kernel_rfl
  m17 := by kernel_rfl
  m18 := by kernel_rfl
  m19 := by kernel_rfl }
open Go.RowKit Go.Sort Go.Lib in
theorem Tryd.internal_strconv_Itoa (n : Int) (h0 : -9223372036854775808 ≤ n) (h1 : n ≤ 9223372036854775807) (w : World) (htab : Lib.TabIs Tryd.prog w "internal/strconv.uint64pow10" .u64 Lib.pow10Tab) :
    Calls Tryd.prog 85 #[.int .i64 n] w fun e w' => e = .returned (.string ⟨(Lib.itoa n).toArray⟩) ∧ ∃ k os, w' = grow (w.drewN k) os := Any.internal_strconv_Itoa Tryd.laysM243 n h0 h1 w htab
def Tryd.lays243_ren : Go.Shelf.Ren := ⟨fun | 243 => 85 | 246 => 92 | 283 => 100 | 284 => 101 | 285 => 102 | 286 => 103 | 129 => 107 | 317 => 106 | 318 => 108 | 319 => 109 | 320 => 110 | 337 => 111 | 338 => 112 | n => n, fun | 3 => 3 | 9 => 9 | 2 => 2 | 4 => 4 | 171 => 95 | 0 => 0 | 53 => 96 | 37 => 78 | 5 => 5 | 173 => 99 | 212 => 103 | 51 => 104 | 20 => 20 | 213 => 105 | 46 => 107 | 232 => 110 | 233 => 111 | n => n, fun | 17 => 0 | 18 => 1 | 19 => 2 | n => n⟩
theorem Tryd.lays243 : Go.Proofs.Lays.n243 Tryd.prog Tryd.lays243_ren := {
  mixed := by kernel_rfl
  f129 := Tryd.func107.trans (congrArg some (by kernel_rfl))
  f243 := Tryd.func85.trans (congrArg some (by kernel_rfl))
  f246 := Tryd.func92.trans (congrArg some (by kernel_rfl))
  f283 := Tryd.func100.trans (congrArg some (by kernel_rfl))
  f284 := Tryd.func101.trans (congrArg some (by kernel_rfl))
  f285 := Tryd.func102.trans (congrArg some (by kernel_rfl))
  f286 := Tryd.func103.trans (congrArg some (by kernel_rfl))
  f317 := Tryd.func106.trans (congrArg some (by kernel_rfl))
  f318 := Tryd.func108.trans (congrArg some (by kernel_rfl))
  f319 := Tryd.func109.trans (congrArg some (by kernel_rfl))
  f320 := Tryd.func110.trans (congrArg some (by kernel_rfl))
  f337 := Tryd.func111.trans (congrArg some (by kernel_rfl))
  f338 := Tryd.func112.trans (congrArg some (by kernel_rfl))
  t0 := Tryd.underlying0
  a0 := Tryd.isAgg0
  z0 := Tryd.sizeOf0
  v0 := Tryd.zeroValue0
  t2 := Tryd.underlying2
  a2 := Tryd.isAgg2
  z2 := Tryd.sizeOf2
  v2 := Tryd.zeroValue2
  t3 := Tryd.underlying3
  a3 := Tryd.isAgg3
  z3 := Tryd.sizeOf3
  v3 := Tryd.zeroValue3
  t4 := Tryd.underlying4
  a4 := Tryd.isAgg4
  z4 := Tryd.sizeOf4
  v4 := Tryd.zeroValue4
  t5 := Tryd.underlying5
  a5 := Tryd.isAgg5
  z5 := Tryd.sizeOf5
  v5 := Tryd.zeroValue5
  t9 := Tryd.underlying9
  a9 := Tryd.isAgg9
  z9 := Tryd.sizeOf9
  v9 := Tryd.zeroValue9
  t20 := Tryd.underlying20
  a20 := Tryd.isAgg20
  z20 := Tryd.sizeOf20
  v20 := Tryd.zeroValue20
  t37 := Tryd.underlying78
  a37 := Tryd.isAgg78
  z37 := Tryd.sizeOf78
  v37 := Tryd.zeroValue78
  t46 := Tryd.underlying107
  a46 := Tryd.isAgg107
  z46 := Tryd.sizeOf107
  v46 := Tryd.zeroValue107
  t51 := Tryd.underlying104
  a51 := Tryd.isAgg104
  z51 := Tryd.sizeOf104
  v51 := Tryd.zeroValue104
  t53 := Tryd.underlying96
  a53 := Tryd.isAgg96
  z53 := Tryd.sizeOf96
  v53 := Tryd.zeroValue96
  t171 := Tryd.underlying95
  a171 := Tryd.isAgg95
  z171 := Tryd.sizeOf95
  v171 := Tryd.zeroValue95
  t173 := Tryd.underlying99
  a173 := Tryd.isAgg99
  z173 := Tryd.sizeOf99
  v173 := Tryd.zeroValue99
  t212 := Tryd.underlying103
  a212 := Tryd.isAgg103
  z212 := Tryd.sizeOf103
  v212 := Tryd.zeroValue103
  t213 := Tryd.underlying105
  a213 := Tryd.isAgg105
  z213 := Tryd.sizeOf105
  t232 := Tryd.underlying110
  a232 := Tryd.isAgg110
  z232 := Tryd.sizeOf110
  v232 := Tryd.zeroValue110
  t233 := Tryd.underlying111
  a233 := Tryd.isAgg111
  z233 := Tryd.sizeOf111
  v233 := Tryd.zeroValue111
  g17 := by kernel_rfl
  g18 := by kernel_rfl
  g19 := by kernel_rfl }
open Go.RowKit Go.Sort Go.Lib in
theorem Tryd.internal_strconv_Itoa_small (i : Nat) (hi : i < 100) (w : World) :
    Calls Tryd.prog 85 #[.int .i64 i] w fun e w' => e = .returned (.string ⟨(Lib.decDigits i).toArray⟩) ∧ w' = w := Any.internal_strconv_Itoa_small Tryd.lays243 i hi w
def Tryd.laysM171_ren : Go.Shelf.Ren := ⟨fun | 171 => 80 | 243 => 85 | 246 => 92 | 283 => 100 | 284 => 101 | 285 => 102 | 286 => 103 | 129 => 107 | 317 => 106 | 318 => 108 | 319 => 109 | 320 => 110 | 337 => 111 | 338 => 112 | n => n, fun | 3 => 3 | 9 => 9 | 2 => 2 | 4 => 4 | 171 => 95 | 0 => 0 | 53 => 96 | 37 => 78 | 5 => 5 | 173 => 99 | 212 => 103 | 51 => 104 | 20 => 20 | 213 => 105 | 46 => 107 | 232 => 110 | 233 => 111 | n => n, fun | 17 => 0 | 18 => 1 | 19 => 2 | n => n⟩
theorem Tryd.laysM171 : Go.Proofs.LaysM.n171 Tryd.prog Tryd.laysM171_ren := {
  mixed := by kernel_rfl
  f129 := Tryd.func107.trans (congrArg some (by kernel_rfl))
  f171 := Tryd.func80.trans (congrArg some (by kernel_rfl))
  f243 := Tryd.func85.trans (congrArg some (by kernel_rfl))
  f246 := Tryd.func92.trans (congrArg some (by kernel_rfl))
  f283 := Tryd.func100.trans (congrArg some (by kernel_rfl))
  f284 := Tryd.func101.trans (congrArg some (by kernel_rfl))
  f285 := Tryd.func102.trans (congrArg some (by kernel_rfl))
  f286 := Tryd.func103.trans (congrArg some (by kernel_rfl))
  f317 := Tryd.func106.trans (congrArg some (by kernel_rfl))
  f318 := Tryd.func108.trans (congrArg some (by kernel_rfl))
  f319 := Tryd.func109.trans (congrArg some (by kernel_rfl))
  f320 := Tryd.func110.trans (congrArg some (by kernel_rfl))
  f337 := Tryd.func111.trans (congrArg some (by kernel_rfl))
  f338 := Tryd.func112.trans (congrArg some (by kernel_rfl))
  t0 := Tryd.underlying0
  a0 := Tryd.isAgg0
  z0 := Tryd.sizeOf0
  v0 := Tryd.zeroValue0
  t2 := Tryd.underlying2
  a2 := Tryd.isAgg2
  z2 := Tryd.sizeOf2
  v2 := Tryd.zeroValue2
  t3 := Tryd.underlying3
  a3 := Tryd.isAgg3
  z3 := Tryd.sizeOf3
  v3 := Tryd.zeroValue3
  t4 := Tryd.underlying4
  a4 := Tryd.isAgg4
  z4 := Tryd.sizeOf4
  v4 := Tryd.zeroValue4
  t5 := Tryd.underlying5
  a5 := Tryd.isAgg5
  z5 := Tryd.sizeOf5
  v5 := Tryd.zeroValue5
  t9 := Tryd.underlying9
  a9 := Tryd.isAgg9
  z9 := Tryd.sizeOf9
  v9 := Tryd.zeroValue9
  t20 := Tryd.underlying20
  a20 := Tryd.isAgg20
  z20 := Tryd.sizeOf20
  v20 := Tryd.zeroValue20
  t37 := Tryd.underlying78
  a37 := Tryd.isAgg78
  z37 := Tryd.sizeOf78
  v37 := Tryd.zeroValue78
  t46 := Tryd.underlying107
  a46 := Tryd.isAgg107
  z46 := Tryd.sizeOf107
  v46 := Tryd.zeroValue107
  t51 := Tryd.underlying104
  a51 := Tryd.isAgg104
  z51 := Tryd.sizeOf104
  v51 := Tryd.zeroValue104
  t53 := Tryd.underlying96
  a53 := Tryd.isAgg96
  z53 := Tryd.sizeOf96
  v53 := Tryd.zeroValue96
  t171 := Tryd.underlying95
  a171 := Tryd.isAgg95
  z171 := Tryd.sizeOf95
  v171 := Tryd.zeroValue95
  t173 := Tryd.underlying99
  a173 := Tryd.isAgg99
  z173 := Tryd.sizeOf99
  v173 := Tryd.zeroValue99
  t212 := Tryd.underlying103
  a212 := Tryd.isAgg103
  z212 := Tryd.sizeOf103
  v212 := Tryd.zeroValue103
  t213 := Tryd.underlying105
  a213 := Tryd.isAgg105
  z213 := Tryd.sizeOf105
  t232 := Tryd.underlying110
  a232 := Tryd.isAgg110
  z232 := Tryd.sizeOf110
  v232 := Tryd.zeroValue110
  t233 := Tryd.underlying111
  a233 := Tryd.isAgg111
  z233 := Tryd.sizeOf111
  v233 := Tryd.zeroValue111
  g17 := by kernel_rfl
  g18 := by kernel_rfl
  g19 := by kernel_rfl
  i0 := by kernel_rfl
  i2 := by kernel_rfl
  i3 := by kernel_rfl
  i4 := by kernel_rfl
  i5 := by kernel_rfl
  i9 := by kernel_rfl
  i20 := by kernel_rfl
  i37 := by kernel_rfl
  i46 := by kernel_rfl
  i51 := by kernel_rfl
  i53 := by kernel_rfl
  i171 := by kernel_rfl
  i173 := by kernel_rfl
  i212 := by kernel_rfl
  i232 := by kernel_rfl
  i233 := by kernel_rfl
  m17 := by kernel_rfl
  m18 := by kernel_rfl
  m19 := by kernel_rfl }
open Go.RowKit Go.Sort Go.Lib in
theorem Tryd.strconv_Itoa (n : Int) (h0 : -9223372036854775808 ≤ n) (h1 : n ≤ 9223372036854775807) (w : World) (htab : Lib.TabIs Tryd.prog w "internal/strconv.uint64pow10" .u64 Lib.pow10Tab) :
    Calls Tryd.prog 80 #[.int .i64 n] w fun e w' => e = .returned (.string ⟨(Lib.itoa n).toArray⟩) ∧ ∃ k os, w' = grow (w.drewN k) os := Any.strconv_Itoa Tryd.laysM171 n h0 h1 w htab
def Tryd.lays171_ren : Go.Shelf.Ren := ⟨fun | 171 => 80 | 243 => 85 | 246 => 92 | 283 => 100 | 284 => 101 | 285 => 102 | 286 => 103 | 129 => 107 | 317 => 106 | 318 => 108 | 319 => 109 | 320 => 110 | 337 => 111 | 338 => 112 | n => n, fun | 3 => 3 | 9 => 9 | 2 => 2 | 4 => 4 | 171 => 95 | 0 => 0 | 53 => 96 | 37 => 78 | 5 => 5 | 173 => 99 | 212 => 103 | 51 => 104 | 20 => 20 | 213 => 105 | 46 => 107 | 232 => 110 | 233 => 111 | n => n, fun | 17 => 0 | 18 => 1 | 19 => 2 | n => n⟩
theorem Tryd.lays171 : Go.Proofs.Lays.n171 Tryd.prog Tryd.lays171_ren := {
  mixed := by kernel_rfl
  f129 := Tryd.func107.trans (congrArg some (by kernel_rfl))
  f171 := Tryd.func80.trans (congrArg some (by kernel_rfl))
  f243 := Tryd.func85.trans (congrArg some (by kernel_rfl))
  f246 := Tryd.func92.trans (congrArg some (by kernel_rfl))
  f283 := Tryd.func100.trans (congrArg some (by kernel_rfl))
  f284 := Tryd.func101.trans (congrArg some (by kernel_rfl))
  f285 := Tryd.func102.trans (congrArg some (by kernel_rfl))
  f286 := Tryd.func103.trans (congrArg some (by kernel_rfl))
  f317 := Tryd.func106.trans (congrArg some (by kernel_rfl))
  f318 := Tryd.func108.trans (congrArg some (by kernel_rfl))
  f319 := Tryd.func109.trans (congrArg some (by kernel_rfl))
  f320 := Tryd.func110.trans (congrArg some (by kernel_rfl))
  f337 := Tryd.func111.trans (congrArg some (by kernel_rfl))
  f338 := Tryd.func112.trans (congrArg some (by kernel_rfl))
  t0 := Tryd.underlying0
  a0 := Tryd.isAgg0
  z0 := Tryd.sizeOf0
  v0 := Tryd.zeroValue0
  t2 := Tryd.underlying2
  a2 := Tryd.isAgg2
  z2 := Tryd.sizeOf2
  v2 := Tryd.zeroValue2
  t3 := Tryd.underlying3
  a3 := Tryd.isAgg3
  z3 := Tryd.sizeOf3
  v3 := Tryd.zeroValue3
  t4 := Tryd.underlying4
  a4 := Tryd.isAgg4
  z4 := Tryd.sizeOf4
  v4 := Tryd.zeroValue4
  t5 := Tryd.underlying5
  a5 := Tryd.isAgg5
  z5 := Tryd.sizeOf5
  v5 := Tryd.zeroValue5
  t9 := Tryd.underlying9
  a9 := Tryd.isAgg9
  z9 := Tryd.sizeOf9
  v9 := Tryd.zeroValue9
  t20 := Tryd.underlying20
  a20 := Tryd.isAgg20
  z20 := Tryd.sizeOf20
  v20 := Tryd.zeroValue20
  t37 := Tryd.underlying78
  a37 := Tryd.isAgg78
  z37 := Tryd.sizeOf78
  v37 := Tryd.zeroValue78
  t46 := Tryd.underlying107
  a46 := Tryd.isAgg107
  z46 := Tryd.sizeOf107
  v46 := Tryd.zeroValue107
  t51 := Tryd.underlying104
  a51 := Tryd.isAgg104
  z51 := Tryd.sizeOf104
  v51 := Tryd.zeroValue104
  t53 := Tryd.underlying96
  a53 := Tryd.isAgg96
  z53 := Tryd.sizeOf96
  v53 := Tryd.zeroValue96
  t171 := Tryd.underlying95
  a171 := Tryd.isAgg95
  z171 := Tryd.sizeOf95
  v171 := Tryd.zeroValue95
  t173 := Tryd.underlying99
  a173 := Tryd.isAgg99
  z173 := Tryd.sizeOf99
  v173 := Tryd.zeroValue99
  t212 := Tryd.underlying103
  a212 := Tryd.isAgg103
  z212 := Tryd.sizeOf103
  v212 := Tryd.zeroValue103
  t213 := Tryd.underlying105
  a213 := Tryd.isAgg105
  z213 := Tryd.sizeOf105
  t232 := Tryd.underlying110
  a232 := Tryd.isAgg110
  z232 := Tryd.sizeOf110
  v232 := Tryd.zeroValue110
  t233 := Tryd.underlying111
  a233 := Tryd.isAgg111
  z233 := Tryd.sizeOf111
  v233 := Tryd.zeroValue111
  g17 := by kernel_rfl
  g18 := by kernel_rfl
  g19 := by kernel_rfl }
open Go.RowKit Go.Sort Go.Lib in
theorem Tryd.strconv_Itoa_small (i : Nat) (hi : i < 100) (w : World) :
    Calls Tryd.prog 80 #[.int .i64 i] w fun e w' => e = .returned (.string ⟨(Lib.decDigits i).toArray⟩) ∧ w' = w := Any.strconv_Itoa_small Tryd.lays171 i hi w
def Tryd.lays109_ren : Go.Shelf.Ren := ⟨fun | 109 => 105 | n => n, fun | 31 => 24 | 9 => 9 | 3 => 3 | 0 => 0 | 4 => 4 | n => n, fun | n => n⟩
theorem Tryd.lays109 : Go.Proofs.Lays.n109 Tryd.prog Tryd.lays109_ren := {
  mixed := by kernel_rfl
  f109 := Tryd.func105.trans (congrArg some (by kernel_rfl))
  t0 := Tryd.underlying0
  a0 := Tryd.isAgg0
  z0 := Tryd.sizeOf0
  v0 := Tryd.zeroValue0
  t3 := Tryd.underlying3
  a3 := Tryd.isAgg3
  z3 := Tryd.sizeOf3
  v3 := Tryd.zeroValue3
  t4 := Tryd.underlying4
  a4 := Tryd.isAgg4
  z4 := Tryd.sizeOf4
  v4 := Tryd.zeroValue4
  t9 := Tryd.underlying9
  a9 := Tryd.isAgg9
  z9 := Tryd.sizeOf9
  v9 := Tryd.zeroValue9
  t31 := Tryd.underlying24
  a31 := Tryd.isAgg24
  z31 := Tryd.sizeOf24
  v31 := Tryd.zeroValue24 }
open Go.Lib in
theorem Tryd.slices_Index_string (b off n c : Nat) (zs : List ByteArray) (x : ByteArray) (w : World) (hz : n ≤ zs.length) (hbig : n ≤ 9223372036854775807) (hc : ∀ j, j < zs.length → w.cell? ⟨b, off + j, none⟩ = some (.string (zs.getD j ByteArray.empty))) :
    Calls Tryd.prog 105 #[.slice (some ⟨b, off, none⟩) n c, .string x] w fun e w' => e = .returned (.int .i64 (Lib.idxOfS (zs.take n) x)) ∧ w' = w := Any.slices_Index_string Tryd.lays109 b off n c zs x w hz hbig hc
open Go.Lib in
theorem Tryd.slices_Index_string_empty (a : Option Addr) (c : Nat) (x : ByteArray) (w : World) :
    Calls Tryd.prog 105 #[.slice a 0 c, .string x] w fun e w' => e = .returned (.int .i64 (Lib.idxOfS [] x)) ∧ w' = w := Any.slices_Index_string_empty Tryd.lays109 a c x w
def Tryd.lays110_ren : Go.Shelf.Ren := ⟨fun | 110 => 96 | 109 => 105 | n => n, fun | 31 => 24 | 9 => 9 | 4 => 4 | 3 => 3 | 0 => 0 | n => n, fun | n => n⟩
theorem Tryd.lays110 : Go.Proofs.Lays.n110 Tryd.prog Tryd.lays110_ren := {
  mixed := by kernel_rfl
  f109 := Tryd.func105.trans (congrArg some (by kernel_rfl))
  f110 := Tryd.func96.trans (congrArg some (by kernel_rfl))
  t0 := Tryd.underlying0
  a0 := Tryd.isAgg0
  z0 := Tryd.sizeOf0
  v0 := Tryd.zeroValue0
  t3 := Tryd.underlying3
  a3 := Tryd.isAgg3
  z3 := Tryd.sizeOf3
  v3 := Tryd.zeroValue3
  t4 := Tryd.underlying4
  a4 := Tryd.isAgg4
  z4 := Tryd.sizeOf4
  v4 := Tryd.zeroValue4
  t9 := Tryd.underlying9
  a9 := Tryd.isAgg9
  z9 := Tryd.sizeOf9
  v9 := Tryd.zeroValue9
  t31 := Tryd.underlying24
  a31 := Tryd.isAgg24
  z31 := Tryd.sizeOf24
  v31 := Tryd.zeroValue24 }
open Go.Lib in
theorem Tryd.slices_Contains_string (b off n c : Nat) (zs : List ByteArray) (x : ByteArray) (w : World) (hz : n ≤ zs.length) (hbig : n ≤ 9223372036854775807) (hc : ∀ j, j < zs.length → w.cell? ⟨b, off + j, none⟩ = some (.string (zs.getD j ByteArray.empty))) :
    Calls Tryd.prog 96 #[.slice (some ⟨b, off, none⟩) n c, .string x] w fun e w' => e = .returned (.bool (Lib.containsS (zs.take n) x)) ∧ w' = w := Any.slices_Contains_string Tryd.lays110 b off n c zs x w hz hbig hc
open Go.Lib in
theorem Tryd.slices_Contains_string_empty (a : Option Addr) (c : Nat) (x : ByteArray) (w : World) :
    Calls Tryd.prog 96 #[.slice a 0 c, .string x] w fun e w' => e = .returned (.bool false) ∧ w' = w := Any.slices_Contains_string_empty Tryd.lays110 a c x w
def Tryd.lays193_ren : Go.Shelf.Ren := ⟨fun | 193 => 55 | n => n, fun | 31 => 24 | 9 => 9 | 4 => 4 | 3 => 3 | 0 => 0 | n => n, fun | n => n⟩
theorem Tryd.lays193 : Go.Proofs.Lays.n193 Tryd.prog Tryd.lays193_ren := {
  mixed := by kernel_rfl
  f193 := Tryd.func55.trans (congrArg some (by kernel_rfl))
  t0 := Tryd.underlying0
  a0 := Tryd.isAgg0
  z0 := Tryd.sizeOf0
  v0 := Tryd.zeroValue0
  t3 := Tryd.underlying3
  a3 := Tryd.isAgg3
  z3 := Tryd.sizeOf3
  v3 := Tryd.zeroValue3
  t4 := Tryd.underlying4
  a4 := Tryd.isAgg4
  z4 := Tryd.sizeOf4
  v4 := Tryd.zeroValue4
  t9 := Tryd.underlying9
  a9 := Tryd.isAgg9
  z9 := Tryd.sizeOf9
  v9 := Tryd.zeroValue9
  t31 := Tryd.underlying24
  a31 := Tryd.isAgg24
  z31 := Tryd.sizeOf24
  v31 := Tryd.zeroValue24 }
open Go.RowKit Go.Lib in
theorem Tryd.slices_Equal_string (b1 o1 n c b2 o2 m d : Nat) (xs ys : List ByteArray) (w : World) (hx : n ≤ xs.length) (hy : m ≤ ys.length) (hbig : n ≤ 9223372036854775807) (hbig2 : m ≤ 9223372036854775807) (hc1 : ∀ j, j < xs.length → w.cell? ⟨b1, o1 + j, none⟩ = some (.string (xs.getD j ByteArray.empty))) (hc2 : ∀ j, j < ys.length → w.cell? ⟨b2, o2 + j, none⟩ = some (.string (ys.getD j ByteArray.empty))) :
    Calls Tryd.prog 55 #[.slice (some ⟨b1, o1, none⟩) n c, .slice (some ⟨b2, o2, none⟩) m d] w fun e w' => e = .returned (.bool (decide (xs.take n = ys.take m))) ∧ ∃ q, w' = w.drewN q := Any.slices_Equal_string Tryd.lays193 b1 o1 n c b2 o2 m d xs ys w hx hy hbig hbig2 hc1 hc2
open Go.RowKit Go.Lib in
theorem Tryd.slices_Equal_string_empty (a1 a2 : Option Addr) (c m d : Nat) (w : World) (hbig2 : m ≤ 9223372036854775807) :
    Calls Tryd.prog 55 #[.slice a1 0 c, .slice a2 m d] w fun e w' => e = .returned (.bool (decide (m = 0))) ∧ w' = w := Any.slices_Equal_string_empty Tryd.lays193 a1 a2 c m d w hbig2
open Go.RowKit Go.Lib in
theorem Tryd.slices_Equal_string_lens (a1 a2 : Option Addr) (n c m d : Nat) (w : World) (hnm : n ≠ m) :
    Calls Tryd.prog 55 #[.slice a1 n c, .slice a2 m d] w fun e w' => e = .returned (.bool false) ∧ w' = w := Any.slices_Equal_string_lens Tryd.lays193 a1 a2 n c m d w hnm
end Go.Proofs

/- The text of an integer: the program's function. -/
namespace Go.Proofs.YtddebgmjolojeaaDoor
set_option maxRecDepth 100000
open Go.RowKit

theorem implFmt (n : Int) (w : World) (h0 : -9223372036854775808 ≤ n) (h1 : n ≤ 9223372036854775807) (htab : Lib.TabIs Tryd.prog w "internal/strconv.uint64pow10" .u64 Lib.pow10Tab) :
    Calls Tryd.prog 67 #[.int .i64 n] w fun e w' => e = .returned (.string ⟨(Lib.itoa n).toArray⟩) ∧ Below w.heap.size w w' := by
  have H := Lib.hid htab
  clear htab
  go_enter Tryd.func67, Tryd.ntmps67
  go_wp2_with fail
  refine (Tryd.strconv_Itoa n h0 h1 _ H.out).mono ?_
  rintro e w1 ⟨rfl, k, os, rfl⟩
  go_wp2_with fail
  go_ret
  exact ⟨rfl, Lib.below_grow _ w (Nat.le_refl _) k os⟩
end Go.Proofs.YtddebgmjolojeaaDoor

/- What the listed package-level variables give: the table of powers of ten, and the two errors of strconv. -/
namespace Go.Proofs.YtddebgmjolojeaaDoor
set_option maxRecDepth 100000
open Go.RowKit Go.ChangeShapes

theorem gPow : Tryd.prog.globalNamed "internal/strconv.uint64pow10" = some 0 := by kernel_rfl
theorem gPowType : (Tryd.prog.globals[0]?).map (·.type) = some 103 := by kernel_rfl
theorem cellsTab : Tryd.prog.cellsOf 103 = 20 := by kernel_rfl
theorem cellsU64 : Tryd.prog.cellsOf 96 = 1 := by kernel_rfl
theorem powData : (Rows.laid_internal_strconv_uint64pow10 : DataW Unit) = Lib.tabData .u64 Lib.pow10Tab := by kernel_rfl
theorem var_lt {P : Program} {W : World} {n : String} {g : Nat} {cs : Array Value} (hg : P.globalNamed n = some g) (h : W.var? P n = some cs) : g < W.heap.size := by
  unfold World.var? at h
  simp only [hg, Option.bind_some] at h
  rcases Nat.lt_or_ge g W.heap.size with h' | h'
  · exact h'
  · simp [Array.getElem?_eq_none h'] at h
theorem tab_below {w w1 : World} (h : Lib.TabIs Tryd.prog w "internal/strconv.uint64pow10" .u64 Lib.pow10Tab) (hb : Below w.heap.size w w1) : Lib.TabIs Tryd.prog w1 "internal/strconv.uint64pow10" .u64 Lib.pow10Tab := var?_below hb gPow (var_lt gPow h) h
end Go.Proofs.YtddebgmjolojeaaDoor

/- FormatNumber: the program's and the reference's. -/
namespace Go.Proofs.YtddebgmjolojeaaDoor
set_option maxRecDepth 100000
open Go.RowKit
set_option linter.unusedVariables false

/-- The text of an item. -/
def txI (x : It) : ByteArray := if x.n = 0 ∧ x.d = 0 ∧ x.t.size = 0 then ⟨#[78, 65]⟩ else if isN x then (if x.d = 1 then ⟨(Lib.itoa x.n).toArray⟩ else ⟨(Lib.itoa x.n).toArray⟩ ++ ⟨#[47]⟩ ++ ⟨(Lib.itoa x.d).toArray⟩) else ⟨#[]⟩
theorem tx_no {n d : Int} (h : n = 0) (k : d = 0) : txI ⟨n, d, ⟨#[]⟩⟩ = ⟨#[78, 65]⟩ := by unfold txI; rw [if_pos ⟨h, k, rfl⟩]
theorem tx_bad {x : It} (h : isN x = false) (k : ¬ (x.n = 0 ∧ x.d = 0 ∧ x.t.size = 0)) : txI x = ⟨#[]⟩ := by unfold txI; rw [if_neg k, h]; rfl
theorem tx_one {x : It} (h : isN x = true) (k : x.d = 1) : txI x = ⟨(Lib.itoa x.n).toArray⟩ := by
  have := isN_iff.1 h
  unfold txI; rw [if_neg (by omega), if_pos h, if_pos k]
theorem tx_two {x : It} (h : isN x = true) (k : x.d ≠ 1) : txI x = ⟨(Lib.itoa x.n).toArray⟩ ++ ⟨#[47]⟩ ++ ⟨(Lib.itoa x.d).toArray⟩ := by
  have := isN_iff.1 h
  unfold txI; rw [if_neg (by omega), if_pos h, if_neg k]
theorem itoa_small (n : Int) (h0 : -9223372036854775808 ≤ n) (h1 : n ≤ 9223372036854775807) : (⟨(Lib.itoa n).toArray⟩ : ByteArray).size ≤ 21 := by
  have := Lib.itoa_length_le n (by omega) (by omega)
  exact this
theorem tab_step {W W' w1 : World} (h : Lib.TabIs Tryd.prog W "internal/strconv.uint64pow10" .u64 Lib.pow10Tab) (s : Step W W') (hb : Below W'.heap.size W' w1) : Lib.TabIs Tryd.prog w1 "internal/strconv.uint64pow10" .u64 Lib.pow10Tab :=
  tab_below (tab_below h s.below) hb
theorem ret_tx {a b : ByteArray} (h : a = b) : Ending.returned (.string a) = .returned (.string b) := by rw [h]
theorem empty_of {t : ByteArray} (h : ¬ t.size = 0) : t.toList.isEmpty = false := by
  cases k : t.toList with
  | nil => rw [ByteArray.toList_eq] at k; exact absurd (show t.data.toList.length = 0 by rw [k]; rfl) h
  | cons _ _ => rfl

set_option maxHeartbeats 4000000 in
theorem implTxI (n d : Int) (t : ByteArray) (w : World) (ht : t.size ≤ 9223372036854775807) (tab : Lib.TabIs Tryd.prog w "internal/strconv.uint64pow10" .u64 Lib.pow10Tab) :
    Calls Tryd.prog 79 #[.agg #[.int .i64 n, .int .i64 d, .string t]] w fun e w' => e = .returned (.string (txI ⟨n, d, t⟩)) ∧ Below w.heap.size w w' := by
  have TB := Lib.hid tab
  clear tab
  cases h : isN ⟨n, d, t⟩
  · have N := Lib.hid h
    by_cases t0 : t.size = 0
    · obtain rfl := empty_of_size t0
      clear t0
      by_cases n0 : n = 0
      · by_cases d0 : d = 0
        · subst n0 d0
          have X := Lib.hid (tx_no (n := 0) (d := 0) rfl rfl)
          clear h
          go_enter Tryd.func79, Tryd.ntmps79
          go_wp2
          go_ret
          exact ⟨ret_tx X.out.symm, below1 w _⟩
        · have X := Lib.hid (tx_bad h (by simp only; omega))
          subst n0
          clear h
          go_enter Tryd.func79, Tryd.ntmps79
          go_wp2_with fail
          refine (implNumNo 0 d ⟨#[]⟩ _ ht N.out).mono ?_
          rintro e w1 ⟨rfl, hb⟩
          obtain ⟨hc, hf⟩ := bcell hb
          have B1 := Lib.hid (below_then (below1 w _) hb)
          clear hb
          go_wp2
          go_ret
          exact ⟨ret_tx X.out.symm, B1.out⟩
      · have X := Lib.hid (tx_bad h (by simp only; omega))
        clear h
        go_enter Tryd.func79, Tryd.ntmps79
        go_wp2_with fail
        refine (implNumNo n d ⟨#[]⟩ _ ht N.out).mono ?_
        rintro e w1 ⟨rfl, hb⟩
        obtain ⟨hc, hf⟩ := bcell hb
        have B1 := Lib.hid (below_then (below1 w _) hb)
        clear hb
        go_wp2
        go_ret
        exact ⟨ret_tx X.out.symm, B1.out⟩
    · have X := Lib.hid (tx_bad h (by simp only; omega))
      have e1 := empty_of t0
      clear h t0
      by_cases n0 : n = 0
      · by_cases d0 : d = 0
        · subst n0 d0
          go_enter Tryd.func79, Tryd.ntmps79
          go_wp2_with fail
          refine (implNumNo 0 0 t _ ht N.out).mono ?_
          rintro e w1 ⟨rfl, hb⟩
          obtain ⟨hc, hf⟩ := bcell hb
          have B1 := Lib.hid (below_then (below1 w _) hb)
          clear hb
          go_wp2
          go_ret
          exact ⟨ret_tx X.out.symm, B1.out⟩
        · subst n0
          go_enter Tryd.func79, Tryd.ntmps79
          go_wp2_with fail
          refine (implNumNo 0 d t _ ht N.out).mono ?_
          rintro e w1 ⟨rfl, hb⟩
          obtain ⟨hc, hf⟩ := bcell hb
          have B1 := Lib.hid (below_then (below1 w _) hb)
          clear hb
          go_wp2
          go_ret
          exact ⟨ret_tx X.out.symm, B1.out⟩
      · go_enter Tryd.func79, Tryd.ntmps79
        go_wp2_with fail
        refine (implNumNo n d t _ ht N.out).mono ?_
        rintro e w1 ⟨rfl, hb⟩
        obtain ⟨hc, hf⟩ := bcell hb
        have B1 := Lib.hid (below_then (below1 w _) hb)
        clear hb
        go_wp2
        go_ret
        exact ⟨ret_tx X.out.symm, B1.out⟩
  · have N := Lib.hid h
    obtain ⟨q0, q1, q2, q3, q4, _⟩ := isN_iff.1 h
    dsimp only at q0 q1 q2 q3 q4
    subst q0
    by_cases d1 : d = 1
    · have X := Lib.hid (tx_one h d1)
      subst d1
      clear h
      go_enter Tryd.func79, Tryd.ntmps79
      go_wp2_with fail
      refine (implNumYes n 1 ⟨#[]⟩ _ ht N.out).mono ?_
      rintro e w1 ⟨rfl, hb⟩
      obtain ⟨hc, hf⟩ := bcell hb
      have B1 := Lib.hid (below_then (below1 w _) hb)
      clear hb
      go_wp2_with fail
      refine (implFmt n _ (by omega) (by omega) (tab_below TB.out B1.out)).mono ?_
      rintro e w2 ⟨rfl, hb⟩
      have B2 := Lib.hid (below_then B1.out hb)
      clear hb
      go_wp2
      go_ret
      exact ⟨ret_tx X.out.symm, B2.out⟩
    · have X := Lib.hid (tx_two h d1)
      clear h
      have L1 := itoa_small n (by omega) (by omega)
      have L2 := itoa_small d (by omega) (by omega)
      obtain ⟨A, hA⟩ : ∃ A : ByteArray, ⟨(Lib.itoa n).toArray⟩ = A := ⟨_, rfl⟩
      obtain ⟨D, hD⟩ : ∃ D : ByteArray, ⟨(Lib.itoa d).toArray⟩ = D := ⟨_, rfl⟩
      have CA : Hid (∀ W, Lib.TabIs Tryd.prog W "internal/strconv.uint64pow10" .u64 Lib.pow10Tab → Calls Tryd.prog 67 #[.int .i64 n] W fun e w' => e = .returned (.string A) ∧ Below W.heap.size W w') := by
        refine Lib.hid ?_
        intro W tw
        rw [← hA]
        exact implFmt n W (by omega) (by omega) tw
      have CD : Hid (∀ W, Lib.TabIs Tryd.prog W "internal/strconv.uint64pow10" .u64 Lib.pow10Tab → Calls Tryd.prog 67 #[.int .i64 d] W fun e w' => e = .returned (.string D) ∧ Below W.heap.size W w') := by
        refine Lib.hid ?_
        intro W tw
        rw [← hD]
        exact implFmt d W (by omega) (by omega) tw
      rw [hA] at L1
      rw [hD] at L2
      have K1 : ¬ 9223372036854775807 < A.size + 1 := by omega
      have K2 : ¬ 9223372036854775806 < A.size := by omega
      have K3 : ¬ 9223372036854775807 < A.size + 1 + D.size := by omega
      have K4 : A.size + 1 ≤ 9223372036854775807 := by omega
      have K5 : A.size ≤ 9223372036854775806 := by omega
      have K6 : A.size + 1 + D.size ≤ 9223372036854775807 := by omega
      simp only [hA, hD] at X
      clear hA hD
      go_enter Tryd.func79, Tryd.ntmps79
      go_wp2_with fail
      refine (implNumYes n d ⟨#[]⟩ _ ht N.out).mono ?_
      rintro e w1 ⟨rfl, hb⟩
      obtain ⟨hc, hf⟩ := bcell hb
      have B1 := Lib.hid (below_then (below1 w _) hb)
      have GX := Lib.hid (blk_below (g := w.heap.size) hb (blk_new _ _ rfl))
      have BS := Lib.hid (Below.refl w1.heap.size w1)
      have TS := Lib.hid (tab_below TB.out B1.out)
      clear hb
      go_wp2_with fail
      clear hc hf
      go_region_held3 (fun w' => w'.cell? ⟨w.heap.size, 0, none⟩ = some (.int .i64 n) ∧ w'.cell? ⟨w.heap.size, 1, none⟩ = some (.int .i64 d) ∧ w'.cell? ⟨w.heap.size, 2, none⟩ = some (.string ⟨#[]⟩)) (first | with_reducible exact (three (blk_drew GX.out)).1 | with_reducible exact (three GX.out).1) (first | (go_at_call_of 67 (Value.int IntKind.i64 n); refine (CA.out _ (tab_below TS.out (Step.below (by first | with_reducible exact .same | with_reducible exact .drew)))).mono ?_; rintro e w2 ⟨rfl, hb⟩; have GX := Lib.hid (blk_step hb (by first | with_reducible exact .same | with_reducible exact .drew) GX.out); have TS := Lib.hid (tab_step TS.out (by first | with_reducible exact .same | with_reducible exact .drew) hb); have BS := Lib.hid (below_step BS.out (by first | with_reducible exact .same | with_reducible exact .drew) hb BS.out.size); have hs := BS.out.size; clear hb) | (go_at_call_of 67 (Value.int IntKind.i64 d); refine (CD.out _ (tab_below TS.out (Step.below (by first | with_reducible exact .same | with_reducible exact .drew)))).mono ?_; rintro e w3 ⟨rfl, hb⟩; have GX := Lib.hid (blk_step hb (by first | with_reducible exact .same | with_reducible exact .drew) GX.out); have TS := Lib.hid (tab_step TS.out (by first | with_reducible exact .same | with_reducible exact .drew) hb); have BS := Lib.hid (below_step BS.out (by first | with_reducible exact .same | with_reducible exact .drew) hb BS.out.size); have hs := BS.out.size; clear hb))
      all_goals
        go_wp2
        go_ret
        first | exact ⟨ret_tx X.out.symm, below_then B1.out BS.out⟩ | exact ⟨ret_tx X.out.symm, below_drew' B1.out⟩

set_option maxHeartbeats 4000000 in
theorem specTxI (n d : Int) (t : ByteArray) (w : World) (ht : t.size ≤ 9223372036854775807) :
    Calls Tryd.prog 74 #[.agg #[.int .i64 n, .int .i64 d, .string t]] w fun e w' => e = .returned (.string (txI ⟨n, d, t⟩)) ∧ Below w.heap.size w w' := by
  cases h : isN ⟨n, d, t⟩
  · have N := Lib.hid h
    by_cases t0 : t.size = 0
    · obtain rfl := empty_of_size t0
      clear t0
      by_cases n0 : n = 0
      · by_cases d0 : d = 0
        · subst n0 d0
          have X := Lib.hid (tx_no (n := 0) (d := 0) rfl rfl)
          clear h
          go_enter Tryd.func74, Tryd.ntmps74
          go_wp2
          go_ret
          exact ⟨ret_tx X.out.symm, below1 w _⟩
        · have X := Lib.hid (tx_bad h (by simp only; omega))
          subst n0
          clear h
          go_enter Tryd.func74, Tryd.ntmps74
          go_wp2_with fail
          refine (specNumNo 0 d ⟨#[]⟩ _ ht N.out).mono ?_
          rintro e w1 ⟨rfl, hb⟩
          obtain ⟨hc, hf⟩ := bcell hb
          have B1 := Lib.hid (below_then (below1 w _) hb)
          clear hb
          go_wp2
          go_ret
          exact ⟨ret_tx X.out.symm, B1.out⟩
      · have X := Lib.hid (tx_bad h (by simp only; omega))
        clear h
        go_enter Tryd.func74, Tryd.ntmps74
        go_wp2_with fail
        refine (specNumNo n d ⟨#[]⟩ _ ht N.out).mono ?_
        rintro e w1 ⟨rfl, hb⟩
        obtain ⟨hc, hf⟩ := bcell hb
        have B1 := Lib.hid (below_then (below1 w _) hb)
        clear hb
        go_wp2
        go_ret
        exact ⟨ret_tx X.out.symm, B1.out⟩
    · have X := Lib.hid (tx_bad h (by simp only; omega))
      have e1 := empty_of t0
      clear h t0
      by_cases n0 : n = 0
      · by_cases d0 : d = 0
        · subst n0 d0
          go_enter Tryd.func74, Tryd.ntmps74
          go_wp2_with fail
          refine (specNumNo 0 0 t _ ht N.out).mono ?_
          rintro e w1 ⟨rfl, hb⟩
          obtain ⟨hc, hf⟩ := bcell hb
          have B1 := Lib.hid (below_then (below1 w _) hb)
          clear hb
          go_wp2
          go_ret
          exact ⟨ret_tx X.out.symm, B1.out⟩
        · subst n0
          go_enter Tryd.func74, Tryd.ntmps74
          go_wp2_with fail
          refine (specNumNo 0 d t _ ht N.out).mono ?_
          rintro e w1 ⟨rfl, hb⟩
          obtain ⟨hc, hf⟩ := bcell hb
          have B1 := Lib.hid (below_then (below1 w _) hb)
          clear hb
          go_wp2
          go_ret
          exact ⟨ret_tx X.out.symm, B1.out⟩
      · go_enter Tryd.func74, Tryd.ntmps74
        go_wp2_with fail
        refine (specNumNo n d t _ ht N.out).mono ?_
        rintro e w1 ⟨rfl, hb⟩
        obtain ⟨hc, hf⟩ := bcell hb
        have B1 := Lib.hid (below_then (below1 w _) hb)
        clear hb
        go_wp2
        go_ret
        exact ⟨ret_tx X.out.symm, B1.out⟩
  · have N := Lib.hid h
    obtain ⟨q0, q1, q2, q3, q4, _⟩ := isN_iff.1 h
    dsimp only at q0 q1 q2 q3 q4
    subst q0
    by_cases d1 : d = 1
    · have X := Lib.hid (tx_one h d1)
      subst d1
      clear h
      go_enter Tryd.func74, Tryd.ntmps74
      go_wp2_with fail
      refine (specNumYes n 1 ⟨#[]⟩ _ ht N.out).mono ?_
      rintro e w1 ⟨rfl, hb⟩
      obtain ⟨hc, hf⟩ := bcell hb
      have B1 := Lib.hid (below_then (below1 w _) hb)
      clear hb
      go_wp2_with fail
      refine (specFmt n _ (by omega) (by omega)).mono ?_
      rintro e w2 ⟨rfl, rfl⟩
      go_wp2
      go_ret
      exact ⟨ret_tx X.out.symm, B1.out⟩
    · have X := Lib.hid (tx_two h d1)
      clear h
      have L1 := itoa_small n (by omega) (by omega)
      have L2 := itoa_small d (by omega) (by omega)
      obtain ⟨A, hA⟩ : ∃ A : ByteArray, ⟨(Lib.itoa n).toArray⟩ = A := ⟨_, rfl⟩
      obtain ⟨D, hD⟩ : ∃ D : ByteArray, ⟨(Lib.itoa d).toArray⟩ = D := ⟨_, rfl⟩
      have CA : Hid (∀ W, Calls Tryd.prog 64 #[.int .i64 n] W fun e w' => e = .returned (.string A) ∧ W = w') := by
        refine Lib.hid ?_
        intro W 
        rw [← hA]
        exact specFmt n W (by omega) (by omega) 
      have CD : Hid (∀ W, Calls Tryd.prog 64 #[.int .i64 d] W fun e w' => e = .returned (.string D) ∧ W = w') := by
        refine Lib.hid ?_
        intro W 
        rw [← hD]
        exact specFmt d W (by omega) (by omega) 
      rw [hA] at L1
      rw [hD] at L2
      have K1 : ¬ 9223372036854775807 < A.size + 1 := by omega
      have K2 : ¬ 9223372036854775806 < A.size := by omega
      have K3 : ¬ 9223372036854775807 < A.size + 1 + D.size := by omega
      have K4 : A.size + 1 ≤ 9223372036854775807 := by omega
      have K5 : A.size ≤ 9223372036854775806 := by omega
      have K6 : A.size + 1 + D.size ≤ 9223372036854775807 := by omega
      simp only [hA, hD] at X
      clear hA hD
      go_enter Tryd.func74, Tryd.ntmps74
      go_wp2_with fail
      refine (specNumYes n d ⟨#[]⟩ _ ht N.out).mono ?_
      rintro e w1 ⟨rfl, hb⟩
      obtain ⟨hc, hf⟩ := bcell hb
      have B1 := Lib.hid (below_then (below1 w _) hb)
      have GX := Lib.hid (blk_below (g := w.heap.size) hb (blk_new _ _ rfl))
      have BS := Lib.hid (Below.refl w1.heap.size w1)
      clear hb
      go_wp2_with fail
      clear hc hf
      go_region_held3 (fun w' => w'.cell? ⟨w.heap.size, 0, none⟩ = some (.int .i64 n) ∧ w'.cell? ⟨w.heap.size, 1, none⟩ = some (.int .i64 d) ∧ w'.cell? ⟨w.heap.size, 2, none⟩ = some (.string ⟨#[]⟩)) (first | with_reducible exact (three (blk_drew GX.out)).1 | with_reducible exact (three GX.out).1) (first | (go_at_call_of 64 (Value.int IntKind.i64 n); refine (CA.out _).mono ?_; rintro e w2 ⟨rfl, rfl⟩) | (go_at_call_of 64 (Value.int IntKind.i64 d); refine (CD.out _).mono ?_; rintro e w3 ⟨rfl, rfl⟩))
      all_goals
        go_wp2
        go_ret
        first | exact ⟨ret_tx X.out.symm, below_then B1.out BS.out⟩ | exact ⟨ret_tx X.out.symm, below_drew' B1.out⟩
end Go.Proofs.YtddebgmjolojeaaDoor

/- Functions that return a vector and a text. -/
namespace Go.Proofs.YtddebgmjolojeaaDoor
open Go.RowKit
set_option maxRecDepth 100000
set_option linter.unusedVariables false

/-- A vector that lies in the result's block as it was made, and a text. -/
theorem vec_ret0S {fn : Func} {R : Ending → World → Prop} {act : Act} {w : World} {g : Nat} {p q : Tmp} {a b c d e f h i s : Value} {t : TypeId} {fr : Nat × Nat}
    (hfn : fn.results = #[.cell p 31, .tmp q]) (hp : act.tmps.getD p undef = .pointer (some ⟨g, 0, none⟩)) (hq : act.tmps.getD q undef = s) (hd : act.defers = []) (hg : w.heap[g]? = some (.cells #[a, b, c, d, e, f, h, i] t fr))
    (hR : R (.returned (.tuple #[.agg #[a, b, c, d, e, f, h, i], s])) w) : bodyPost Tryd.prog fn R .ret act w :=
  bodyPost_ret (by
    have e1 := run_loadVar_row (P := Tryd.prog) w g t 31 #[a, b, c, d, e, f, h, i] fr _ hg Tryd.underlying31 rfl infoVec
    rw [results_cell_tmp hfn, hp, hq]
    show ((loadVar 31 ⟨g, 0, none⟩).run Tryd.prog w).andThen _ = _
    rw [e1]; rfl) hd hR
theorem vec_endS {fn : Func} {R : Ending → World → Prop} {act : Act} {w : World} {g : Nat} {p q : Tmp} {s z0 z1 z2 z3 z4 z5 z6 z7 c0 c1 c2 c3 c4 c5 c6 c7 : Value} {t : TypeId}
    (hfn : fn.results = #[.cell p 31, .tmp q]) (hp : act.tmps.getD p undef = .pointer (some ⟨g, 0, none⟩)) (hq : act.tmps.getD q undef = s) (hd : act.defers = []) (hg : w.heap[g]? = some (.cells #[z0, z1, z2, z3, z4, z5, z6, z7] t (0, 0)))
    (hR : R (.returned (.tuple #[.agg #[c0, c1, c2, c3, c4, c5, c6, c7], s])) (put8 w g 0 c0 c1 c2 c3 c4 c5 c6 c7)) :
    bodyPost Tryd.prog fn R .ret act ((((((((w.setCell ⟨g, 0, none⟩ c0).setCell ⟨g, 1, none⟩ c1).setCell ⟨g, 2, none⟩ c2).setCell ⟨g, 3, none⟩ c3).setCell ⟨g, 4, none⟩ c4).setCell ⟨g, 5, none⟩ c5).setCell ⟨g, 6, none⟩ c6).setCell ⟨g, 7, none⟩ c7) :=
  vec_ret0S hfn hp hq hd (put8_lit hg) hR
theorem ResV.withS {d : Nat} {V : Vec} {w : World} {y : Value} {w' : World} {s : ByteArray} (h : ResV d V w (.returned y) w') : ResVS d V s w (.returned (.tuple #[y, .string s])) w' := by
  obtain ⟨z, e, r⟩ := h
  cases e
  exact ⟨_, rfl, r⟩
/-- "result is too large" -/
def bigB : ByteArray := ⟨#[114, 101, 115, 117, 108, 116, 32, 105, 115, 32, 116, 111, 111, 32, 108, 97, 114, 103, 101]⟩
theorem zeroS (s : ByteArray) (w w' : World) (hb : Below w.heap.size w w') : ResVS 1 noV s w (.returned (.tuple #[.agg #[.int .i64 0, .slice none 0 0, .slice none 0 0, .slice none 0 0, .slice none 0 0, .slice none 0 0, .int .i64 0, .int .i64 0], .string s])) w' := ⟨_, rfl, own_zero _ _ _, hb⟩
section
variable {P : Program} {ops : Array Oper} {Q : Exit → Act → World → Prop} {S : World → Prop}
variable {r : List (Nat × Bool)} {a : Act} {e : List (Nat × Value)} {w : World} {i d : Nat} {g : Option (Nat × Bool)} {v : Value}
theorem run_add {x y : Operand} {t t' : TypeId} {k : IntKind} {p q z : Int} (ho : opAt ops i = some (some d, .binOp .add t x y t', g)) (hd : Nat.blt d a.tmps.size = true)
    (hw : wantE ops a e g = some true) (hx : lookO a e x = .int k p) (hy : lookO a e y = .int k q) (hz : k.wrap (p + q) = z)
    (h : RunE P ops Q S r a ((d, .int k z) :: e) w) : RunE P ops Q S ((i, true) :: r) a e w :=
  run_yield ho hd hw (fun o w' h1 _ => by
    unfold execOp; rw [h1]; simp only [hx, hy]; subst hz
    simp [eqGuard, binOp, Op.intArith, go_sem] <;> rfl) h
end
end Go.Proofs.YtddebgmjolojeaaDoor

/- A list of texts copied by append: what lies in the new block. -/
namespace Go.Proofs.YtddebgmjolojeaaDoor
open Go.RowKit
set_option maxRecDepth 100000
set_option linter.unusedVariables false

/-- A row of the call's own that holds the texts of l. -/
theorem own_of_row {w : World} {B : Nat} {v : Value} {l : List ByteArray} (hpos : 0 < l.length) (h : w.ownsRow B 9 1 v l.length (l.map Value.string)) :
    ∃ g c, v = .slice (some ⟨g, 0, none⟩) l.length c ∧ OwnTxs w (some ⟨g, 0, none⟩) l [g] ∧ B ≤ g ∧ g < w.heap.size ∧ l.length ≤ c := by
  obtain ⟨_, h⟩ := h
  rcases h with ⟨_, h0⟩ | ⟨g, cap, cur, rfl, hB, hg, hc, _, hs, ht⟩
  · omega
  · refine ⟨g, cap, rfl, .inr ⟨g, cur, rfl, rfl, hg, by omega, fun i hi => ?_⟩, hB, (Array.getElem?_eq_some_iff.1 hg).1, hc⟩
    have h1 : (cur.toList.take (l.length * 1))[i]? = (l.map Value.string)[i]? := by rw [ht]
    rw [List.getElem?_take_of_lt (by omega)] at h1
    rw [← Array.getElem?_toList, h1]
    unfold txtS
    simp [List.getD_eq_getElem?_getD, hi]
theorem news_cells {w : World} {lo hi b off : Nat} {l : List ByteArray} (h : TextsAt lo hi w (some ⟨b, off, none⟩) l) : ∀ j u, (l.map Value.string)[j]? = some u → w.cell? ((⟨b, off, none⟩ : Addr).add j) = some u := by
  intro j u hj
  rw [List.getElem?_map] at hj
  obtain ⟨s, hs, rfl⟩ := Option.map_eq_some_iff.1 hj
  obtain ⟨b', off', e, _, _, c⟩ := h j s hs
  simp only [Option.some.injEq, Addr.mk.injEq, and_true] at e
  obtain ⟨rfl, rfl⟩ := e
  have ea : (⟨b, off, none⟩ : Addr).add j = ⟨b, off + j, none⟩ := by
    unfold Addr.add; split
    · rename_i h; subst h; rfl
    · rfl
  rw [ea]; exact c
theorem texts_some {w : World} {lo hi : Nat} {a : Option Addr} {l : List ByteArray} (h : TextsAt lo hi w a l) (hpos : 0 < l.length) : ∃ b off, a = some ⟨b, off, none⟩ := by
  obtain ⟨b, off, e, _⟩ := h 0 _ (List.getElem?_eq_getElem hpos)
  exact ⟨b, off, e⟩
set_option maxHeartbeats 1000000 in
theorem implCopyStrs (l : List ByteArray) (a : Option Addr) (c lo hi : Nat) (w : World) (h : TextsAt lo hi w a l) (hhi : hi ≤ w.heap.size) (hn : l.length ≤ 1048576) (hpos : 0 < l.length) :
    Calls Tryd.prog 28 #[.slice a l.length c] w fun e w' => ∃ g c', e = .returned (.slice (some ⟨g, 0, none⟩) l.length c') ∧ OwnTxs w' (some ⟨g, 0, none⟩) l [g] ∧ w.heap.size ≤ g ∧ g < w'.heap.size ∧ l.length ≤ c' ∧ Below w.heap.size w w' := by
  obtain ⟨b, off, rfl⟩ := texts_some h hpos
  have NC := Lib.hid (news_cells h)
  have HO := Lib.hid (fun (W : World) (v : Value) (hr : W.ownsRow w.heap.size 9 1 v l.length (l.map Value.string)) => own_of_row hpos hr)
  have HLn := Lib.hid (show (l.map Value.string).length = l.length * 1 by simp)
  have H1 := Lib.hid (show ∀ u ∈ l.map Value.string, u.oneCell' = true from fun u hu => by obtain ⟨s, _, rfl⟩ := List.mem_map.1 hu; rfl)
  have ON := Lib.hid (show w.ownsRow w.heap.size 9 1 (.slice none 0 0) 0 [] from ⟨rfl, .inl ⟨rfl, rfl⟩⟩)
  obtain ⟨i0, hi0, hz0, hz1, hz2⟩ := info_parts infoStr
  clear h
  obtain ⟨n, hn'⟩ : ∃ n, l.length = n := ⟨_, rfl⟩
  obtain ⟨news, hnews⟩ : ∃ x, l.map Value.string = x := ⟨_, rfl⟩
  rw [hn'] at HO HLn hn hpos ⊢
  rw [hnews] at NC HO HLn H1
  clear hn' hnews
  go_enter Tryd.func28, Tryd.ntmps28
  go_wp2_with (at_builtin; refine wpList_append_own _ rfl _ _ 24 rfl w.heap.size 9 i0 (.string ⟨#[]⟩) 1 16 Tryd.underlying24 hi0 hz0 hz1 hz2 rfl (by decide) (.slice none 0 0) 0 [] rfl ON.out ⟨b, off, none⟩ n c news rfl HLn.out NC.out H1.out ?c1 ?c2 ?c3 ?_)
  case c1 => unfold maxLen; omega
  case c2 => omega
  case c3 => exact Nat.le_refl _
  intro v' w2 hown' hgrow _
  obtain ⟨g, c', rfl, ho, hB, hlt, hc⟩ := HO.out _ _ hown'
  have OO := Lib.hid ho
  have BB := Lib.hid ((Below.refl w.heap.size w).grown hgrow (Nat.le_refl _) (by intro r hr; cases hr))
  clear hown' hgrow ho
  go_wp2
  go_ret
  exact ⟨g, c', rfl, OO.out, hB, hlt, hc, BB.out⟩
end Go.Proofs.YtddebgmjolojeaaDoor

/- What a law needs of a result that is a vector of items alone, or the zero value. -/
namespace Go.Proofs.YtddebgmjolojeaaDoor
open Go.RowKit
set_option maxRecDepth 100000
set_option linter.unusedVariables false

/-- The zero value, or a vector of items alone that fit. -/
def PlainV (V : Vec) : Prop := V = noV ∨ ∃ k l, V = vecOf k l ∧ (-9223372036854775808 ≤ k ∧ k ≤ 9223372036854775807) ∧ l.length ≤ 40 ∧ ∀ x ∈ l, InB x ∧ x.t.size ≤ 1048576
theorem PlainV.small {V : Vec} (h : PlainV V) : Small 1 V := by
  rcases h with rfl | ⟨k, l, rfl, hk, hl, hx⟩
  · exact small_noV
  · exact small_vecOf (by omega) (fun x h => (hx x h).2)
theorem PlainV.fits {V : Vec} (h : PlainV V) : Fits 1 V := by
  rcases h with rfl | ⟨k, l, rfl, hk, hl, hx⟩
  · exact fits_noV
  · exact fits_vecOf hk (by omega) (fun x h => (hx x h).1)
theorem PlainV.cnt {V : Vec} (h : PlainV V) : 1 + cntM 1 V ≤ 8000000 := by
  rcases h with rfl | ⟨k, l, rfl, hk, hl, hx⟩
  · rw [cnt_noV]; omega
  · rw [cnt_vecOf]; omega
theorem plain_itF {k : Int} {g : Nat → It} {n : Nat} (hk : -9223372036854775808 ≤ k ∧ k ≤ 9223372036854775807) (hn : n ≤ 40) (h : ∀ i, i < n → InB (g i) ∧ (g i).t.size ≤ 1048576) : PlainV (vecOf k (itF g n)) :=
  .inr ⟨k, _, rfl, hk, by rw [itF_len]; exact hn, fun x hx => by obtain ⟨i, hi, rfl⟩ := mem_itF hx; exact h i hi⟩
end Go.Proofs.YtddebgmjolojeaaDoor

/- Vectors with names that a call builds; texts copied by append, whatever their number. -/
namespace Go.Proofs.YtddebgmjolojeaaDoor
open Go.RowKit
set_option maxRecDepth 100000
set_option linter.unusedVariables false

/-- A vector of items and names. -/
def mkN (k : Int) (l : List It) (names : List ByteArray) : Vec := .mk k l [] names [] [] 0 0
/-- An append of nothing onto nothing. -/
theorem run_app0 {w : World} {dst : Value} {ty : TypeId} (hd : dst = .slice none 0 0 ∨ ∃ g, dst = .slice (some ⟨g, 0, none⟩) 0 0) (ad : Option Addr) (c : Nat) :
    (Builtin.append_ #[24, 24] ty #[dst, .slice ad 0 c]).run Tryd.prog w = .ok dst w := by
  obtain ⟨i0, hi0, hz0, hz1, hz2⟩ := info_parts infoStr
  rcases ad with _ | ad <;> rcases hd with rfl | ⟨g, rfl⟩ <;> simp [Builtin.append_, run_underlying Tryd.underlying24, sizeOf, typeInfo, hi0, Builtin.lenOf, Builtin.firstCells, loadCells, loadCellsFrom, storeCells]
theorem wpList_app0 {w : World} {ops : Array Oper} {rest : List Oper} {o : Oper} {a : Act} {Q : Exit → Act → World → Prop} (hgd : o.guard = none) (s x : Operand)
    (ho : o.op = .call { callee := .builtin .append, args := #[s, x], argTypes := #[24, 24] }) (dst : Value) (hs : a.eval s = dst) (hd : dst = .slice none 0 0 ∨ ∃ g, dst = .slice (some ⟨g, 0, none⟩) 0 0) (ad : Option Addr) (c : Nat) (hx : a.eval x = .slice ad 0 c)
    (h : wpList Tryd.prog ops Q rest (a.put o.dst dst) w) : wpList Tryd.prog ops Q (o :: rest) a w := by
  refine wpList_plain hgd fun K hK => ?_
  unfold Oper.wp
  simp [execOp, ho, resolve, invoke, builtin, hs, hx, run_app0 hd ad c, Result.andThen]
  exact hK _ _ h
/-- What a copy of texts is. -/
def CopyTx (base : Nat) (l : List ByteArray) (v : Value) (w : World) : Prop := ∃ sa sc F, v = .slice sa l.length sc ∧ OwnTxs w sa l F ∧ F.Nodup ∧ (∀ b ∈ F, base ≤ b ∧ b < w.heap.size) ∧ l.length ≤ sc
theorem wpList_copyTexts {w : World} {ops : Array Oper} {rest : List Oper} {o : Oper} {a : Act} {Q : Exit → Act → World → Prop} (hgd : o.guard = none) (s x : Operand)
    (ho : o.op = .call { callee := .builtin .append, args := #[s, x], argTypes := #[24, 24] }) (base : Nat) (v0 : Value) (hs : a.eval s = v0)
    (hv0 : v0 = .slice none 0 0 ∨ ∃ g, base ≤ g ∧ v0 = .slice (some ⟨g, 0, none⟩) 0 0 ∧ w.heap[g]? = some (.cells #[] 9 (0, 0)))
    (ad : Option Addr) (c : Nat) (l : List ByteArray) (lo hi : Nat) (hx : a.eval x = .slice ad l.length c) (hT : TextsAt lo hi w ad l) (hn : l.length ≤ 1048576) (hbase : base ≤ w.heap.size)
    (h : ∀ v' w', CopyTx base l v' w' → Below base w w' → wpList Tryd.prog ops Q rest (a.put o.dst v') w') : wpList Tryd.prog ops Q (o :: rest) a w := by
  by_cases hpos : 0 < l.length
  · obtain ⟨b, off, rfl⟩ := texts_some hT hpos
    obtain ⟨i0, hi0, hz0, hz1, hz2⟩ := info_parts infoStr
    have hown : w.ownsRow base 9 1 v0 0 [] := by
      rcases hv0 with rfl | ⟨g, hg, rfl, hb⟩
      · exact ⟨rfl, .inl ⟨rfl, rfl⟩⟩
      · exact ⟨rfl, .inr ⟨g, 0, #[], rfl, hg, hb, Nat.le_refl _, Nat.zero_le _, rfl, rfl⟩⟩
    refine wpList_append_own w hgd s x 24 ho base 9 i0 (.string ⟨#[]⟩) 1 16 Tryd.underlying24 hi0 hz0 hz1 hz2 rfl (by decide) v0 0 [] hs hown ⟨b, off, none⟩ l.length c (l.map Value.string) hx (by simp) (news_cells hT) (fun u hu => by obtain ⟨s, _, rfl⟩ := List.mem_map.1 hu; rfl) (by unfold maxLen; omega) (by omega) hbase (fun v' w' h1 h2 _ => ?_)
    have h1' : w'.ownsRow base 9 1 v' l.length (l.map Value.string) := by simpa using h1
    obtain ⟨g, c', rfl, ho, hB, hlt, hc⟩ := own_of_row hpos h1'
    refine h _ _ ⟨_, _, [g], rfl, ho, by simp, fun b hb => by obtain rfl := List.mem_singleton.1 hb; exact ⟨hB, hlt⟩, hc⟩ ((Below.refl base w).grown h2 hbase (fun r hr => ?_))
    exact (hown.lt r hr).1
  · obtain rfl : l = [] := List.eq_nil_of_length_eq_zero (by omega)
    refine wpList_app0 hgd s x ho v0 hs (hv0.imp id (fun ⟨g, _, e, _⟩ => ⟨g, e⟩)) ad c hx (h _ _ ?_ (Below.refl _ _))
    rcases hv0 with rfl | ⟨g, _, rfl, _⟩
    · exact ⟨none, 0, [], rfl, .inl ⟨rfl, rfl⟩, List.nodup_nil, (fun _ h => by cases h), Nat.le_refl _⟩
    · exact ⟨some ⟨g, 0, none⟩, 0, [], rfl, .inl ⟨rfl, rfl⟩, List.nodup_nil, (fun _ h => by cases h), Nat.le_refl _⟩
set_option maxHeartbeats 1000000 in
theorem implCopyAny (l : List ByteArray) (a : Option Addr) (c lo hi : Nat) (w : World) (h : TextsAt lo hi w a l) (hn : l.length ≤ 1048576) :
    Calls Tryd.prog 28 #[.slice a l.length c] w fun e w' => ∃ v, e = .returned v ∧ CopyTx w.heap.size l v w' ∧ Below w.heap.size w w' := by
  have HT := Lib.hid h
  clear h
  go_enter Tryd.func28, Tryd.ntmps28
  go_wp2_with (at_builtin; refine wpList_copyTexts rfl _ _ rfl w.heap.size _ rfl (.inl rfl) a c l lo hi rfl HT.out hn (Nat.le_refl _) ?_)
  intro v' w' hc hb
  have HC := Lib.hid hc
  have HB := Lib.hid hb
  obtain ⟨sa, sc, F, rfl, _⟩ := hc
  clear hb
  go_wp2
  go_ret
  exact ⟨_, rfl, HC.out, HB.out⟩
/-- What a loop that appends items to a vector with names keeps. -/
structure AppN (w wr : World) (r b : Nat) (kind : Int) (l : List It) (sa : Option Addr) (sn sc : Nat) (names : List ByteArray) (na : Option Addr) (nc : Nat) (F : List Nat) : Prop where
  res : wr.heap[r]? = some (.cells #[.int .i64 0, .slice none 0 0, .slice none 0 0, .slice none 0 0, .slice none 0 0, .slice none 0 0, .int .i64 0, .int .i64 0] 31 (0, 0))
  vec : wr.heap[b]? = some (.cells #[.int .i64 kind, .slice sa sn sc, .slice none 0 0, .slice na names.length nc, .slice none 0 0, .slice none 0 0, .int .i64 0, .int .i64 0] 31 (0, 0))
  row : wr.ownsRow (b + 1) 67 3 (.slice sa sn sc) l.length (itCells l)
  nms : OwnTxs wr na names F
  cap : names.length ≤ nc
  nd : F.Nodup
  rng : ∀ g ∈ F, w.heap.size ≤ g ∧ g < b ∧ g ≠ r
  below : Below w.heap.size w wr
  o1 : w.heap.size ≤ r
  o2 : r < b
theorem AppN.big {w wr : World} {r b : Nat} {kind : Int} {l : List It} {sa : Option Addr} {sn sc : Nat} {names : List ByteArray} {na : Option Addr} {nc : Nat} {F : List Nat} (h : AppN w wr r b kind l sa sn sc names na nc F) : b < wr.heap.size := (Array.getElem?_eq_some_iff.1 h.vec).1
theorem AppN.keep {w wr w1 : World} {r b : Nat} {kind : Int} {l : List It} {sa : Option Addr} {sn sc : Nat} {names : List ByteArray} {na : Option Addr} {nc : Nat} {F : List Nat} (h : AppN w wr r b kind l sa sn sc names na nc F) (hb : Below wr.heap.size wr w1) : AppN w w1 r b kind l sa sn sc names na nc F :=
  ⟨blk_below hb h.res, blk_below hb h.vec, ownsRow_below h.row hb, h.nms.kept (fun g hg => hb.block g (by have := h.rng g hg; have := h.big; omega)), h.cap, h.nd, h.rng, below_then h.below hb, h.o1, h.o2⟩
theorem AppN.heldC {w wr : World} {r b : Nat} {kind : Int} {l : List It} {sa : Option Addr} {sn sc : Nat} {names : List ByteArray} {na : Option Addr} {nc : Nat} {F : List Nat} (h : AppN w wr r b kind l sa sn sc names na nc F) : HeldC w wr [(r, 31, #[.int .i64 0, .slice none 0 0, .slice none 0 0, .slice none 0 0, .slice none 0 0, .slice none 0 0, .int .i64 0, .int .i64 0]), (b, 31, #[.int .i64 kind, .slice sa sn sc, .slice none 0 0, .slice na names.length nc, .slice none 0 0, .slice none 0 0, .int .i64 0, .int .i64 0])] := heldC_two h.below h.res h.vec
theorem AppN.far {w wr : World} {r b : Nat} {kind : Int} {l : List It} {sa : Option Addr} {sn sc : Nat} {names : List ByteArray} {na : Option Addr} {nc : Nat} {F : List Nat} (h : AppN w wr r b kind l sa sn sc names na nc F) {C : Array Value} {q : Nat × TypeId × Array Value} (hq : q ∈ (wr.heap.size, 67, C) :: [(r, 31, #[.int .i64 0, .slice none 0 0, .slice none 0 0, .slice none 0 0, .slice none 0 0, .slice none 0 0, .int .i64 0, .int .i64 0]), (b, 31, #[.int .i64 kind, .slice sa sn sc, .slice none 0 0, .slice na names.length nc, .slice none 0 0, .slice none 0 0, .int .i64 0, .int .i64 0])]) : ∀ k, (Value.slice sa sn sc).ownBlock = some k → q.1 ≠ k := by
  intro k hk e
  have h1 := h.row.lt k hk
  have h2 := h.o2
  rcases List.mem_cons.1 hq with rfl | hq
  · simp only at e; omega
  rcases List.mem_cons.1 hq with rfl | hq
  · simp only at e; omega
  · obtain rfl := List.mem_singleton.1 hq
    simp only at e; omega
theorem AppN.next {w wr W : World} {r b : Nat} {kind : Int} {l : List It} {z : It} {sa sa' : Option Addr} {sn sc sn' sc' : Nat} {names : List ByteArray} {na : Option Addr} {nc : Nat} {F : List Nat} (h : AppN w wr r b kind l sa sn sc names na nc F)
    (hK : W.heap[b]? = some (.cells (#[.int .i64 kind, .slice sa sn sc, .slice none 0 0, .slice na names.length nc, .slice none 0 0, .slice none 0 0, .int .i64 0, .int .i64 0].setIfInBounds 1 (.slice sa' sn' sc')) 31 (0, 0)))
    (hO : W.ownsRow (b + 1) 67 3 (.slice sa' sn' sc') (l ++ [z]).length (itCells (l ++ [z]))) (hB : Below w.heap.size w W)
    (hR : W.heap[r]? = some (.cells #[.int .i64 0, .slice none 0 0, .slice none 0 0, .slice none 0 0, .slice none 0 0, .slice none 0 0, .int .i64 0, .int .i64 0] 31 (0, 0))) (hF : ∀ g ∈ F, W.heap[g]? = wr.heap[g]?) : AppN w W r b kind (l ++ [z]) sa' sn' sc' names na nc F :=
  ⟨hR, hK, hO, h.nms.kept hF, h.cap, h.nd, h.rng, hB, h.o1, h.o2⟩
/-- The vector itself, where the function ends. -/
theorem AppN.own {w wr : World} {r b : Nat} {kind : Int} {l : List It} {sa : Option Addr} {sn sc : Nat} {names : List ByteArray} {na : Option Addr} {nc : Nat} {F : List Nat} (h : AppN w wr r b kind l sa sn sc names na nc F) : ∃ G, OwnVec wr 1 (mkN kind l names) (.agg #[.int .i64 kind, .slice sa sn sc, .slice none 0 0, .slice na names.length nc, .slice none 0 0, .slice none 0 0, .int .i64 0, .int .i64 0]) G ∧ G.Nodup ∧ ∀ g ∈ G, w.heap.size ≤ g ∧ g < wr.heap.size ∧ g ≠ r := by
  obtain ⟨a, c, Fi, e, ho, hn, hr, hc⟩ := own_of_its h.row
  obtain ⟨rfl, rfl, rfl⟩ : sa = a ∧ sn = l.length ∧ sc = c := by simpa using e
  refine ⟨Fi ++ F, ?_, ?_, ?_⟩
  · show OwnVec wr 1 (.mk kind l [] names [] [] 0 0) _ _
    unfold OwnVec
    exact ⟨sa, sc, none, 0, na, nc, none, 0, none, 0, Fi, [], F, [], [], rfl, by simp, ⟨hc, Nat.le_refl _, h.cap, Nat.le_refl _, Nat.le_refl _⟩, ho, h.nms, .inl ⟨rfl, rfl⟩, .inl ⟨rfl, rfl⟩, .inl ⟨rfl, rfl⟩⟩
  · rw [List.nodup_append]
    exact ⟨hn, h.nd, fun x hx y hy e => by have := hr x hx; have := h.rng y hy; omega⟩
  · intro g hg
    have h1 := h.o1; have h2 := h.o2; have h3 := h.big
    rcases List.mem_append.1 hg with hg | hg
    · have := hr g hg; omega
    · have := h.rng g hg; omega
theorem AppN.fin {w wr : World} {r b : Nat} {kind : Int} {l : List It} {sa : Option Addr} {sn sc : Nat} {names : List ByteArray} {na : Option Addr} {nc : Nat} {F : List Nat} (h : AppN w wr r b kind l sa sn sc names na nc F) : ResV 1 (mkN kind l names) w (.returned (.agg #[.int .i64 kind, .slice sa sn sc, .slice none 0 0, .slice na names.length nc, .slice none 0 0, .slice none 0 0, .int .i64 0, .int .i64 0])) (put8 wr r 0 (.int .i64 kind) (.slice sa sn sc) (.slice none 0 0) (.slice na names.length nc) (.slice none 0 0) (.slice none 0 0) (.int .i64 0) (.int .i64 0)) := by
  obtain ⟨G, ho, hn, hr⟩ := h.own
  exact ⟨_, rfl, ⟨G, ho.kept _ _ _ _ (fun g hg => put8_other (hr g hg).2.2), hn, fun g hg => by rw [put8_size]; have := hr g hg; omega⟩, put8_below h.below h.o1⟩
theorem small_mkN {k : Int} {l : List It} {names : List ByteArray} (h : l.length ≤ 1048576) (ht : ∀ x ∈ l, x.t.size ≤ 1048576) (hn : names.length ≤ 1048576) (hs : ∀ s ∈ names, s.size ≤ 1048576) : Small 1 (mkN k l names) := by
  show Small 1 (.mk k l [] names [] [] 0 0)
  unfold Small
  exact ⟨h, Nat.zero_le _, hn, Nat.zero_le _, Nat.zero_le _, ht, hs, (fun _ h => by cases h), (fun _ h => by cases h), (fun _ h => by cases h)⟩
theorem fits_mkN {k : Int} {l : List It} {names : List ByteArray} (hk : -9223372036854775808 ≤ k ∧ k ≤ 9223372036854775807) (h : l.length ≤ 1048576) (ht : ∀ x ∈ l, InB x) (hn : names.length ≤ 1048576) (hs : ∀ s ∈ names, s.size ≤ 1048576) : Fits 1 (mkN k l names) := by
  show Fits 1 (.mk k l [] names [] [] 0 0)
  unfold Fits
  refine ⟨hk, ⟨by decide, by decide⟩, ⟨by decide, by decide⟩, by unfold maxLen; omega, Nat.zero_le _, by unfold maxLen; omega, Nat.zero_le _, Nat.zero_le _, fun x hx => ht x hx, fun s hx => by have := hs s hx; unfold maxLen; omega, (fun _ h => by cases h), (fun _ h => by cases h), (fun _ h => by cases h)⟩
theorem cnt_mkN (k : Int) (l : List It) (names : List ByteArray) : cntM 1 (mkN k l names) = 3 * l.length + names.length := by
  show cntM 1 (.mk k l [] names [] [] 0 0) = _
  rw [cntM_eq]
  show 3 * l.length + sumN _ 0 + names.length + 0 + 0 = _
  simp [sumN]
end Go.Proofs.YtddebgmjolojeaaDoor

/- The end of an appending region, with all that it leaves alone. -/
namespace Go.Proofs.YtddebgmjolojeaaDoor
open Go.RowKit
set_option maxRecDepth 100000
set_option linter.unusedVariables false

/-- The same, and every other block is as it was. -/
theorem tail_item2 {ops : Array Oper} {Q : Exit → Act → World → Prop} {a : Act} {e : List (Nat × Value)} {w0 w1 : World} {L : List (Nat × TypeId × Array Value)} {i1 i2 i3 i4 d1 d2 d4 b j base : Nat} {x s p : Operand} {v0 c : Value} {C : Array Value} {tt : TypeId} (z : It) {l : List It}
    (ho1 : opAt ops i1 = some (some d1, .buildSlice 28 1 #[(0, x)], none)) (hd1 : Nat.blt d1 a.tmps.size = true) (hx : lookO a e x = .agg #[.int .i64 z.n, .int .i64 z.d, .string z.t])
    (ho2 : opAt ops i2 = some (some d2, .call { callee := .builtin .append, args := [s, .tmp d1].toArray, argTypes := [28, 28].toArray }, none)) (hd2 : Nat.blt d2 a.tmps.size = true) (hs : ∀ u, lookO a ((d1, u) :: e) s = v0)
    (ho4 : opAt ops i4 = some (some d4, .fieldAddr 31 p j, none)) (hd4 : Nat.blt d4 a.tmps.size = true) (hf : Nat.blt j 8 = true) (hp : ∀ u u', lookO a ((d2, u') :: (d1, u) :: e) p = .pointer (some ⟨b, 0, none⟩))
    (ho3 : opAt ops i3 = some (none, .store 28 (.tmp d4) (.tmp d2), none)) (hl : lastK ops i3 = true) (hne : Nat.beq d4 d2 = false)
    (H : HeldC w0 w1 L) (hown : w1.ownsRow base 67 3 v0 l.length (itCells l)) (hn : l.length ≤ 1048576) (hbase : base ≤ w1.heap.size) (hw0 : w0.heap.size ≤ base) (m : (b, tt, C) ∈ L) (hj : C[j]? = some c) (hb : b < base) (hb0 : w0.heap.size ≤ b)
    (hL : ∀ q ∈ L, ∀ k, v0.ownBlock = some k → q.1 ≠ k)
    (h : ∀ v' W, (∃ sa n c, v' = .slice sa n c) → W.heap[b]? = some (.cells (C.setIfInBounds j v') tt (0, 0)) → W.ownsRow base 67 3 v' (l ++ [z]).length (itCells (l ++ [z])) → Below w0.heap.size w0 W → w1.heap.size ≤ W.heap.size →
      (∀ q ∈ L, q.1 ≠ b → W.heap[q.1]? = some (.cells q.2.2 q.2.1 (0, 0))) → (∀ g, g < w1.heap.size → g ≠ b → (∀ k, v0.ownBlock = some k → g ≠ k) → W.heap[g]? = w1.heap[g]?) → Q .normal (putAll a ((d4, .pointer (some ⟨b, j, none⟩)) :: (d2, v') :: (d1, .slice (some ⟨w1.heap.size, 0, none⟩) 1 1) :: e)) W) :
    RunE Tryd.prog ops Q (fun w' => HeldC w0 w' L) [(i1, false), (i2, false), (i4, true), (i3, false)] a e w1 := by
  refine run_build_item z ho1 hd1 rfl hx (fun W1 hW1 => ?_)
  have H1 : HeldC w0 W1 L := hW1 ▸ heldC_alloc H _
  have hK : W1.heap[w1.heap.size]? = some (.cells #[.int .i64 z.n, .int .i64 z.d, .string z.t] 67 (0, 0)) := hW1 ▸ blk_new w1 _ rfl
  have hO : W1.ownsRow base 67 3 v0 l.length (itCells l) := hW1 ▸ ownsRow_below hown (below1 w1 _)
  have hS1 : w1.heap.size ≤ W1.heap.size := hW1 ▸ (below1 w1 _).size
  refine ⟨H1, run_app_item (b := w1.heap.size) z ho2 hd2 rfl (hs _) (look_new _ _) hO hK hn (by omega) (fun v' W2 hO2 hg2 => ?_)⟩
  have H2 : HeldC w0 W2 L := heldC_grown H1 hg2 (fun k hk => ⟨by have := (hO.lt k hk).1; omega, fun q hq => hL q hq k hk⟩)
  have hv : ∃ sa n c, v' = .slice sa n c := by
    obtain ⟨_, h | ⟨g, cap, cur, e, _⟩⟩ := hO2
    · exact ⟨_, _, _, h.1⟩
    · exact ⟨_, _, _, e⟩
  obtain ⟨sa, n, c', rfl⟩ := hv
  refine ⟨H2, runC_partV hf ho4 hd4 rfl (hp _ _) (run_last_field hl ho3 rfl store_its (look_new _ _) (look_next hne) (heldC_at H2 m) hj (fun W3 hW3 => run_done (h _ W3 ⟨_, _, _, rfl⟩ ?_ ?_ ?_ ?_ ?_ ?_)))⟩
  · subst hW3; exact Joins.block_setCell (heldC_at H2 m) _
  · subst hW3; exact ownsRow_set hO2 hb
  · subst hW3; exact H2.1.setCell (p := ⟨b, j, none⟩) hb0 _
  · subst hW3; have := hg2.size; simp; omega
  · intro q hq hne; subst hW3; rw [Below.heap_setCell _ _ _ _ hne]; exact H2.2 q hq
  · intro g hg hne hk; subst hW3; rw [Below.heap_setCell _ _ _ _ hne, hg2.block g (by omega) (fun e => hk g e.symm rfl), hW1]; exact (below1 w1 _).block g hg
end Go.Proofs.YtddebgmjolojeaaDoor

/- Logical values of vectors. -/
namespace Go.Proofs.YtddebgmjolojeaaDoor
open Go.RowKit
set_option maxRecDepth 100000
set_option linter.unusedVariables false

/-- "invalid vector", "non-logical argument" -/
def badB : ByteArray := ⟨#[105, 110, 118, 97, 108, 105, 100, 32, 118, 101, 99, 116, 111, 114]⟩
def nonLogB : ByteArray := ⟨#[110, 111, 110, 45, 108, 111, 103, 105, 99, 97, 108, 32, 97, 114, 103, 117, 109, 101, 110, 116]⟩
/-- Does a vector count as numbers? -/
def Counts (v : Vec) : Prop := match v with | .mk k _ _ _ _ levels _ _ => k ≤ 2 ∧ levels.length = 0
def truthI (x : It) : Int := if x.d = 0 then 2 else if x.n = 0 then 0 else 1
theorem truth_three (x : It) : L3 (truthI x) := by unfold truthI L3; split <;> (try split) <;> omega
/-- An element of a vector that counts as numbers. -/
structure NumIt (x : It) : Prop where
  t : x.t = ⟨#[]⟩
  n0 : -999999999 ≤ x.n
  n1 : x.n ≤ 999999999
  d0 : 0 ≤ x.d
  d1 : x.d ≤ 999999999
  z : x.d = 0 → x = noI
theorem numIt_of {k : Int} {x : It} (h : ItOk k x) (hk : k ≤ 2) : NumIt x := by
  rcases h with rfl | ⟨_, h1, h2, h3, h4⟩ | ⟨_, h1⟩ | ⟨h1, _⟩
  · exact ⟨rfl, by decide, by decide, by decide, by decide, fun _ => rfl⟩
  · exact ⟨empty_of_size h4, by omega, by omega, by omega, by omega, fun h => by omega⟩
  · obtain ⟨g1, g2, g3, g4, g5, _⟩ := isN_iff.1 h1
    exact ⟨g1, g4, g5, by omega, g3, fun h => by omega⟩
  · omega
theorem num_at {k : Int} {items : List It} {parts : List Vec} {names cls levels : List ByteArray} {code env : Int} (h : ValidV (.mk k items parts names cls levels code env)) (hc : Counts (.mk k items parts names cls levels code env)) {i : Nat} (hi : i < items.length) : NumIt (items.getD i noI) := by
  have hf : FlatOk k items parts.length names cls levels code env := h.1.flat
  exact numIt_of (hf.h_items i hi).1 hc.1
theorem count_len {k : Int} {items : List It} {parts : List Vec} {names cls levels : List ByteArray} {code env : Int} (h : ValidV (.mk k items parts names cls levels code env)) (hc : Counts (.mk k items parts names cls levels code env)) : items.length ≤ 40 := by
  have hf : FlatOk k items parts.length names cls levels code env := h.1.flat
  have h1 := hf.h_len
  have h2 : k ≤ 2 := hc.1
  unfold lenV at h1
  rw [if_neg (by omega)] at h1
  omega
end Go.Proofs.YtddebgmjolojeaaDoor

/- How the reference makes a number. -/
namespace Go.Proofs.YtddebgmjolojeaaDoor
set_option maxRecDepth 100000
open Go.RowKit
set_option linter.unusedVariables false

end Go.Proofs.YtddebgmjolojeaaDoor

/- How the program makes a number. -/
namespace Go.Proofs.YtddebgmjolojeaaDoor
set_option maxRecDepth 100000
open Go.RowKit
set_option linter.unusedVariables false

end Go.Proofs.YtddebgmjolojeaaDoor

/- NumberVector on both sides. -/
namespace Go.Proofs.YtddebgmjolojeaaDoor
open Go.RowKit
set_option maxRecDepth 100000
set_option linter.unusedVariables false

def numI (x : Int) : It := ⟨(mkI x 1).n, (mkI x 1).d, ⟨#[]⟩⟩
theorem numI_t (x : Int) : (numI x).t.size ≤ 1048576 := Nat.zero_le _
theorem numI_in (x : Int) : InB (numI x) := by
  have h : mkI x 1 = noI ∨ isN (mkI x 1) = true := by
    unfold mkI; split
    · exact (ofQ_cases _).imp id (fun h => h.1)
    · exact .inl rfl
  rcases h with h | h
  · unfold numI; rw [h]; exact ⟨by decide, by decide, Nat.zero_le _⟩
  · have := isN_iff.1 h
    exact ⟨by unfold numI; simp only; omega, by unfold numI; simp only; omega, Nat.zero_le _⟩
end Go.Proofs.YtddebgmjolojeaaDoor

/- SequenceOf on both sides. -/
namespace Go.Proofs.YtddebgmjolojeaaDoor
open Go.RowKit
set_option maxRecDepth 100000
set_option linter.unusedVariables false

def InW (x : Int) : Prop := -999999999 ≤ x ∧ x ≤ 999999999
def SeqOk (a b : Int) : Prop := InW a ∧ InW b ∧ (b - a).natAbs < 40
def seqI (a b : Int) (i : Nat) : Int := if a ≤ b then a + (i : Int) else a - (i : Int)
def seqG (a b : Int) (i : Nat) : It := ⟨seqI a b i, 1, ⟨#[]⟩⟩
noncomputable def seqV (a b : Int) : Vec := match bB (SeqOk a b) with | true => vecOf 2 (itF (seqG a b) ((b - a).natAbs + 1)) | false => noV
noncomputable def seqS (a b : Int) : ByteArray := match bB (SeqOk a b) with | true => ⟨#[]⟩ | false => bigB
theorem seqV_yes {a b : Int} (h : SeqOk a b) : seqV a b = vecOf 2 (itF (seqG a b) ((b - a).natAbs + 1)) := by unfold seqV; rw [bB_yes h]
theorem seqV_no {a b : Int} (h : ¬ SeqOk a b) : seqV a b = noV := by unfold seqV; rw [bB_no h]
theorem seqS_yes {a b : Int} (h : SeqOk a b) : seqS a b = ⟨#[]⟩ := by unfold seqS; rw [bB_yes h]
theorem seqS_no {a b : Int} (h : ¬ SeqOk a b) : seqS a b = bigB := by unfold seqS; rw [bB_no h]
theorem wrap64_id {x : Int} (h0 : -9223372036854775808 ≤ x) (h1 : x ≤ 9223372036854775807) : IntKind.wrap .i64 x = x := by
  exact IntWalk.i64_in x ⟨h0, h1⟩
theorem numI_whole {x : Int} (h : InW x) : numI x = ⟨x, 1, ⟨#[]⟩⟩ := by
  have e : Rat.divInt x 1 = (x : Rat) := by rw [Rat.divInt_eq_div]; grind
  have hn : isN ⟨(Rat.divInt x 1).num, (Rat.divInt x 1).den, ⟨#[]⟩⟩ = true := by
    rw [e, isN_iff]
    obtain ⟨h0, h1⟩ := h
    refine ⟨rfl, by simp, by simp, by simpa using h0, by simpa using h1, by simp⟩
  unfold numI
  obtain ⟨h0, h1⟩ := h
  rw [mkI_ok (by unfold okR; omega), ofQ_yes hn, e]
  simp
theorem seqI_in {a b : Int} (h : SeqOk a b) {i : Nat} (hi : i < (b - a).natAbs + 1) : InW (seqI a b i) := by
  obtain ⟨⟨h0, h1⟩, ⟨h2, h3⟩, h4⟩ := h
  unfold seqI InW; split <;> omega
theorem itF_congr {g h : Nat → It} {n : Nat} (e : ∀ i, i < n → g i = h i) : itF g n = itF h n := by
  unfold itF
  exact List.map_congr_left (fun i hi => e i (List.mem_range.1 hi))
theorem seq_items {a b : Int} (h : SeqOk a b) : itF (fun i => numI (seqI a b i)) ((b - a).natAbs + 1) = itF (seqG a b) ((b - a).natAbs + 1) :=
  itF_congr (fun i hi => numI_whole (seqI_in h hi))
/-- -1, 0 or 1. -/
def cmpZ (x y : Int) : Int := if x < y then -1 else if y < x then 1 else 0
/-- What an element of the program's list is. -/
theorem seqI_step {a b : Int} (i : Nat) (h : a = b → i = 0) : a + (i : Int) * cmpZ b a = seqI a b i := by
  unfold cmpZ seqI
  by_cases h1 : b < a
  · rw [if_pos h1, if_neg (by omega)]; omega
  · by_cases h2 : a < b
    · rw [if_neg h1, if_pos h2, if_pos (by omega)]; omega
    · have e : a = b := by omega
      rw [if_neg h1, if_neg h2, if_pos (by omega), h e]; simp
def intsF (f : Nat → Int) (n : Nat) : List Value := (List.range n).map (fun i => .int .i64 (f i))
theorem intsF_succ (f : Nat → Int) (n : Nat) : intsF f n ++ [.int .i64 (f n)] = intsF f (n + 1) := by unfold intsF; rw [List.range_succ, List.map_append]; rfl
/-- A row of the call's own that holds ints. -/
theorem ints_of_row {w : World} {B m : Nat} {v : Value} {f : Nat → Int} (h : w.ownsRow B 3 1 v m (intsF f m)) : ∃ sa c, v = .slice sa m c ∧ IntsAt w.heap.size w sa m f := by
  obtain ⟨_, h⟩ := h
  rcases h with ⟨rfl, rfl⟩ | ⟨g, cap, cur, rfl, hB, hg, hc, _, hs, ht⟩
  · exact ⟨none, 0, rfl, fun i hi => absurd hi (Nat.not_lt_zero _)⟩
  · refine ⟨some ⟨g, 0, none⟩, cap, rfl, fun i hi => ⟨g, 0, rfl, (Array.getElem?_eq_some_iff.1 hg).1, ?_⟩⟩
    rw [Nat.zero_add]
    refine cellOf hg ?_
    have h1 : (cur.toList.take (m * 1))[i]? = (intsF f m)[i]? := by rw [ht]
    rw [List.getElem?_take_of_lt (by omega), Array.getElem?_toList] at h1
    rw [h1]; unfold intsF; simp [hi]
/-- What the program's loop keeps: the result's block, the ints so far. -/
structure IntL (w wr : World) (f : Nat → Int) (k : Nat) (v : Value) : Prop where
  res : wr.heap[w.heap.size]? = some (.cells #[.int .i64 0, .slice none 0 0, .slice none 0 0, .slice none 0 0, .slice none 0 0, .slice none 0 0, .int .i64 0, .int .i64 0] 31 (0, 0))
  row : wr.ownsRow (w.heap.size + 1) 3 1 v k (intsF f k)
  below : Below w.heap.size w wr
theorem IntL.next {w wr w1 : World} {f : Nat → Int} {k : Nat} {z : Int} {v v' : Value} {o : Obj} (h : IntL w wr f k v) (hg : (wr.alloc o).grownBy w1 v.ownBlock) (hr : w1.ownsRow (w.heap.size + 1) 3 1 v' (k + 1) (intsF f k ++ [.int .i64 z])) (hz : z = f k) : IntL w w1 f (k + 1) v' := by
  subst hz
  have hlt := (Array.getElem?_eq_some_iff.1 h.res).1
  refine ⟨?_, intsF_succ f k ▸ hr, ?_⟩
  · refine (hg.block _ (by simp; omega) (fun e => ?_)).trans (blk_old h.res)
    have := (h.row.lt _ e.symm).1
    omega
  · exact (h.below.alloc h.below.size o).grown hg (by have := h.below.size; simp; omega) (fun r hr' => by have := (h.row.lt r hr').1; omega)
theorem IntL.start (w : World) (f : Nat → Int) : IntL w (w.alloc (.cells #[.int .i64 0, .slice none 0 0, .slice none 0 0, .slice none 0 0, .slice none 0 0, .slice none 0 0, .int .i64 0, .int .i64 0] 31)) f 0 (.slice none 0 0) := ⟨blk_new w _ rfl, ⟨rfl, .inl ⟨rfl, rfl⟩⟩, below1 w _⟩
end Go.Proofs.YtddebgmjolojeaaDoor

/- The reference's view of a vector as numbers and as logical values. -/
namespace Go.Proofs.YtddebgmjolojeaaDoor
open Go.RowKit
set_option maxRecDepth 100000
set_option linter.unusedVariables false

/-- What a loop that appends ints keeps. -/
structure IntR (w wr : World) (f : Nat → Int) (k : Nat) (v : Value) : Prop where
  row : wr.ownsRow w.heap.size 3 1 v k (intsF f k)
  below : Below w.heap.size w wr
theorem IntR.next {w wr w1 : World} {f : Nat → Int} {k : Nat} {z : Int} {v v' : Value} {o : Obj} (h : IntR w wr f k v) (hg : (wr.alloc o).grownBy w1 v.ownBlock) (hr : w1.ownsRow w.heap.size 3 1 v' (k + 1) (intsF f k ++ [.int .i64 z])) (hz : z = f k) : IntR w w1 f (k + 1) v' := by
  subst hz
  exact ⟨intsF_succ f k ▸ hr, (h.below.alloc h.below.size o).grown hg (by have := h.below.size; simp; omega) (fun r hr' => (h.row.lt r hr').1)⟩
theorem IntR.below' {w wr w1 : World} {f : Nat → Int} {k : Nat} {v : Value} (h : IntR w wr f k v) (hb : Below wr.heap.size wr w1) : IntR w w1 f k v := ⟨ownsRow_below h.row hb, below_then h.below hb⟩
theorem specBad (w : World) : Calls Tryd.prog 35 #[] w fun e w' => e = .returned (.tuple #[.agg #[.int .i64 0, .slice none 0 0, .slice none 0 0, .slice none 0 0, .slice none 0 0, .slice none 0 0, .int .i64 0, .int .i64 0], .string badB]) ∧ Below w.heap.size w w' := by
  go_enter Tryd.func35, Tryd.ntmps35
  go_wp2
  exact vec_ret0S rfl rfl rfl rfl (blk_new w _ rfl) ⟨rfl, below1 w _⟩
end Go.Proofs.YtddebgmjolojeaaDoor

/- Ints that are appended in a region that draws its order; remainders. -/
namespace Go.Proofs.YtddebgmjolojeaaDoor
open Go.RowKit
set_option maxRecDepth 100000
set_option linter.unusedVariables false

section
variable {P : Program} {ops : Array Oper} {Q : Exit → Act → World → Prop} {S : World → Prop}
variable {r : List (Nat × Bool)} {a : Act} {e : List (Nat × Value)} {w : World} {i d : Nat} {g : Option (Nat × Bool)} {v : Value}
theorem run_rem {x y : Operand} {t t' : TypeId} {k : IntKind} {p q z : Int} (ho : opAt ops i = some (some d, .binOp .rem t x y t', g)) (hd : Nat.blt d a.tmps.size = true)
    (hw : wantE ops a e g = some true) (hx : lookO a e x = .int k p) (hy : lookO a e y = .int k q) (hz : q ≠ 0 ∧ p.tmod q = z)
    (h : RunE P ops Q S r a ((d, .int k z) :: e) w) : RunE P ops Q S ((i, true) :: r) a e w :=
  run_yield ho hd hw (fun o w' h1 _ => by
    unfold execOp; rw [h1]; simp only [hx, hy]; obtain ⟨h0, rfl⟩ := hz
    simp [eqGuard, binOp, Op.intDiv, go_sem, h0]) h
end
section
variable {ops : Array Oper} {Q : Exit → Act → World → Prop} {S : World → Prop}
variable {r : List (Nat × Bool)} {a : Act} {e : List (Nat × Value)} {w : World} {i d : Nat} {g : Option (Nat × Bool)} {v : Value}
theorem fill_int (z : Int) : Instr.fill (fun i => some (i * 1, 1)) ((Array.range (1 * 1)).map ((Value.int .i64 0).cells[· % (Value.int .i64 0).cells.size]!)) [(0, .int .i64 z)] = some #[.int .i64 z] := by
  have h := Great.fill_whole (s := 1) (by decide) [.int .i64 z] ((Array.range (1 * 1)).map ((Value.int .i64 0).cells[· % (Value.int .i64 0).cells.size]!)) (fun v hv => by obtain rfl := List.mem_singleton.1 hv; rfl) (by simp)
  exact h
theorem IntR.keep {w wr w1 : World} {f : Nat → Int} {k : Nat} {v : Value} (h : IntR w wr f k v) (hb : Below wr.heap.size wr w1) : IntR w w1 f k v := h.below' hb
end
end Go.Proofs.YtddebgmjolojeaaDoor

/- Calls by a function's value, items at an index, items that are appended to a local slice: operations of a region that draws its order. -/
namespace Go.Proofs.YtddebgmjolojeaaDoor
open Go.RowKit
set_option maxRecDepth 100000
set_option linter.unusedVariables false

section
variable {P : Program} {ops : Array Oper} {Q : Exit → Act → World → Prop} {S : World → Prop}
variable {r : List (Nat × Bool)} {a : Act} {e : List (Nat × Value)} {w : World} {i d : Nat} {g : Option (Nat × Bool)} {v : Value}
/-- A call of a function's value. -/
theorem run_callv {x : Operand} {f : FuncId} {first cap : Array Value} {xs : List Operand} {ats : Array TypeId} {args : List Value} (ho : opAt ops i = some (some d, .call { callee := .value x, args := xs.toArray, argTypes := ats }, g))
    (hd : Nat.blt d a.tmps.size = true) (hw : wantE ops a e g = some true) (hf : lookO a e x = .func (.func f) first cap) (hg : callsGo P f = true) (hx : xs.map (lookO a e) = args)
    (h : Calls P f (first ++ args.toArray ++ cap) w fun en w' => ∃ v, en = .returned v ∧ S w' ∧ RunE P ops Q S r a ((d, v) :: e) w') : RunE P ops Q S ((i, false) :: r) a e w := by
  refine ⟨fun hk => ?_⟩
  obtain ⟨o, hi, h1, h2, h3⟩ := opAt_spec ho
  show wpOp P ops Q i (fun a' w' => (lastK ops i = true ∨ S w') ∧ seqH P ops Q S r a' w') (putAll a e) w
  unfold wpOp
  simp only [hi, if_pos (wantE_spec hk (by rw [h3]; exact hw))]
  left
  unfold Oper.wp
  have hrun : (execOp (putAll a e).eval o).run P w = .ok (.enter f (first ++ args.toArray ++ cap)) w := by
    rw [eval_putAll a e hk]
    unfold execOp
    rw [h2]
    have : (resolve (lookO a e) { callee := .value x, args := xs.toArray, argTypes := ats } o.type) = pure { target := .fn (.func f) cap, args := first ++ args.toArray } := by
      unfold resolve
      simp only [List.map_toArray, hx, hf]
      rfl
    simp only [this]
    show (callFunc f (first ++ args.toArray ++ cap)).run P w = _
    exact callsGo_run hg
  rw [hrun]
  simp only [Oper.upon]
  refine h.mono ?_
  rintro en w' ⟨v, rfl, hS, hr⟩
  rw [h1]
  exact ⟨.inr hS, hr.out (keysIn_cons hd hk)⟩
end
section
variable {ops : Array Oper} {Q : Exit → Act → World → Prop} {S : World → Prop} {w0 : World} {L : List (Nat × TypeId × Array Value)}
variable {r : List (Nat × Bool)} {a : Act} {e : List (Nat × Value)} {w : World} {i d : Nat} {g : Option (Nat × Bool)} {v : Value}
/-- The address of an item of a slice. -/
theorem run_idx3 {x y : Operand} {b off n c k : Nat} (ho : opAt ops i = some (some d, .indexAddr 28 x y, g)) (hd : Nat.blt d a.tmps.size = true) (hw : wantE ops a e g = some true)
    (hx : lookO a e x = .slice (some ⟨b, off, none⟩) n c) (hy : lookO a e y = .int .i64 (k : Int)) (hk : k < n)
    (h : RunE Tryd.prog ops Q S r a ((d, .pointer (some ⟨b, off + k * 3, none⟩)) :: e) w) : RunE Tryd.prog ops Q S ((i, true) :: r) a e w :=
  run_yield ho hd hw (fun o w' h1 _ => by
    unfold execOp; rw [h1]; simp only [hx, hy]
    refine run_v ?_
    obtain ⟨ie, hie, _, hsz, _⟩ := info_parts infoItm3
    have he : Tryd.prog.elem 28 = 67 := by kernel_rfl
    rw [← he] at hie
    rw [run_indexAt_slice (h := Tryd.underlying28), if_pos ⟨Int.natCast_nonneg k, by omega⟩]
    simp [sizeOf, typeInfo, hie, hsz, addr_add]) h
/-- An item that lay there at the outset. -/
theorem runC_oldI {x : Operand} {b j : Nat} {z : It} (ho : opAt ops i = some (some d, .load 67 x, g)) (hd : Nat.blt d a.tmps.size = true) (hw : wantE ops a e g = some true)
    (hx : lookO a e x = .pointer (some ⟨b, j, none⟩)) (hb : b < w0.heap.size) (h0 : w0.cell? ⟨b, j, none⟩ = some (.int .i64 z.n)) (h1 : w0.cell? ⟨b, j + 1, none⟩ = some (.int .i64 z.d)) (h2 : w0.cell? ⟨b, j + 2, none⟩ = some (.string z.t))
    (h : RunE Tryd.prog ops Q (fun w' => HeldC w0 w' L) r a ((d, .agg #[.int .i64 z.n, .int .i64 z.d, .string z.t]) :: e) w) : RunE Tryd.prog ops Q (fun w' => HeldC w0 w' L) ((i, true) :: r) a e w :=
  run_load ho hd hw hx (fun w' hS => run_loadVar_mid w' b j 67 [.int .i64 z.n, .int .i64 z.d, .string z.t] _ (fun k v hv => by
    have hlt : k < 3 := by have := (List.getElem?_eq_some_iff.1 hv).1; simpa using this
    rw [hS.1.cell (p := ⟨b, j + k, none⟩) hb, ← hv]
    rcases (show k = 0 ∨ k = 1 ∨ k = 2 by omega) with rfl | rfl | rfl
    · exact h0
    · exact h1
    · exact h2) Tryd.underlying67 rfl infoItem) h
/-- What a loop that appends items to a local slice keeps. -/
structure ItR (w wr : World) (l : List It) (v : Value) : Prop where
  row : wr.ownsRow w.heap.size 67 3 v l.length (itCells l)
  below : Below w.heap.size w wr
theorem ItR.keep {w wr w1 : World} {l : List It} {v : Value} (h : ItR w wr l v) (hb : Below wr.heap.size wr w1) : ItR w w1 l v := ⟨ownsRow_below h.row hb, below_then h.below hb⟩
/-- A literal of one item, its append and the assignment: the end of a region. -/
theorem tail_its {i1 i2 i3 d1 d2 d3 : Nat} {x s : Operand} {v0 : Value} (z : It) {l : List It}
    (ho1 : opAt ops i1 = some (some d1, .buildSlice 28 1 #[(0, x)], none)) (hd1 : Nat.blt d1 a.tmps.size = true) (hx : lookO a e x = .agg #[.int .i64 z.n, .int .i64 z.d, .string z.t])
    (ho2 : opAt ops i2 = some (some d2, .call { callee := .builtin .append, args := [s, .tmp d1].toArray, argTypes := [28, 28].toArray }, none)) (hd2 : Nat.blt d2 a.tmps.size = true) (hs : ∀ u, lookO a ((d1, u) :: e) s = v0)
    (ho3 : opAt ops i3 = some (some d3, .assign (.tmp d2), none)) (hd3 : Nat.blt d3 a.tmps.size = true)
    (hr : ItR w0 w l v0) (hn : l.length ≤ 1048576)
    (h : ∀ v' W, ItR w0 W (l ++ [z]) v' → Q .normal (putAll a ((d3, v') :: (d2, v') :: (d1, .slice (some ⟨w.heap.size, 0, none⟩) 1 1) :: e)) W) :
    RunE Tryd.prog ops Q (fun w' => HeldC w0 w' []) [(i1, false), (i2, false), (i3, true)] a e w := by
  refine run_build_item z ho1 hd1 rfl hx (fun W1 hW1 => ?_)
  have hb1 : Below w0.heap.size w0 W1 := hW1 ▸ hr.below.alloc hr.below.size _
  have hK : W1.heap[w.heap.size]? = some (.cells #[.int .i64 z.n, .int .i64 z.d, .string z.t] 67 (0, 0)) := hW1 ▸ blk_new w _ rfl
  have hO : W1.ownsRow w0.heap.size 67 3 v0 l.length (itCells l) := hW1 ▸ ownsRow_below hr.row (below1 w _)
  refine ⟨⟨hb1, (fun _ h => by cases h)⟩, run_app_item z ho2 hd2 rfl (hs _) (look_new _ _) hO hK hn hb1.size (fun v' W2 hO2 hg2 => ?_)⟩
  have hN : ItR w0 W2 (l ++ [z]) v' := ⟨hO2, hb1.grown hg2 hb1.size (fun r hr' => (hO.lt r hr').1)⟩
  exact ⟨⟨hN.below, (fun _ h => by cases h)⟩, run_asg ho3 hd3 rfl (look_new _ _) (run_done (h v' W2 hN))⟩
end
end Go.Proofs.YtddebgmjolojeaaDoor

/- Chapter 7: problems, the first equal element. -/
namespace Go.Proofs.YtddebgmjolojeaaDoor
open Go.RowKit
set_option maxRecDepth 100000
set_option linter.unusedVariables false

/-- "not an atomic vector" and its like. -/
def natB : ByteArray := ⟨#[110, 111, 116, 32, 97, 110, 32, 97, 116, 111, 109, 105, 99, 32, 118, 101, 99, 116, 111, 114]⟩
def nlgB : ByteArray := ⟨#[110, 111, 116, 32, 97, 32, 108, 111, 103, 105, 99, 97, 108, 32, 118, 101, 99, 116, 111, 114]⟩
def nelB : ByteArray := ⟨#[110, 111, 116, 32, 97, 32, 118, 101, 99, 116, 111, 114, 32, 111, 102, 32, 101, 108, 101, 109, 101, 110, 116, 115]⟩
def kindV (v : Vec) : Int := match v with | .mk k _ _ _ _ _ _ _ => k
/-- The problem of a vector that must be atomic or NULL. -/
noncomputable def atmS (v : Vec) : ByteArray := match bB (ValidV v), bB (kindV v ≤ 3) with | false, _ => badB | true, false => natB | true, true => ⟨#[]⟩
theorem atmS_bad {v : Vec} (h : ¬ ValidV v) : atmS v = badB := by unfold atmS; rw [bB_no h]
theorem atmS_non {v : Vec} (h : ValidV v) (hk : ¬ kindV v ≤ 3) : atmS v = natB := by unfold atmS; rw [bB_yes h, bB_no hk]
theorem atmS_yes {v : Vec} (h : ValidV v) (hk : kindV v ≤ 3) : atmS v = ⟨#[]⟩ := by unfold atmS; rw [bB_yes h, bB_yes hk]
theorem atmS_iff {v : Vec} : atmS v = ⟨#[]⟩ ↔ (ValidV v ∧ kindV v ≤ 3) := by
  constructor
  · intro e
    by_cases h : ValidV v
    · by_cases hk : kindV v ≤ 3
      · exact ⟨h, hk⟩
      · rw [atmS_non h hk] at e; exact absurd e (by decide)
    · rw [atmS_bad h] at e; exact absurd e (by decide)
  · intro h; exact atmS_yes h.1 h.2
/-- Is r the first place of x in l, or -1? -/
def FirstIs (l : List It) (x : It) (r : Int) : Prop := (r = -1 ∧ ∀ i, i < l.length → l.getD i noI ≠ x) ∨ ∃ j : Nat, r = j ∧ j < l.length ∧ l.getD j noI = x ∧ ∀ i, i < j → l.getD i noI ≠ x
/-- Is there an equal element ahead? -/
def DupAt (l : List It) (i : Nat) : Prop := ∃ j, j < i ∧ l.getD j noI = l.getD i noI
theorem first_dup {l : List It} {i : Nat} {r : Int} (hi : i < l.length) (h : FirstIs l (l.getD i noI) r) : 0 ≤ r ∧ r ≤ i ∧ (r = i ↔ ¬ DupAt l i) := by
  rcases h with ⟨_, h⟩ | ⟨j, rfl, hj, he, hn⟩
  · exact absurd rfl (h i hi)
  · have hle : j ≤ i := by
      rcases Nat.lt_or_ge i j with h | h
      · exact absurd rfl (hn i h)
      · exact h
    refine ⟨by omega, by omega, ⟨fun e => ?_, fun h => ?_⟩⟩
    · rintro ⟨q, hq, e2⟩
      exact hn q (by omega) e2
    · rcases Nat.lt_or_ge j i with h1 | h1
      · exact absurd ⟨j, h1, he⟩ h
      · omega
theorem first_take {l : List It} {i : Nat} {r : Int} (hi : i < l.length) (h : FirstIs (l.take i) (l.getD i noI) r) : 0 ≤ r ↔ DupAt l i := by
  have hl : (l.take i).length = i := by rw [List.length_take]; omega
  have hg : ∀ j, j < i → (l.take i).getD j noI = l.getD j noI := fun j hj => by simp [List.getD_eq_getElem?_getD, hj]
  rcases h with ⟨rfl, h⟩ | ⟨j, rfl, hj, he, _⟩
  · refine ⟨fun h0 => absurd h0 (by omega), fun ⟨j, hj, e⟩ => ?_⟩
    exact absurd ((hg j hj).trans e) (h j (by omega))
  · rw [hl] at hj
    exact ⟨fun _ => ⟨j, hj, (hg j hj).symm.trans he⟩, fun _ => by omega⟩
theorem eql_no {w' : World} {x y : It} {X Y : Operand} (h : x ≠ y) :
    (do eqGuard .eql 67 X Y (.agg #[.int .i64 x.n, .int .i64 x.d, .string x.t]) (.agg #[.int .i64 y.n, .int .i64 y.d, .string y.t]); binOp .eql 67 (.agg #[.int .i64 x.n, .int .i64 x.d, .string x.t]) (.agg #[.int .i64 y.n, .int .i64 y.d, .string y.t]) : Sem Value).run Tryd.prog w' = .ok (.bool false) w' := by
  obtain ⟨xn, xd, xt⟩ := x
  obtain ⟨yn, yd, yt⟩ := y
  have hm : Tryd.prog.eqGuardType Tryd.prog.depth 67 = false := by kernel_rfl
  rw [Sem.run_bind, run_eqGuard_agg (hm := hm)]
  show (binOp .eql 67 _ _).run Tryd.prog w' = _
  rw [run_eql_struct]
  by_cases h0 : xn = yn
  · subst h0
    by_cases h1 : xd = yd
    · subst h1
      have h2 : ¬ xt.toList = yt.toList := fun e => h (by rw [toList_inj e])
      simp [go_sem, h2]
    · simp [go_sem, h1]
  · simp [go_sem, h0]
section
variable {ops : Array Oper} {Q : Exit → Act → World → Prop} {S : World → Prop}
variable {r : List (Nat × Bool)} {a : Act} {e : List (Nat × Value)} {w : World} {i d : Nat} {g : Option (Nat × Bool)}
/-- A slice up to an element. -/
theorem run_upto {x y : Operand} {b off n c k : Nat} (ho : opAt ops i = some (some d, .slice 28 x none (some y) none, g)) (hd : Nat.blt d a.tmps.size = true) (hw : wantE ops a e g = some true)
    (hx : lookO a e x = .slice (some ⟨b, off, none⟩) n c) (hy : lookO a e y = .int .i64 (k : Int)) (hk : k < n) (hc : n ≤ c)
    (h : RunE Tryd.prog ops Q S r a ((d, .slice (some ⟨b, off, none⟩) k c) :: e) w) : RunE Tryd.prog ops Q S ((i, true) :: r) a e w :=
  run_yield ho hd hw (fun o w' h1 _ => by
    unfold execOp; rw [h1]
    simp only [hx, Option.map_some, Option.map_none, hy]
    refine run_v ?_
    obtain ⟨ie, hie, _, hsz, _⟩ := info_parts infoItm3
    have he : Tryd.prog.elem 28 = 67 := by kernel_rfl
    have hie0 := hie
    rw [← he] at hie
    have hu : Tryd.prog.underlying 28 = some (.slice (Tryd.prog.elem 28)) := by kernel_rfl
    rw [run_sliceAt_slice (h := hu), run_slice_any (ht := hu)]
    have e1 : (Instr.sliceBounds true n c none (some (.int .i64 (k : Int))) none).run Tryd.prog w' = .ok (0, k, c) w' := by
      have e0 : (Instr.sliceBound (.int .i64 (k : Int)) c .sliceAcap).run Tryd.prog w' = .ok k w' := run_sliceBound w' .i64 (k : Int) c _ (by omega) (by omega)
      simp [Instr.sliceBounds, e0]
    rw [e1]
    simp only [Result.andThen_ok, sizeOf, typeInfo]
    simp [go_sem, sliced, hie0]) h
theorem run_min2 {P : Program} {S : World → Prop} {x y : Operand} {ats : Array TypeId} {p q z : Int} (ho : opAt ops i = some (some d, .call { callee := .builtin .min, args := [x, y].toArray, argTypes := ats }, g)) (hd : Nat.blt d a.tmps.size = true)
    (hw : wantE ops a e g = some true) (hx : lookO a e x = .int .i64 p) (hy : lookO a e y = .int .i64 q) (hz : (if q < p then q else p) = z)
    (h : RunE P ops Q S r a ((d, .int .i64 z) :: e) w) : RunE P ops Q S ((i, true) :: r) a e w :=
  run_yield ho hd hw (fun o w' h1 _ => by
    unfold execOp; rw [h1]
    have hx' : [x, y].toArray.map (lookO a e) = #[.int .i64 p, .int .i64 q] := by simp [hx, hy]
    have key : ∀ cs, (builtin .min ats o.type cs ([x, y].toArray.map (lookO a e))).run P w' = .ok (.value (.int .i64 z)) w' := fun cs => by
      rw [hx']
      show (do pure (.value (← Builtin.min_ ats o.type #[.int .i64 p, .int .i64 q])) : Sem Next).run P w' = _
      refine run_v ?_
      rw [run_min_int2, hz]
    exact key #[]) h
end
theorem ItemsAt.take {lo hi : Nat} {w : World} {a : Option Addr} {l : List It} (h : ItemsAt lo hi w a l) (k : Nat) : ItemsAt lo hi w a (l.take k) := fun i x hx => by
  rw [List.getElem?_take] at hx
  split at hx
  · exact h i x hx
  · cases hx
end Go.Proofs.YtddebgmjolojeaaDoor

/- The implicit class of a vector, both sides. -/
namespace Go.Proofs.YtddebgmjolojeaaDoor
open Go.RowKit
set_option maxRecDepth 100000
set_option linter.unusedVariables false

def nameB (k : Int) : ByteArray := if k = 0 then ⟨#[78, 85, 76, 76]⟩ else if k = 1 then ⟨#[108, 111, 103, 105, 99, 97, 108]⟩ else if k = 2 then ⟨#[110, 117, 109, 101, 114, 105, 99]⟩ else if k = 3 then ⟨#[99, 104, 97, 114, 97, 99, 116, 101, 114]⟩ else if k = 4 then ⟨#[108, 105, 115, 116]⟩ else ⟨#[102, 117, 110, 99, 116, 105, 111, 110]⟩
noncomputable def clsV (v : Vec) : List ByteArray := match bB (ValidV v), v with
  | true, .mk k _ _ _ cls _ _ _ => if cls.length = 0 then [nameB k] else cls
  | false, _ => []
theorem cls_no {v : Vec} (h : ¬ ValidV v) : clsV v = [] := by unfold clsV; rw [bB_no h]
theorem cls_own {k : Int} {items : List It} {parts : List Vec} {names cls levels : List ByteArray} {code env : Int} (h : ValidV (.mk k items parts names cls levels code env)) (hc : 0 < cls.length) : clsV (.mk k items parts names cls levels code env) = cls := by
  unfold clsV; rw [bB_yes h]; simp only; rw [if_neg (by omega)]
theorem cls_name {k : Int} {items : List It} {parts : List Vec} {names cls levels : List ByteArray} {code env : Int} (h : ValidV (.mk k items parts names cls levels code env)) (hc : cls.length = 0) : clsV (.mk k items parts names cls levels code env) = [nameB k] := by
  unfold clsV; rw [bB_yes h]; simp only; rw [if_pos hc]
theorem one_own {w : World} {g : Nat} {s : ByteArray} {fr : Nat × Nat} (h : w.heap[g]? = some (.cells #[.string s] 9 (0, 0))) : OwnTxs w (some ⟨g, 0, none⟩) [s] [g] :=
  .inr ⟨g, #[.string s], rfl, rfl, h, Nat.le_refl _, fun i hi => by
    have : i = 0 := by simp at hi; omega
    subst this; rfl⟩
/-- What both sides answer: a list of texts in a block of its own. -/
def ClassAns (v : Vec) (w : World) (e : Ending) (w' : World) : Prop := ∃ a c F, e = .returned (.slice a (clsV v).length c) ∧ OwnTxs w' a (clsV v) F ∧ F.Nodup ∧ (∀ b ∈ F, w.heap.size ≤ b ∧ b < w'.heap.size) ∧ Below w.heap.size w w'
end Go.Proofs.YtddebgmjolojeaaDoor

/- Lemmas for laws whose result lies in memory. -/
namespace Go.Proofs.YtddebgmjolojeaaDoor
open Go.RowKit
set_option maxRecDepth 100000
set_option linter.unusedVariables false

theorem eqTxB (l : List ByteArray) (a b : Option Addr) (ca cb lo hi lo' hi' : Nat) (w : World) (ha : TextsAt lo hi w a l) (hb : TextsAt lo' hi' w b l) (hn : l.length ≤ 1048576) :
    Calls Tryd.prog 19 #[.slice a l.length ca, .slice b l.length cb] w fun e w' => e = .returned (.bool true) ∧ Below w.heap.size w w' := by
  refine (eqStrs a b l.length ca cb (txtS l) (txtS l) (max hi hi') w (ha.strs.mono (Nat.le_max_left _ _)) (hb.strs.mono (Nat.le_max_right _ _)) (by omega) (fun _ _ => rfl)).mono ?_
  rintro e w' ⟨rfl, m, rfl⟩
  exact ⟨rfl, below_drewN' (Below.refl _ _) m⟩
theorem sumN_le2 {f g : Nat → Nat} {n : Nat} (h : ∀ i, i < n → f i ≤ 3 * g i + 3) : sumN f n ≤ 3 * sumN g n + 3 * n := by
  induction n with
  | zero => simp [sumN]
  | succ n ih =>
    have h1 := ih (fun i hi => h i (by omega))
    have h2 := h n (by omega)
    simp only [sumN]
    omega
theorem cntM_le : ∀ (d : Nat) (v : Vec), cntM d v ≤ 3 * wV d v
  | 0, v => Nat.zero_le _
  | d + 1, .mk k items parts names cls levels code env => by
    rw [cntM_eq]
    have e : wV (d + 1) (.mk k items parts names cls levels code env) = (items.length + sumF (txtI items) items.length) + (parts.length + sumN (fun i => wV d (parts.getD i noV)) parts.length) + (names.length + sumF (txtS names) names.length) + (cls.length + sumF (txtS cls) cls.length) + (levels.length + sumF (txtS levels) levels.length) := rfl
    rw [e]
    have h : cntP d parts parts.length ≤ 3 * sumN (fun i => wV d (parts.getD i noV)) parts.length + 3 * parts.length := sumN_le2 (fun i _ => by have := cntM_le d (parts.getD i noV); omega)
    omega
theorem clsV_len (v : Vec) : (clsV v).length ≤ 3 := by
  by_cases h : ValidV v
  · obtain ⟨k, items, parts, names, cls, levels, code, env⟩ := v
    by_cases hc : 0 < cls.length
    · rw [cls_own h hc]; exact (FlatOk.h_cls h.1.flat).1
    · rw [cls_name h (by omega)]; simp
  · rw [cls_no h]; simp
theorem OwnTxs.texts {w : World} {a : Option Addr} {l : List ByteArray} {F : List Nat} {hi : Nat} (h : OwnTxs w a l F) (hF : ∀ b ∈ F, b < hi) : TextsAt 0 hi w a l := h.at_ (fun b hb => ⟨Nat.zero_le _, hF b hb⟩)
end Go.Proofs.YtddebgmjolojeaaDoor

/- Laws whose argument is a vector and whose result is one. -/
namespace Go.Proofs.YtddebgmjolojeaaDoor
open Go.RowKit
set_option maxRecDepth 100000
set_option linter.unusedVariables false

theorem VecAt.agg {lo hi : Nat} {w : World} {d : Nat} {v : Vec} {y : Value} (h : VecAt lo hi w d v y) : ∃ (k : Int) (a1 : Option Addr) (n1 m1 : Nat) (a2 : Option Addr) (n2 m2 : Nat) (a3 : Option Addr) (n3 m3 : Nat) (a4 : Option Addr) (n4 m4 : Nat) (a5 : Option Addr) (n5 m5 : Nat) (code env : Int), y = .agg #[.int .i64 k, .slice a1 n1 m1, .slice a2 n2 m2, .slice a3 n3 m3, .slice a4 n4 m4, .slice a5 n5 m5, .int .i64 code, .int .i64 env] := by
  obtain ⟨k, items, parts, names, cls, levels, code, env⟩ := v
  obtain ⟨d', ai, ci, ap, cp, an, cn, ac, cc, al, cl, ed, e, _⟩ := vecAt_open h
  exact ⟨_, _, _, _, _, _, _, _, _, _, _, _, _, _, _, _, _, _, e⟩
theorem toVecR (d : Nat) (v : Vec) (x : Value) (lo hi : Nat) (w : World) (hv : VecAt lo hi w d v x) (hhi : hi ≤ w.heap.size) (hsm : Small d v) :
    Calls Tryd.prog 7 #[x] w (ResV d v w) := by
  refine ((toAll d).out v x lo hi w hv hhi hsm).mono ?_
  rintro e w' ⟨y, F, rfl, ho, hn, hr, hb⟩
  exact ⟨y, rfl, ⟨F, ho, hn, hr⟩, hb⟩
theorem markOwnX (d : Nat) (V : Vec) (y : Value) (lo hi : Nat) (w : World) (h : Own d V y lo hi w) (hh : hi ≤ w.heap.size) (hs : Small d V) (hc : 1 + cntM d V ≤ 8000000) :
    Calls Tryd.prog 10 #[y, .int .i64 1] w fun e w' => e = .returned (.int .i64 ((1 + cntM d V : Nat) : Int)) ∧ Within lo hi w w' := by
  refine (markOwn d V y lo hi w h hh hs hc).mono ?_
  rintro e w' ⟨rfl, _, t⟩
  exact ⟨rfl, t⟩
/-- The zero value, or a vector of items and names that fit. -/
def PlainN (V : Vec) : Prop := V = noV ∨ ∃ k l names, V = mkN k l names ∧ (-9223372036854775808 ≤ k ∧ k ≤ 9223372036854775807) ∧ l.length ≤ 40 ∧ (∀ x ∈ l, InB x ∧ x.t.size ≤ 1048576) ∧ names.length ≤ 1048576 ∧ ∀ s ∈ names, s.size ≤ 1048576
theorem PlainN.small {V : Vec} (h : PlainN V) : Small 1 V := by
  rcases h with rfl | ⟨k, l, names, rfl, hk, hl, hx, hn, hs⟩
  · exact small_noV
  · exact small_mkN (by omega) (fun x h => (hx x h).2) hn hs
theorem PlainN.fits {V : Vec} (h : PlainN V) : Fits 1 V := by
  rcases h with rfl | ⟨k, l, names, rfl, hk, hl, hx, hn, hs⟩
  · exact fits_noV
  · exact fits_mkN hk (by omega) (fun x h => (hx x h).1) hn hs
theorem PlainN.cnt {V : Vec} (h : PlainN V) : 1 + cntM 1 V ≤ 8000000 := by
  rcases h with rfl | ⟨k, l, names, rfl, hk, hl, hx, hn, hs⟩
  · rw [cnt_noV]; omega
  · rw [cnt_mkN]; omega
end Go.Proofs.YtddebgmjolojeaaDoor

/- Rows of vectors that a call builds by append. -/
namespace Go.Proofs.YtddebgmjolojeaaDoor
open Go.RowKit
set_option maxRecDepth 100000
set_option linter.unusedVariables false

def cl8 : Value → List Value
  | .agg cs => cs.toList
  | _ => []
def Is8 (v : Value) : Prop := ∃ c0 c1 c2 c3 c4 c5 c6 c7, v = .agg #[c0, c1, c2, c3, c4, c5, c6, c7]
theorem OwnVec.is8 {w : World} {d : Nat} {v : Vec} {y : Value} {F : List Nat} (h : OwnVec w d v y F) : Is8 y := by
  obtain ⟨k, a1, n1, m1, a2, n2, m2, a3, n3, m3, a4, n4, m4, a5, n5, m5, code, env, rfl⟩ := h.agg
  exact ⟨_, _, _, _, _, _, _, _, rfl⟩
theorem flat8_len : ∀ vals : List Value, (∀ v ∈ vals, Is8 v) → (vals.flatMap cl8).length = vals.length * 8
  | [], _ => rfl
  | v :: vals, h => by
    obtain ⟨c0, c1, c2, c3, c4, c5, c6, c7, rfl⟩ := h v (List.mem_cons_self ..)
    have := flat8_len vals (fun x hx => h x (List.mem_cons_of_mem _ hx))
    simp only [List.flatMap_cons, List.length_append, this, cl8, List.length_cons, List.length_nil]
    omega
theorem flat8_at : ∀ (vals : List Value), (∀ v ∈ vals, Is8 v) → ∀ i, i < vals.length → ∃ c0 c1 c2 c3 c4 c5 c6 c7, vals.getD i undef = .agg #[c0, c1, c2, c3, c4, c5, c6, c7] ∧
    (vals.flatMap cl8)[i * 8]? = some c0 ∧ (vals.flatMap cl8)[i * 8 + 1]? = some c1 ∧ (vals.flatMap cl8)[i * 8 + 2]? = some c2 ∧ (vals.flatMap cl8)[i * 8 + 3]? = some c3 ∧ (vals.flatMap cl8)[i * 8 + 4]? = some c4 ∧ (vals.flatMap cl8)[i * 8 + 5]? = some c5 ∧ (vals.flatMap cl8)[i * 8 + 6]? = some c6 ∧ (vals.flatMap cl8)[i * 8 + 7]? = some c7
  | [], _, _, h => by cases h
  | v :: vals, h, 0, _ => by
    obtain ⟨c0, c1, c2, c3, c4, c5, c6, c7, rfl⟩ := h v (List.mem_cons_self ..)
    exact ⟨c0, c1, c2, c3, c4, c5, c6, c7, rfl, rfl, rfl, rfl, rfl, rfl, rfl, rfl, rfl⟩
  | v :: vals, h, i + 1, hi => by
    obtain ⟨d0, d1, d2, d3, d4, d5, d6, d7, rfl⟩ := h v (List.mem_cons_self ..)
    obtain ⟨c0, c1, c2, c3, c4, c5, c6, c7, e, m⟩ := flat8_at vals (fun x hx => h x (List.mem_cons_of_mem _ hx)) i (by simpa using hi)
    refine ⟨c0, c1, c2, c3, c4, c5, c6, c7, by simpa using e, ?_⟩
    have key : ∀ j, ((Value.agg #[d0, d1, d2, d3, d4, d5, d6, d7] :: vals).flatMap cl8)[(i + 1) * 8 + j]? = (vals.flatMap cl8)[i * 8 + j]? := fun j => by
      have e1 : (i + 1) * 8 + j = (i * 8 + j) + 8 := by omega
      rw [e1]; rfl
    have k0 := key 0
    simp only [Nat.add_zero] at k0
    rw [k0, key 1, key 2, key 3, key 4, key 5, key 6, key 7]
    exact m
/-- A slice of vectors, each with its own blocks. -/
def OwnParts (w : World) (d : Nat) (v : Value) (parts : List Vec) (F : List Nat) : Prop := ∃ ap cp, v = .slice ap parts.length cp ∧ parts.length ≤ cp ∧
  ((parts = [] ∧ F = []) ∨ ∃ b C, ∃ Fs : List (List Nat), F = b :: Fs.flatten ∧ Fs.length = parts.length ∧ ap = some ⟨b, 0, none⟩ ∧ w.heap[b]? = some (.cells C 31 (0, 0)) ∧ parts.length * 8 ≤ C.size ∧
    ∀ i, i < parts.length → ∃ val, OwnVec w d (parts.getD i noV) val (Fs.getD i []) ∧ Eight C i val)
/-- What a loop that appends vectors keeps. -/
structure RowV (w wr : World) (d : Nat) (parts : List Vec) (k : Nat) (v : Value) : Prop where
  ex : ∃ (vals : List Value) (Fs : List (List Nat)), vals.length = k ∧ Fs.length = k ∧ wr.ownsRow w.heap.size 31 8 v k (vals.flatMap cl8) ∧
    (∀ i, i < k → OwnVec wr d (parts.getD i noV) (vals.getD i undef) (Fs.getD i [])) ∧ Fs.flatten.Nodup ∧ (∀ b ∈ Fs.flatten, w.heap.size ≤ b ∧ b < wr.heap.size ∧ v.ownBlock ≠ some b)
  below : Below w.heap.size w wr
theorem RowV.start (w : World) (d : Nat) (parts : List Vec) : RowV w w d parts 0 (.slice none 0 0) :=
  ⟨⟨[], [], rfl, rfl, ⟨rfl, .inl ⟨rfl, rfl⟩⟩, fun i h => absurd h (Nat.not_lt_zero _), List.nodup_nil, fun b h => by cases h⟩, Below.refl _ _⟩
theorem RowV.is8 {vals : List Value} {k d : Nat} {parts : List Vec} {Fs : List (List Nat)} {wr : World} (hl : vals.length = k) (h : ∀ i, i < k → OwnVec wr d (parts.getD i noV) (vals.getD i undef) (Fs.getD i [])) : ∀ v ∈ vals, Is8 v := by
  intro v hv
  obtain ⟨i, hi, e⟩ := mem_getD (z := undef) hv
  rw [← e]
  exact (h i (by omega)).is8
theorem RowV.row {w wr : World} {d k : Nat} {parts : List Vec} {v : Value} (h : RowV w wr d parts k v) : ∃ xs, wr.ownsRow w.heap.size 31 8 v k xs := by
  obtain ⟨vals, Fs, _, _, hr, _⟩ := h.ex
  exact ⟨_, hr⟩
/-- Behind the copy of an element and the slice of one. -/
theorem RowV.keep {w wr w1 : World} {d k : Nat} {parts : List Vec} {v : Value} (h : RowV w wr d parts k v) (hb : Below wr.heap.size wr w1) : RowV w w1 d parts k v := by
  obtain ⟨vals, Fs, h1, h2, h3, h4, h5, h6⟩ := h.ex
  exact ⟨⟨vals, Fs, h1, h2, ownsRow_below h3 hb, fun i hi => (h4 i hi).kept _ _ _ _ (fun b hb' => hb.block b (h6 b (mem_flat (by omega) hb')).2.1), h5, fun b hb' => ⟨(h6 b hb').1, Nat.lt_of_lt_of_le (h6 b hb').2.1 hb.size, (h6 b hb').2.2⟩⟩, below_then h.below hb⟩
theorem RowV.next {w wr w1 w2 : World} {d k : Nat} {parts : List Vec} {v v' : Value} {c0 c1 c2 c3 c4 c5 c6 c7 : Value} {s1 : Nat} (h : RowV w wr d parts k v) (ho : Own d (parts.getD k noV) (.agg #[c0, c1, c2, c3, c4, c5, c6, c7]) s1 w1.heap.size w1) (hs : wr.heap.size ≤ s1) (hb : Below wr.heap.size wr w1)
    (hg : (w1.alloc (.cells #[c0, c1, c2, c3, c4, c5, c6, c7] 31)).grownBy w2 v.ownBlock) (hr : ∀ xs, wr.ownsRow w.heap.size 31 8 v k xs → w2.ownsRow w.heap.size 31 8 v' (k + 1) (xs ++ [c0, c1, c2, c3, c4, c5, c6, c7])) (hv : v'.ownBlock = v.ownBlock ∨ v'.ownBlock = some (w1.alloc (.cells #[c0, c1, c2, c3, c4, c5, c6, c7] 31)).heap.size) : RowV w w2 d parts (k + 1) v' := by
  obtain ⟨vals, Fs, h1, h2, h3, h4, h5, h6⟩ := h.ex
  obtain ⟨F, g1, g2, g3⟩ := ho.out
  have hsz : (w1.alloc (.cells #[c0, c1, c2, c3, c4, c5, c6, c7] 31)).heap.size = w1.heap.size + 1 := by simp
  have hbs := hb.size
  have hown : ∀ j, v.ownBlock = some j → w.heap.size ≤ j ∧ j < wr.heap.size := h3.lt
  have keep : ∀ b, b < w1.heap.size → v.ownBlock ≠ some b → w2.heap[b]? = w1.heap[b]? := fun b hb1 hb2 => (hg.block b (by omega) (fun e => hb2 e.symm)).trans ((below1 w1 _).block b hb1)
  have old : ∀ b ∈ Fs.flatten, w2.heap[b]? = wr.heap[b]? := fun b hb' => (keep b (by have := h6 b hb'; omega) (h6 b hb').2.2).trans (hb.block b (h6 b hb').2.1)
  have new : ∀ b ∈ F, w2.heap[b]? = w1.heap[b]? := fun b hb' => keep b (g3 b hb').2 (fun e => by have := hown b e; have := g3 b hb'; omega)
  refine ⟨⟨vals ++ [Value.agg #[c0, c1, c2, c3, c4, c5, c6, c7]], Fs ++ [F], by simp [h1], by simp [h2], ?_, fun i hi => ?_, ?_, fun b hb' => ?_⟩, ?_⟩
  · have := hr _ h3
    rw [List.flatMap_append]
    exact this
  · by_cases e : i = k
    · subst e
      have e1 : (vals ++ [Value.agg #[c0, c1, c2, c3, c4, c5, c6, c7]]).getD i undef = .agg #[c0, c1, c2, c3, c4, c5, c6, c7] := by rw [List.getD_eq_getElem?_getD, List.getElem?_append_right (by omega)]; simp [h1]
      have e2 : (Fs ++ [F]).getD i [] = F := by rw [List.getD_eq_getElem?_getD, List.getElem?_append_right (by omega)]; simp [h2]
      rw [e1, e2]
      exact g1.kept _ _ _ _ new
    · have e1 : (vals ++ [Value.agg #[c0, c1, c2, c3, c4, c5, c6, c7]]).getD i undef = vals.getD i undef := by rw [List.getD_eq_getElem?_getD, List.getD_eq_getElem?_getD, List.getElem?_append_left (by omega)]
      have e2 : (Fs ++ [F]).getD i [] = Fs.getD i [] := by rw [List.getD_eq_getElem?_getD, List.getD_eq_getElem?_getD, List.getElem?_append_left (by omega)]
      rw [e1, e2]
      exact (h4 i (by omega)).kept _ _ _ _ (fun b hb' => old b (mem_flat (by omega) hb'))
  · rw [List.flatten_append, List.nodup_append]
    refine ⟨h5, by simpa using g2, fun x hx y hy e => ?_⟩
    have h7 := h6 x hx
    have h8 := g3 y (by simpa using hy)
    omega
  · have hw2 := hg.size
    rw [List.flatten_append, List.mem_append] at hb'
    rcases hb' with hb' | hb'
    · have h7 := h6 b hb'
      refine ⟨h7.1, by omega, fun e => ?_⟩
      rcases hv with hv | hv
      · exact h7.2.2 (hv ▸ e)
      · rw [e, hsz] at hv; have := Option.some.inj hv; omega
    · have hb'' : b ∈ F := by simpa using hb'
      have h7 := g3 b hb''
      have h8 := h.below.size
      refine ⟨by omega, by omega, fun e => ?_⟩
      rcases hv with hv | hv
      · have := hown b (hv ▸ e); omega
      · rw [e, hsz] at hv; have := Option.some.inj hv; omega
  · have h8 := h.below.size
    exact ((below_then h.below hb).alloc (by omega) _).grown hg (by omega) (fun r hr' => (hown r hr').1)
theorem RowV.parts {w wr : World} {d : Nat} {parts : List Vec} {v : Value} (h : RowV w wr d parts parts.length v) : ∃ F, OwnParts wr d v parts F ∧ F.Nodup ∧ ∀ b ∈ F, w.heap.size ≤ b ∧ b < wr.heap.size := by
  obtain ⟨vals, Fs, h1, h2, ⟨hl, h3⟩, h4, h5, h6⟩ := h.ex
  rcases h3 with ⟨rfl, h0⟩ | ⟨g, cap, cur, rfl, hB, hg, hc, _, hs, ht⟩
  · have hp : parts = [] := List.eq_nil_of_length_eq_zero h0
    subst hp
    exact ⟨[], ⟨none, 0, rfl, Nat.le_refl _, .inl ⟨rfl, rfl⟩⟩, List.nodup_nil, fun _ hb => by cases hb⟩
  · have hgl := (Array.getElem?_eq_some_iff.1 hg).1
    refine ⟨g :: Fs.flatten, ⟨_, cap, rfl, hc, .inr ⟨g, cur, Fs, rfl, h2, rfl, hg, by omega, fun i hi => ⟨_, h4 i hi, ?_⟩⟩⟩, ?_, ?_⟩
    · obtain ⟨c0, c1, c2, c3, c4, c5, c6, c7, e, m0, m1, m2, m3, m4, m5, m6, m7⟩ := flat8_at vals (RowV.is8 h1 h4) i (by omega)
      have key : ∀ j, j < parts.length * 8 → cur[j]? = (vals.flatMap cl8)[j]? := fun j hj => by
        rw [← ht, List.getElem?_take_of_lt hj, Array.getElem?_toList]
      refine ⟨c0, c1, c2, c3, c4, c5, c6, c7, e, ?_, ?_, ?_, ?_, ?_, ?_, ?_, ?_⟩
      · rw [key _ (by omega)]; exact m0
      · rw [key _ (by omega)]; exact m1
      · rw [key _ (by omega)]; exact m2
      · rw [key _ (by omega)]; exact m3
      · rw [key _ (by omega)]; exact m4
      · rw [key _ (by omega)]; exact m5
      · rw [key _ (by omega)]; exact m6
      · rw [key _ (by omega)]; exact m7
    · rw [List.nodup_cons]
      exact ⟨fun hm => (h6 g hm).2.2 rfl, h5⟩
    · intro b hb
      rcases List.mem_cons.1 hb with rfl | hb
      · exact ⟨hB, hgl⟩
      · exact ⟨(h6 b hb).1, (h6 b hb).2.1⟩
end Go.Proofs.YtddebgmjolojeaaDoor

/- The program's copies of vectors. -/
namespace Go.Proofs.YtddebgmjolojeaaDoor
open Go.RowKit
set_option maxRecDepth 100000
set_option linter.unusedVariables false

theorem OwnParts.kept {w w1 : World} {d : Nat} {v : Value} {parts : List Vec} {F : List Nat} (h : OwnParts w d v parts F) (k : ∀ b ∈ F, w1.heap[b]? = w.heap[b]?) : OwnParts w1 d v parts F := by
  obtain ⟨ap, cp, e, hc, h⟩ := h
  refine ⟨ap, cp, e, hc, h.imp id ?_⟩
  rintro ⟨b, C, Fs, rfl, hl, ea, hb, hn, hp⟩
  exact ⟨b, C, Fs, rfl, hl, ea, (k b (by simp)).trans hb, hn, fun i hi => by
    obtain ⟨val, hv, m⟩ := hp i hi
    exact ⟨val, hv.kept _ _ _ _ (fun b' hb' => k b' (by have := mem_flat (by omega) hb'; simp only [List.mem_cons]; exact .inr this)), m⟩⟩
theorem ownsRow_same {w : World} {base : Nat} {el : TypeId} {size n : Nat} {v : Value} {xs ys : List Value} (h : w.ownsRow base el size v n xs) (k : w.ownsRow base el size v n ys) : xs = ys := by
  obtain ⟨hl, h⟩ := h
  obtain ⟨kl, k⟩ := k
  rcases h with ⟨rfl, h0⟩ | ⟨g, cap, cur, rfl, hB, hg, hc, _, hs, ht⟩
  · subst h0
    have hx : xs = [] := List.eq_nil_of_length_eq_zero (by simpa using hl)
    have hy : ys = [] := List.eq_nil_of_length_eq_zero (by simpa using kl)
    rw [hx, hy]
  · rcases k with ⟨e, _⟩ | ⟨g', cap', cur', e, _, hg', _, _, _, ht'⟩
    · simp at e
    · simp only [Value.slice.injEq, Option.some.injEq, Addr.mk.injEq, and_true, true_and] at e
      obtain ⟨rfl, rfl⟩ := e
      rw [hg] at hg'
      simp only [Option.some.injEq, Obj.cells.injEq, and_true] at hg'
      rw [← ht, ← ht', hg']
/-- A copy of items. -/
def CopyIt (base : Nat) (l : List It) (v : Value) (w : World) : Prop := ∃ sa sc F, v = .slice sa l.length sc ∧ OwnIts w sa l F ∧ F.Nodup ∧ (∀ b ∈ F, base ≤ b ∧ b < w.heap.size) ∧ l.length ≤ sc
theorem run_app0I {w : World} {dst : Value} {ty : TypeId} (hd : dst = .slice none 0 0 ∨ ∃ g, dst = .slice (some ⟨g, 0, none⟩) 0 0) (ad : Option Addr) (c : Nat) :
    (Builtin.append_ #[28, 28] ty #[dst, .slice ad 0 c]).run Tryd.prog w = .ok dst w := by
  obtain ⟨i0, hi0, hz0, hz1, hz2⟩ := info_parts infoItm3
  rcases ad with _ | ad <;> rcases hd with rfl | ⟨g, rfl⟩ <;> simp [Builtin.append_, run_underlying Tryd.underlying28, sizeOf, typeInfo, hi0, Builtin.lenOf, Builtin.firstCells, loadCells, loadCellsFrom, storeCells]
theorem itCells_in {w : World} {lo hi b off : Nat} {l : List It} (h : ItemsAt lo hi w (some ⟨b, off, none⟩) l) : ∀ j u, (itCells l)[j]? = some u → w.cell? ((⟨b, off, none⟩ : Addr).add j) = some u := by
  intro j u hj
  have hlt : j < l.length * 3 := by have := (List.getElem?_eq_some_iff.1 hj).1; rw [itCells_len] at this; exact this
  obtain ⟨i, r, hr, rfl⟩ : ∃ i r, r < 3 ∧ j = i * 3 + r := ⟨j / 3, j % 3, Nat.mod_lt _ (by decide), by omega⟩
  have hi : i < l.length := by omega
  obtain ⟨b', off', e, _, _, c0, c1, c2⟩ := h i _ (List.getElem?_eq_getElem hi)
  simp only [Option.some.injEq, Addr.mk.injEq, and_true] at e
  obtain ⟨rfl, rfl⟩ := e
  obtain ⟨m0, m1, m2⟩ := itCells_at l i hi
  have e1 : l.getD i noI = l[i] := by simp [List.getD_eq_getElem?_getD, List.getElem?_eq_getElem hi]
  unfold txtI at m2
  rw [e1] at m0 m1 m2
  rw [addr_add]
  rcases (show r = 0 ∨ r = 1 ∨ r = 2 by omega) with rfl | rfl | rfl
  · simp only [Nat.add_zero] at hj ⊢
    rw [m0] at hj; rw [c0]; exact hj
  · rw [m1] at hj; rw [← Nat.add_assoc, c1]; exact hj
  · rw [m2] at hj; rw [← Nat.add_assoc, c2]; exact hj
theorem items_some {w : World} {lo hi : Nat} {a : Option Addr} {l : List It} (h : ItemsAt lo hi w a l) (hpos : 0 < l.length) : ∃ b off, a = some ⟨b, off, none⟩ := by
  obtain ⟨b, off, e, _⟩ := h 0 _ (List.getElem?_eq_getElem hpos)
  exact ⟨b, off, e⟩
theorem wpList_copyItems {w : World} {ops : Array Oper} {rest : List Oper} {o : Oper} {a : Act} {Q : Exit → Act → World → Prop} (hgd : o.guard = none) (s x : Operand)
    (ho : o.op = .call { callee := .builtin .append, args := #[s, x], argTypes := #[28, 28] }) (base : Nat) (v0 : Value) (hs : a.eval s = v0)
    (hv0 : v0 = .slice none 0 0 ∨ ∃ g, base ≤ g ∧ v0 = .slice (some ⟨g, 0, none⟩) 0 0 ∧ w.heap[g]? = some (.cells #[] 67 (0, 0)))
    (ad : Option Addr) (c : Nat) (l : List It) (lo hi : Nat) (hx : a.eval x = .slice ad l.length c) (hT : ItemsAt lo hi w ad l) (hn : l.length ≤ 1048576) (hbase : base ≤ w.heap.size)
    (h : ∀ v' w', CopyIt base l v' w' → Below base w w' → wpList Tryd.prog ops Q rest (a.put o.dst v') w') : wpList Tryd.prog ops Q (o :: rest) a w := by
  by_cases hpos : 0 < l.length
  · obtain ⟨b, off, rfl⟩ := items_some hT hpos
    obtain ⟨i0, hi0, hz0, hz1, hz2⟩ := info_parts infoItm3
    have hown : w.ownsRow base 67 3 v0 0 [] := by
      rcases hv0 with rfl | ⟨g, hg, rfl, hb⟩
      · exact ⟨rfl, .inl ⟨rfl, rfl⟩⟩
      · exact ⟨rfl, .inr ⟨g, 0, #[], rfl, hg, hb, Nat.le_refl _, Nat.zero_le _, rfl, rfl⟩⟩
    refine wpList_append_own w hgd s x 28 ho base 67 i0 _ 3 32 Tryd.underlying28 hi0 hz0 hz1 hz2 rfl (by decide) v0 0 [] hs hown ⟨b, off, none⟩ l.length c (itCells l) hx (by rw [itCells_len]) (itCells_in hT) (itCells_one l) (by unfold maxLen; omega) (by omega) hbase (fun v' w' h1 h2 _ => ?_)
    have h1' : w'.ownsRow base 67 3 v' l.length (itCells l) := by simpa using h1
    obtain ⟨sa, c', F, rfl, ho, hn, hr, hc⟩ := own_of_its h1'
    refine h _ _ ⟨_, _, F, rfl, ho, hn, hr, hc⟩ ((Below.refl base w).grown h2 hbase (fun r hr => (hown.lt r hr).1))
  · obtain rfl : l = [] := List.eq_nil_of_length_eq_zero (by omega)
    have hrun := fun ty => run_app0I (w := w) (ty := ty) (hv0.imp id (fun ⟨g, _, e, _⟩ => ⟨g, e⟩)) ad c
    refine wpList_plain hgd fun K hK => ?_
    have hnext := h v0 w (by
      rcases hv0 with rfl | ⟨g, _, rfl, _⟩
      · exact ⟨none, 0, [], rfl, .inl ⟨rfl, rfl⟩, List.nodup_nil, (fun _ h => by cases h), Nat.le_refl _⟩
      · exact ⟨some ⟨g, 0, none⟩, 0, [], rfl, .inl ⟨rfl, rfl⟩, List.nodup_nil, (fun _ h => by cases h), Nat.le_refl _⟩) (Below.refl _ _)
    have hx' : a.eval x = .slice ad 0 c := hx
    unfold Oper.wp
    simp [execOp, ho, resolve, invoke, builtin, hs, hx', hrun, Result.andThen]
    exact hK _ _ hnext
/-- The contracts at depth d: one vector, and a slice of them. -/
structure ICV (d : Nat) : Prop where
  out : ∀ (v : Vec) (val : Value) (lo hi : Nat) (w : World), VecAt lo hi w d v val → hi ≤ w.heap.size → Small d v → Calls Tryd.prog 75 #[val] w (ResV d v w)
def ResP (d : Nat) (parts : List Vec) (w : World) (e : Ending) (w' : World) : Prop := ∃ v F, e = .returned v ∧ OwnParts w' d v parts F ∧ F.Nodup ∧ (∀ b ∈ F, w.heap.size ≤ b ∧ b < w'.heap.size) ∧ Below w.heap.size w w' ∧ ∃ xs, w'.ownsRow w.heap.size 31 8 v parts.length xs
structure ICS (d : Nat) : Prop where
  out : ∀ (parts : List Vec) (a : Option Addr) (c lo hi : Nat) (w : World), VecsAt lo hi w d a parts → hi ≤ w.heap.size → (∀ i, i < parts.length → Small d (parts.getD i noV)) → parts.length ≤ 1048576 → Calls Tryd.prog 76 #[.slice a parts.length c] w (ResP d parts w)
set_option maxHeartbeats 4000000 in
theorem icsStep (d : Nat) (IC : ICV d) : ICS d := by
  refine ⟨fun parts a cap lo hi w hs hhi hsm hn => ?_⟩
  have A := Lib.hid (fun (k : Nat) (w1 : World) (hk : k < parts.length) (hb : Below w.heap.size w w1) => (hs.below hb hhi).at_ hk)
  have C := Lib.hid (fun (k : Nat) (w1 : World) (x : Value) (hk : k < parts.length) (hb : Below w.heap.size w w1) (hv : VecAt lo hi w1 d (parts.getD k noV) x) => IC.out _ x lo hi w1 hv (Nat.le_trans hhi hb.size) (hsm k hk))
  have FIN := Lib.hid (fun (wr : World) (v : Value) (h : RowV w wr d parts parts.length v) => h.parts)
  clear hs hsm IC
  obtain ⟨n, hn'⟩ : ∃ n, parts.length = n := ⟨_, rfl⟩
  have HNn := Lib.hid hn'
  rw [hn'] at hn A C FIN ⊢
  clear hn'
  obtain ⟨i0, hi0, hz0, hz1, hz2⟩ := info_parts infoVec8
  go_enter Tryd.func76, Tryd.ntmps76
  go_wp2
  go_loopw [3, 8] (fun v i wr => ∃ k : Nat, k ≤ n ∧ i = .int .i64 k ∧ RowV w wr d parts k v) (fun _ i _ => n - (intOf i).toNat)
  case atStart => exact ⟨0, Nat.zero_le _, rfl, RowV.start w d parts⟩
  case round =>
    obtain ⟨k, hk, rfl, hr⟩ := hrel
    have RV := Lib.hid hr
    clear hr
    by_cases hlt : k < n
    · obtain ⟨b, off, u0, u1, u2, u3, u4, u5, u6, u7, rfl, hbB, hv, c0, c1, c2, c3, c4, c5, c6, c7⟩ := A.out _ _ hlt RV.out.below
      obtain ⟨pk, pa1, pn1, pm1, pa2, pn2, pm2, pa3, pn3, pm3, pa4, pn4, pm4, pa5, pn5, pm5, pc, pe, e⟩ := hv.agg
      simp only [Value.agg.injEq, Array.mk.injEq, List.cons.injEq, and_true] at e
      obtain ⟨rfl, rfl, rfl, rfl, rfl, rfl, rfl, rfl⟩ := e
      have HV := Lib.hid hv
      have hbw : b < wr.heap.size := Nat.lt_of_lt_of_le (Nat.lt_of_lt_of_le hbB hhi) RV.out.below.size
      clear hv
      go_wp2_with fail
      have b1 := Lib.hid (below1 wr (.cells #[.int .i64 pk, .slice pa1 pn1 pm1, .slice pa2 pn2 pm2, .slice pa3 pn3 pm3, .slice pa4 pn4 pm4, .slice pa5 pn5 pm5, .int .i64 pc, .int .i64 pe] 31))
      with_reducible refine (C.out _ _ _ hlt (below_then RV.out.below b1.out) (HV.out.below b1.out (Nat.le_trans hhi RV.out.below.size))).mono ?_
      rintro e w2 ⟨y, rfl, ho, hb⟩
      obtain ⟨yk, ya1, yn1, ym1, ya2, yn2, ym2, ya3, yn3, ym3, ya4, yn4, ym4, ya5, yn5, ym5, yc, ye, rfl⟩ := ho.agg
      have HO := Lib.hid ho
      have BW := Lib.hid (below_then b1.out hb)
      obtain ⟨xs, hxs⟩ := RV.out.row
      have XS := Lib.hid hxs
      have OR := Lib.hid (ownsRow_below (ownsRow_below hxs BW.out) (below1 w2 (.cells #[.int .i64 yk, .slice ya1 yn1 ym1, .slice ya2 yn2 ym2, .slice ya3 yn3 ym3, .slice ya4 yn4 ym4, .slice ya5 yn5 ym5, .int .i64 yc, .int .i64 ye] 31)))
      have S1 := Lib.hid (show w.heap.size ≤ w2.heap.size from (below_then RV.out.below BW.out).size)
      clear ho hb hxs c0 c1 c2 c3 c4 c5 c6 c7
      go_wp2_with (at_builtin; refine wpList_append_own_at _ rfl _ _ 29 rfl w.heap.size 31 i0 _ 8 144 Tryd.underlying29 hi0 hz0 hz1 hz2 rfl (by decide) _ k xs rfl OR.out ⟨w2.heap.size, 0, none⟩ 1 1 [.int .i64 yk, .slice ya1 yn1 ym1, .slice ya2 yn2 ym2, .slice ya3 yn3 ym3, .slice ya4 yn4 ym4, .slice ya5 yn5 ym5, .int .i64 yc, .int .i64 ye] rfl rfl ?c1 ?c2 ?c3 ?c4 ?c5 ?_)
      case c1 =>
        intro j u hj
        have hlt : j < 8 := by have := (List.getElem?_eq_some_iff.1 hj).1; simpa using this
        rw [addr_add, Nat.zero_add]
        refine cellOf (blk_new w2 _ rfl) ?_
        rw [← hj]
        rcases (show j = 0 ∨ j = 1 ∨ j = 2 ∨ j = 3 ∨ j = 4 ∨ j = 5 ∨ j = 6 ∨ j = 7 by omega) with rfl | rfl | rfl | rfl | rfl | rfl | rfl | rfl <;> rfl
      case c2 => intro u hu; simp only [List.mem_cons, List.not_mem_nil, or_false] at hu; rcases hu with rfl | rfl | rfl | rfl | rfl | rfl | rfl | rfl <;> rfl
      case c3 => unfold maxLen; omega
      case c4 => omega
      case c5 => have := S1.out; simp; omega
      intro v' w3 hown' hgrow _ hwh
      have NX := Lib.hid (RV.out.next HO.out (by simp) BW.out hgrow (fun ys hy => ownsRow_same XS.out hy ▸ hown') (by simpa using hwh))
      clear hown' hgrow hwh
      go_wp2
      go_roundw
      case rel => exact ⟨k + 1, by omega, by go_num, NX.out⟩
      case measure => simp [intOf]; omega
    · obtain rfl : k = n := by omega
      go_wp2
      obtain ⟨F, h1, h2, h3⟩ := FIN.out _ _ RV.out
      go_ret
      exact ⟨_, F, rfl, h1, h2, h3, RV.out.below, by rw [HNn.out]; exact RV.out.row⟩
set_option maxHeartbeats 4000000 in
theorem icvStep (d : Nat) (IS : ICS d) : ICV (d + 1) := by
  refine ⟨fun v val lo hi w hv hhi hsm => ?_⟩
  obtain ⟨kk, items, parts, names, cls, levels, code, env⟩ := v
  obtain ⟨d', ai, ci, ap, cp, an, cn, ac, cc, al, cl, ed, rfl, hI, hN, hC, hL, hP⟩ := vecAt_open hv
  obtain rfl : d = d' := by omega
  have hsp : ∀ i, i < parts.length → Small d (parts.getD i noV) := fun i hi => hsm.part hi
  obtain ⟨li, lp, ln, lc, ll, _⟩ := hsm
  have HI := Lib.hid (fun (w1 : World) (hb : Below w.heap.size w w1) => hI.below hb hhi)
  have CP := Lib.hid (fun (w1 : World) (hb : Below w.heap.size w w1) => IS.out parts ap cp lo hi w1 (hP.below hb hhi) (Nat.le_trans hhi hb.size) hsp lp)
  have CT3 := Lib.hid (fun (w1 : World) (hb : Below w.heap.size w w1) => implCopyAny names an cn lo hi w1 (hN.below hb hhi) ln)
  have CT4 := Lib.hid (fun (w1 : World) (hb : Below w.heap.size w w1) => implCopyAny cls ac cc lo hi w1 (hC.below hb hhi) lc)
  have CT5 := Lib.hid (fun (w1 : World) (hb : Below w.heap.size w w1) => implCopyAny levels al cl lo hi w1 (hL.below hb hhi) ll)
  clear hv hI hN hC hL hP hsp
  go_enter Tryd.func75, Tryd.ntmps75
  obtain ⟨w1, hw1⟩ : ∃ W, (w.alloc (.cells #[.int .i64 kk, .slice ai items.length ci, .slice ap parts.length cp, .slice an names.length cn, .slice ac cls.length cc, .slice al levels.length cl, .int .i64 code, .int .i64 env] 31)).alloc (.cells #[.int .i64 0, .slice none 0 0, .slice none 0 0, .slice none 0 0, .slice none 0 0, .slice none 0 0, .int .i64 0, .int .i64 0] 31) = W := ⟨_, rfl⟩
  have hsz : (w.alloc (.cells #[.int .i64 kk, .slice ai items.length ci, .slice ap parts.length cp, .slice an names.length cn, .slice ac cls.length cc, .slice al levels.length cl, .int .i64 code, .int .i64 env] 31)).heap.size = w.heap.size + 1 := by simp
  have B1 := Lib.hid (show Below w.heap.size w w1 from hw1 ▸ (below1 w _).alloc (by simp) _)
  have KA1 := Lib.hid (show w1.heap[w.heap.size]? = some (.cells #[.int .i64 kk, .slice ai items.length ci, .slice ap parts.length cp, .slice an names.length cn, .slice ac cls.length cc, .slice al levels.length cl, .int .i64 code, .int .i64 env] 31 (0, 0)) from hw1 ▸ blk_old (blk_new w _ rfl))
  have KR1 := Lib.hid (show w1.heap[w.heap.size + 1]? = some (.cells #[.int .i64 0, .slice none 0 0, .slice none 0 0, .slice none 0 0, .slice none 0 0, .slice none 0 0, .int .i64 0, .int .i64 0] 31 (0, 0)) from hw1 ▸ hsz ▸ blk_new (w.alloc (.cells #[.int .i64 kk, .slice ai items.length ci, .slice ap parts.length cp, .slice an names.length cn, .slice ac cls.length cc, .slice al levels.length cl, .int .i64 code, .int .i64 env] 31)) (.cells #[.int .i64 0, .slice none 0 0, .slice none 0 0, .slice none 0 0, .slice none 0 0, .slice none 0 0, .int .i64 0, .int .i64 0] 31) rfl)
  have hs1 : w.heap.size + 1 < w1.heap.size := (Array.getElem?_eq_some_iff.1 KR1.out).1
  have EW := Lib.hid hw1
  clear hw1 hsz
  go_wp2_with (at_builtin; rw [EW.out]; refine wpList_copyItems rfl _ _ rfl w1.heap.size _ rfl (.inl rfl) ai ci items lo hi rfl (HI.out _ B1.out) li (Nat.le_refl _) ?_)
  intro v' w2 hcp hb
  obtain ⟨q1, r1, F1, rfl, hT1, hn1, hr1, hc1⟩ := hcp
  have B2 := Lib.hid (below_then B1.out hb)
  have KA2 := Lib.hid (blk_below hb KA1.out)
  have KR2 := Lib.hid (blk_below hb KR1.out)
  have P1w2 := Lib.hid hT1
  have N1 := Lib.hid hn1
  have R1 := Lib.hid hr1
  have C1 := Lib.hid hc1
  have Z2 := Lib.hid hb.size
  clear hT1 hn1 hr1 hc1 hb
  have u2 : ∃ x, w2.cell? ⟨w.heap.size, 1, none⟩ = some x := ⟨_, cellOf KA2.out rfl⟩
  obtain ⟨x2, hx2⟩ := u2
  have hf2 : w2.frozen? ⟨w.heap.size, 1, none⟩ = false := freeOf KA2.out
  obtain ⟨w3, hw⟩ : ∃ W, w2.setCell ⟨w.heap.size, 1, none⟩ (.slice q1 items.length r1) = W := ⟨_, rfl⟩
  have KA3 := Lib.hid (show w3.heap[w.heap.size]? = some (.cells #[.int .i64 kk, .slice q1 items.length r1, .slice ap parts.length cp, .slice an names.length cn, .slice ac cls.length cc, .slice al levels.length cl, .int .i64 code, .int .i64 env] 31 (0, 0)) from hw ▸ Joins.block_setCell KA2.out _)
  have KR3 := Lib.hid (show w3.heap[w.heap.size + 1]? = some (.cells #[.int .i64 0, .slice none 0 0, .slice none 0 0, .slice none 0 0, .slice none 0 0, .slice none 0 0, .int .i64 0, .int .i64 0] 31 (0, 0)) from hw ▸ (Below.heap_setCell _ _ _ _ (by show w.heap.size + 1 ≠ w.heap.size; omega)).trans KR2.out)
  have B3 := Lib.hid (show Below w.heap.size w w3 from hw ▸ B2.out.setCell (p := ⟨w.heap.size, 1, none⟩) (Nat.le_refl _) _)
  have Z3 := Lib.hid (show w2.heap.size ≤ w3.heap.size from hw ▸ (by simp))
  have E3 := Lib.hid (show w3.heap.size = w2.heap.size from hw ▸ (by simp))
  have P1w3 := Lib.hid (show OwnIts w3 q1 items F1 from hw ▸ P1w2.out.kept (fun g hg => Below.heap_setCell _ _ _ _ (by have := R1.out g hg; show g ≠ w.heap.size; have := Z2.out; omega)))
  have EW3 := Lib.hid hw
  clear hw
  obtain ⟨k0, k1, k2, k3, k4, k5, k6, k7⟩ := vec8 KA2.out
  go_wp2_with fail
  rw [EW3.out]
  clear k0 k1 k2 k3 k4 k5 k6 k7 hx2 hf2
  with_reducible refine (CP.out _ B3.out).mono ?_
  rintro e w4 ⟨v, F2, rfl, hT, hn, hr, hb, _⟩
  obtain ⟨q2, r2, rfl, hcc, hT'⟩ := hT
  have P2w4 := Lib.hid (show OwnParts w4 d (.slice q2 parts.length r2) parts F2 from ⟨q2, r2, rfl, hcc, hT'⟩)
  clear hT'
  have B4 := Lib.hid (below_then B3.out hb)
  have KA4 := Lib.hid (blk_below hb KA3.out)
  have KR4 := Lib.hid (blk_below hb KR3.out)
  have N2 := Lib.hid hn
  have R2 := Lib.hid hr
  have C2 := Lib.hid hcc
  have Z4 := Lib.hid hb.size
  have P1w4 := Lib.hid (P1w3.out.kept (fun g hg => hb.block g (by have := R1.out g hg; have := Z2.out; have := Z3.out; omega)))
  clear hb hn hr hcc
  have u4 : ∃ x, w4.cell? ⟨w.heap.size, 2, none⟩ = some x := ⟨_, cellOf KA4.out rfl⟩
  obtain ⟨x4, hx4⟩ := u4
  have hf4 : w4.frozen? ⟨w.heap.size, 2, none⟩ = false := freeOf KA4.out
  obtain ⟨w5, hw⟩ : ∃ W, w4.setCell ⟨w.heap.size, 2, none⟩ (.slice q2 parts.length r2) = W := ⟨_, rfl⟩
  have KA5 := Lib.hid (show w5.heap[w.heap.size]? = some (.cells #[.int .i64 kk, .slice q1 items.length r1, .slice q2 parts.length r2, .slice an names.length cn, .slice ac cls.length cc, .slice al levels.length cl, .int .i64 code, .int .i64 env] 31 (0, 0)) from hw ▸ Joins.block_setCell KA4.out _)
  have KR5 := Lib.hid (show w5.heap[w.heap.size + 1]? = some (.cells #[.int .i64 0, .slice none 0 0, .slice none 0 0, .slice none 0 0, .slice none 0 0, .slice none 0 0, .int .i64 0, .int .i64 0] 31 (0, 0)) from hw ▸ (Below.heap_setCell _ _ _ _ (by show w.heap.size + 1 ≠ w.heap.size; omega)).trans KR4.out)
  have B5 := Lib.hid (show Below w.heap.size w w5 from hw ▸ B4.out.setCell (p := ⟨w.heap.size, 2, none⟩) (Nat.le_refl _) _)
  have Z5 := Lib.hid (show w4.heap.size ≤ w5.heap.size from hw ▸ (by simp))
  have E5 := Lib.hid (show w5.heap.size = w4.heap.size from hw ▸ (by simp))
  have P1w5 := Lib.hid (show OwnIts w5 q1 items F1 from hw ▸ P1w4.out.kept (fun g hg => Below.heap_setCell _ _ _ _ (by have := R1.out g hg; show g ≠ w.heap.size; have := Z2.out; have := Z3.out; have := Z4.out; omega)))
  have P2w5 := Lib.hid (show OwnParts w5 d (.slice q2 parts.length r2) parts F2 from hw ▸ P2w4.out.kept (fun g hg => Below.heap_setCell _ _ _ _ (by have := R2.out g hg; show g ≠ w.heap.size; have := Z2.out; have := Z3.out; have := Z4.out; omega)))
  have EW5 := Lib.hid hw
  clear hw
  obtain ⟨k0, k1, k2, k3, k4, k5, k6, k7⟩ := vec8 KA4.out
  go_wp2_with fail
  rw [EW5.out]
  clear k0 k1 k2 k3 k4 k5 k6 k7 hx4 hf4
  with_reducible refine (CT3.out _ B5.out).mono ?_
  rintro e w6 ⟨v, rfl, ⟨q3, r3, F3, rfl, hT, hn, hr, hcc⟩, hb⟩
  have P3w6 := Lib.hid hT
  clear hT
  have B6 := Lib.hid (below_then B5.out hb)
  have KA6 := Lib.hid (blk_below hb KA5.out)
  have KR6 := Lib.hid (blk_below hb KR5.out)
  have N3 := Lib.hid hn
  have R3 := Lib.hid hr
  have C3 := Lib.hid hcc
  have Z6 := Lib.hid hb.size
  have P1w6 := Lib.hid (P1w5.out.kept (fun g hg => hb.block g (by have := R1.out g hg; have := Z2.out; have := Z3.out; have := Z4.out; have := Z5.out; omega)))
  have P2w6 := Lib.hid (P2w5.out.kept (fun g hg => hb.block g (by have := R2.out g hg; have := Z2.out; have := Z3.out; have := Z4.out; have := Z5.out; omega)))
  clear hb hn hr hcc
  have u6 : ∃ x, w6.cell? ⟨w.heap.size, 3, none⟩ = some x := ⟨_, cellOf KA6.out rfl⟩
  obtain ⟨x6, hx6⟩ := u6
  have hf6 : w6.frozen? ⟨w.heap.size, 3, none⟩ = false := freeOf KA6.out
  obtain ⟨w7, hw⟩ : ∃ W, w6.setCell ⟨w.heap.size, 3, none⟩ (.slice q3 names.length r3) = W := ⟨_, rfl⟩
  have KA7 := Lib.hid (show w7.heap[w.heap.size]? = some (.cells #[.int .i64 kk, .slice q1 items.length r1, .slice q2 parts.length r2, .slice q3 names.length r3, .slice ac cls.length cc, .slice al levels.length cl, .int .i64 code, .int .i64 env] 31 (0, 0)) from hw ▸ Joins.block_setCell KA6.out _)
  have KR7 := Lib.hid (show w7.heap[w.heap.size + 1]? = some (.cells #[.int .i64 0, .slice none 0 0, .slice none 0 0, .slice none 0 0, .slice none 0 0, .slice none 0 0, .int .i64 0, .int .i64 0] 31 (0, 0)) from hw ▸ (Below.heap_setCell _ _ _ _ (by show w.heap.size + 1 ≠ w.heap.size; omega)).trans KR6.out)
  have B7 := Lib.hid (show Below w.heap.size w w7 from hw ▸ B6.out.setCell (p := ⟨w.heap.size, 3, none⟩) (Nat.le_refl _) _)
  have Z7 := Lib.hid (show w6.heap.size ≤ w7.heap.size from hw ▸ (by simp))
  have E7 := Lib.hid (show w7.heap.size = w6.heap.size from hw ▸ (by simp))
  have P1w7 := Lib.hid (show OwnIts w7 q1 items F1 from hw ▸ P1w6.out.kept (fun g hg => Below.heap_setCell _ _ _ _ (by have := R1.out g hg; show g ≠ w.heap.size; have := Z2.out; have := Z3.out; have := Z4.out; have := Z5.out; have := Z6.out; omega)))
  have P2w7 := Lib.hid (show OwnParts w7 d (.slice q2 parts.length r2) parts F2 from hw ▸ P2w6.out.kept (fun g hg => Below.heap_setCell _ _ _ _ (by have := R2.out g hg; show g ≠ w.heap.size; have := Z2.out; have := Z3.out; have := Z4.out; have := Z5.out; have := Z6.out; omega)))
  have P3w7 := Lib.hid (show OwnTxs w7 q3 names F3 from hw ▸ P3w6.out.kept (fun g hg => Below.heap_setCell _ _ _ _ (by have := R3.out g hg; show g ≠ w.heap.size; have := Z2.out; have := Z3.out; have := Z4.out; have := Z5.out; have := Z6.out; omega)))
  have EW7 := Lib.hid hw
  clear hw
  obtain ⟨k0, k1, k2, k3, k4, k5, k6, k7⟩ := vec8 KA6.out
  go_wp2_with fail
  rw [EW7.out]
  clear k0 k1 k2 k3 k4 k5 k6 k7 hx6 hf6
  with_reducible refine (CT4.out _ B7.out).mono ?_
  rintro e w8 ⟨v, rfl, ⟨q4, r4, F4, rfl, hT, hn, hr, hcc⟩, hb⟩
  have P4w8 := Lib.hid hT
  clear hT
  have B8 := Lib.hid (below_then B7.out hb)
  have KA8 := Lib.hid (blk_below hb KA7.out)
  have KR8 := Lib.hid (blk_below hb KR7.out)
  have N4 := Lib.hid hn
  have R4 := Lib.hid hr
  have C4 := Lib.hid hcc
  have Z8 := Lib.hid hb.size
  have P1w8 := Lib.hid (P1w7.out.kept (fun g hg => hb.block g (by have := R1.out g hg; have := Z2.out; have := Z3.out; have := Z4.out; have := Z5.out; have := Z6.out; have := Z7.out; omega)))
  have P2w8 := Lib.hid (P2w7.out.kept (fun g hg => hb.block g (by have := R2.out g hg; have := Z2.out; have := Z3.out; have := Z4.out; have := Z5.out; have := Z6.out; have := Z7.out; omega)))
  have P3w8 := Lib.hid (P3w7.out.kept (fun g hg => hb.block g (by have := R3.out g hg; have := Z2.out; have := Z3.out; have := Z4.out; have := Z5.out; have := Z6.out; have := Z7.out; omega)))
  clear hb hn hr hcc
  have u8 : ∃ x, w8.cell? ⟨w.heap.size, 4, none⟩ = some x := ⟨_, cellOf KA8.out rfl⟩
  obtain ⟨x8, hx8⟩ := u8
  have hf8 : w8.frozen? ⟨w.heap.size, 4, none⟩ = false := freeOf KA8.out
  obtain ⟨w9, hw⟩ : ∃ W, w8.setCell ⟨w.heap.size, 4, none⟩ (.slice q4 cls.length r4) = W := ⟨_, rfl⟩
  have KA9 := Lib.hid (show w9.heap[w.heap.size]? = some (.cells #[.int .i64 kk, .slice q1 items.length r1, .slice q2 parts.length r2, .slice q3 names.length r3, .slice q4 cls.length r4, .slice al levels.length cl, .int .i64 code, .int .i64 env] 31 (0, 0)) from hw ▸ Joins.block_setCell KA8.out _)
  have KR9 := Lib.hid (show w9.heap[w.heap.size + 1]? = some (.cells #[.int .i64 0, .slice none 0 0, .slice none 0 0, .slice none 0 0, .slice none 0 0, .slice none 0 0, .int .i64 0, .int .i64 0] 31 (0, 0)) from hw ▸ (Below.heap_setCell _ _ _ _ (by show w.heap.size + 1 ≠ w.heap.size; omega)).trans KR8.out)
  have B9 := Lib.hid (show Below w.heap.size w w9 from hw ▸ B8.out.setCell (p := ⟨w.heap.size, 4, none⟩) (Nat.le_refl _) _)
  have Z9 := Lib.hid (show w8.heap.size ≤ w9.heap.size from hw ▸ (by simp))
  have E9 := Lib.hid (show w9.heap.size = w8.heap.size from hw ▸ (by simp))
  have P1w9 := Lib.hid (show OwnIts w9 q1 items F1 from hw ▸ P1w8.out.kept (fun g hg => Below.heap_setCell _ _ _ _ (by have := R1.out g hg; show g ≠ w.heap.size; have := Z2.out; have := Z3.out; have := Z4.out; have := Z5.out; have := Z6.out; have := Z7.out; have := Z8.out; omega)))
  have P2w9 := Lib.hid (show OwnParts w9 d (.slice q2 parts.length r2) parts F2 from hw ▸ P2w8.out.kept (fun g hg => Below.heap_setCell _ _ _ _ (by have := R2.out g hg; show g ≠ w.heap.size; have := Z2.out; have := Z3.out; have := Z4.out; have := Z5.out; have := Z6.out; have := Z7.out; have := Z8.out; omega)))
  have P3w9 := Lib.hid (show OwnTxs w9 q3 names F3 from hw ▸ P3w8.out.kept (fun g hg => Below.heap_setCell _ _ _ _ (by have := R3.out g hg; show g ≠ w.heap.size; have := Z2.out; have := Z3.out; have := Z4.out; have := Z5.out; have := Z6.out; have := Z7.out; have := Z8.out; omega)))
  have P4w9 := Lib.hid (show OwnTxs w9 q4 cls F4 from hw ▸ P4w8.out.kept (fun g hg => Below.heap_setCell _ _ _ _ (by have := R4.out g hg; show g ≠ w.heap.size; have := Z2.out; have := Z3.out; have := Z4.out; have := Z5.out; have := Z6.out; have := Z7.out; have := Z8.out; omega)))
  have EW9 := Lib.hid hw
  clear hw
  obtain ⟨k0, k1, k2, k3, k4, k5, k6, k7⟩ := vec8 KA8.out
  go_wp2_with fail
  rw [EW9.out]
  clear k0 k1 k2 k3 k4 k5 k6 k7 hx8 hf8
  with_reducible refine (CT5.out _ B9.out).mono ?_
  rintro e w10 ⟨v, rfl, ⟨q5, r5, F5, rfl, hT, hn, hr, hcc⟩, hb⟩
  have P5w10 := Lib.hid hT
  clear hT
  have B10 := Lib.hid (below_then B9.out hb)
  have KA10 := Lib.hid (blk_below hb KA9.out)
  have KR10 := Lib.hid (blk_below hb KR9.out)
  have N5 := Lib.hid hn
  have R5 := Lib.hid hr
  have C5 := Lib.hid hcc
  have Z10 := Lib.hid hb.size
  have P1w10 := Lib.hid (P1w9.out.kept (fun g hg => hb.block g (by have := R1.out g hg; have := Z2.out; have := Z3.out; have := Z4.out; have := Z5.out; have := Z6.out; have := Z7.out; have := Z8.out; have := Z9.out; omega)))
  have P2w10 := Lib.hid (P2w9.out.kept (fun g hg => hb.block g (by have := R2.out g hg; have := Z2.out; have := Z3.out; have := Z4.out; have := Z5.out; have := Z6.out; have := Z7.out; have := Z8.out; have := Z9.out; omega)))
  have P3w10 := Lib.hid (P3w9.out.kept (fun g hg => hb.block g (by have := R3.out g hg; have := Z2.out; have := Z3.out; have := Z4.out; have := Z5.out; have := Z6.out; have := Z7.out; have := Z8.out; have := Z9.out; omega)))
  have P4w10 := Lib.hid (P4w9.out.kept (fun g hg => hb.block g (by have := R4.out g hg; have := Z2.out; have := Z3.out; have := Z4.out; have := Z5.out; have := Z6.out; have := Z7.out; have := Z8.out; have := Z9.out; omega)))
  clear hb hn hr hcc
  have u10 : ∃ x, w10.cell? ⟨w.heap.size, 5, none⟩ = some x := ⟨_, cellOf KA10.out rfl⟩
  obtain ⟨x10, hx10⟩ := u10
  have hf10 : w10.frozen? ⟨w.heap.size, 5, none⟩ = false := freeOf KA10.out
  obtain ⟨w11, hw⟩ : ∃ W, w10.setCell ⟨w.heap.size, 5, none⟩ (.slice q5 levels.length r5) = W := ⟨_, rfl⟩
  have KA11 := Lib.hid (show w11.heap[w.heap.size]? = some (.cells #[.int .i64 kk, .slice q1 items.length r1, .slice q2 parts.length r2, .slice q3 names.length r3, .slice q4 cls.length r4, .slice q5 levels.length r5, .int .i64 code, .int .i64 env] 31 (0, 0)) from hw ▸ Joins.block_setCell KA10.out _)
  have KR11 := Lib.hid (show w11.heap[w.heap.size + 1]? = some (.cells #[.int .i64 0, .slice none 0 0, .slice none 0 0, .slice none 0 0, .slice none 0 0, .slice none 0 0, .int .i64 0, .int .i64 0] 31 (0, 0)) from hw ▸ (Below.heap_setCell _ _ _ _ (by show w.heap.size + 1 ≠ w.heap.size; omega)).trans KR10.out)
  have B11 := Lib.hid (show Below w.heap.size w w11 from hw ▸ B10.out.setCell (p := ⟨w.heap.size, 5, none⟩) (Nat.le_refl _) _)
  have Z11 := Lib.hid (show w10.heap.size ≤ w11.heap.size from hw ▸ (by simp))
  have E11 := Lib.hid (show w11.heap.size = w10.heap.size from hw ▸ (by simp))
  have P1w11 := Lib.hid (show OwnIts w11 q1 items F1 from hw ▸ P1w10.out.kept (fun g hg => Below.heap_setCell _ _ _ _ (by have := R1.out g hg; show g ≠ w.heap.size; have := Z2.out; have := Z3.out; have := Z4.out; have := Z5.out; have := Z6.out; have := Z7.out; have := Z8.out; have := Z9.out; have := Z10.out; omega)))
  have P2w11 := Lib.hid (show OwnParts w11 d (.slice q2 parts.length r2) parts F2 from hw ▸ P2w10.out.kept (fun g hg => Below.heap_setCell _ _ _ _ (by have := R2.out g hg; show g ≠ w.heap.size; have := Z2.out; have := Z3.out; have := Z4.out; have := Z5.out; have := Z6.out; have := Z7.out; have := Z8.out; have := Z9.out; have := Z10.out; omega)))
  have P3w11 := Lib.hid (show OwnTxs w11 q3 names F3 from hw ▸ P3w10.out.kept (fun g hg => Below.heap_setCell _ _ _ _ (by have := R3.out g hg; show g ≠ w.heap.size; have := Z2.out; have := Z3.out; have := Z4.out; have := Z5.out; have := Z6.out; have := Z7.out; have := Z8.out; have := Z9.out; have := Z10.out; omega)))
  have P4w11 := Lib.hid (show OwnTxs w11 q4 cls F4 from hw ▸ P4w10.out.kept (fun g hg => Below.heap_setCell _ _ _ _ (by have := R4.out g hg; show g ≠ w.heap.size; have := Z2.out; have := Z3.out; have := Z4.out; have := Z5.out; have := Z6.out; have := Z7.out; have := Z8.out; have := Z9.out; have := Z10.out; omega)))
  have P5w11 := Lib.hid (show OwnTxs w11 q5 levels F5 from hw ▸ P5w10.out.kept (fun g hg => Below.heap_setCell _ _ _ _ (by have := R5.out g hg; show g ≠ w.heap.size; have := Z2.out; have := Z3.out; have := Z4.out; have := Z5.out; have := Z6.out; have := Z7.out; have := Z8.out; have := Z9.out; have := Z10.out; omega)))
  have EW11 := Lib.hid hw
  clear hw
  obtain ⟨k0, k1, k2, k3, k4, k5, k6, k7⟩ := vec8 KA10.out
  go_upto_region 6 with (fail)
  rw [EW11.out]
  clear k0 k1 k2 k3 k4 k5 k6 k7 hx10 hf10
  obtain ⟨k0, k1, k2, k3, k4, k5, k6, k7⟩ := vec8 KA11.out
  obtain ⟨z0, z1, z2, z3, z4, z5, z6, z7⟩ := vec8 KR11.out
  obtain ⟨f0, f1, f2, f3, f4, f5, f6, f7⟩ := free8 KR11.out
  go_wp2
  refine vec_end rfl rfl rfl KR11.out ⟨_, rfl, ⟨F1 ++ (F2 ++ (F3 ++ (F4 ++ F5))), ?_, ?_, ?_⟩, put8_below B11.out (Nat.le_succ _)⟩
  · have P2x := P2w11.out
    obtain ⟨_, _, e2, hc2, h2⟩ := P2x
    simp only [Value.slice.injEq, true_and] at e2
    obtain ⟨rfl, rfl⟩ := e2
    have ho : OwnVec w11 (d + 1) (.mk kk items parts names cls levels code env) (.agg #[.int .i64 kk, .slice q1 items.length r1, .slice q2 parts.length r2, .slice q3 names.length r3, .slice q4 cls.length r4, .slice q5 levels.length r5, .int .i64 code, .int .i64 env]) (F1 ++ (F2 ++ (F3 ++ (F4 ++ F5)))) := by
      unfold OwnVec
      exact ⟨q1, r1, q2, r2, q3, r3, q4, r4, q5, r5, F1, F2, F3, F4, F5, rfl, rfl, ⟨C1.out, C2.out, C3.out, C4.out, C5.out⟩, P1w11.out, P3w11.out, P4w11.out, P5w11.out, h2⟩
    refine ho.kept _ _ _ _ (fun g hg => put8_other ?_)
    simp only [List.mem_append] at hg
    rcases hg with hg | hg | hg | hg | hg
    · have := R1.out g hg; have := Z2.out; have := Z3.out; have := Z4.out; have := Z5.out; have := Z6.out; have := Z7.out; have := Z8.out; have := Z9.out; have := Z10.out; have := Z11.out; omega
    · have := R2.out g hg; have := Z2.out; have := Z3.out; have := Z4.out; have := Z5.out; have := Z6.out; have := Z7.out; have := Z8.out; have := Z9.out; have := Z10.out; have := Z11.out; omega
    · have := R3.out g hg; have := Z2.out; have := Z3.out; have := Z4.out; have := Z5.out; have := Z6.out; have := Z7.out; have := Z8.out; have := Z9.out; have := Z10.out; have := Z11.out; omega
    · have := R4.out g hg; have := Z2.out; have := Z3.out; have := Z4.out; have := Z5.out; have := Z6.out; have := Z7.out; have := Z8.out; have := Z9.out; have := Z10.out; have := Z11.out; omega
    · have := R5.out g hg; have := Z2.out; have := Z3.out; have := Z4.out; have := Z5.out; have := Z6.out; have := Z7.out; have := Z8.out; have := Z9.out; have := Z10.out; have := Z11.out; omega
  · simp only [List.nodup_append, List.mem_append]
    refine ⟨N1.out, ⟨N2.out, ⟨N3.out, ⟨N4.out, N5.out, ?_⟩, ?_⟩, ?_⟩, ?_⟩
    · intro a ha b hb e; subst e; have x := R4.out a ha; have := Z2.out; have := Z3.out; have := Z4.out; have := Z5.out; have := Z6.out; have := Z7.out; have := Z8.out; have := Z9.out; have := Z10.out; have := Z11.out
      have y := R5.out a hb; omega
    · intro a ha b hb e; subst e; have x := R3.out a ha; have := Z2.out; have := Z3.out; have := Z4.out; have := Z5.out; have := Z6.out; have := Z7.out; have := Z8.out; have := Z9.out; have := Z10.out; have := Z11.out
      rcases hb with hb | hb
      · have y := R4.out a hb; omega
      · have y := R5.out a hb; omega
    · intro a ha b hb e; subst e; have x := R2.out a ha; have := Z2.out; have := Z3.out; have := Z4.out; have := Z5.out; have := Z6.out; have := Z7.out; have := Z8.out; have := Z9.out; have := Z10.out; have := Z11.out
      rcases hb with hb | hb | hb
      · have y := R3.out a hb; omega
      · have y := R4.out a hb; omega
      · have y := R5.out a hb; omega
    · intro a ha b hb e; subst e; have x := R1.out a ha; have := Z2.out; have := Z3.out; have := Z4.out; have := Z5.out; have := Z6.out; have := Z7.out; have := Z8.out; have := Z9.out; have := Z10.out; have := Z11.out
      rcases hb with hb | hb | hb | hb
      · have y := R2.out a hb; omega
      · have y := R3.out a hb; omega
      · have y := R4.out a hb; omega
      · have y := R5.out a hb; omega
  · intro g hg
    rw [put8_size]
    simp only [List.mem_append] at hg
    rcases hg with hg | hg | hg | hg | hg
    · have := R1.out g hg; have := Z2.out; have := Z3.out; have := Z4.out; have := Z5.out; have := Z6.out; have := Z7.out; have := Z8.out; have := Z9.out; have := Z10.out; have := Z11.out; omega
    · have := R2.out g hg; have := Z2.out; have := Z3.out; have := Z4.out; have := Z5.out; have := Z6.out; have := Z7.out; have := Z8.out; have := Z9.out; have := Z10.out; have := Z11.out; omega
    · have := R3.out g hg; have := Z2.out; have := Z3.out; have := Z4.out; have := Z5.out; have := Z6.out; have := Z7.out; have := Z8.out; have := Z9.out; have := Z10.out; have := Z11.out; omega
    · have := R4.out g hg; have := Z2.out; have := Z3.out; have := Z4.out; have := Z5.out; have := Z6.out; have := Z7.out; have := Z8.out; have := Z9.out; have := Z10.out; have := Z11.out; omega
    · have := R5.out g hg; have := Z2.out; have := Z3.out; have := Z4.out; have := Z5.out; have := Z6.out; have := Z7.out; have := Z8.out; have := Z9.out; have := Z10.out; have := Z11.out; omega
theorem icvZero : ICV 0 := ⟨fun _ _ _ _ _ h => h.elim⟩
theorem icvAll : ∀ d, ICV d
  | 0 => icvZero
  | d + 1 => icvStep d (icsStep d (icvAll d))
theorem icsAll (d : Nat) : ICS d := icsStep d (icvAll d)
end Go.Proofs.YtddebgmjolojeaaDoor

/- NotVector as data. -/
namespace Go.Proofs.YtddebgmjolojeaaDoor
open Go.RowKit
set_option maxRecDepth 100000
set_option linter.unusedVariables false

def notIt (x : It) : It := logI (nL (truthI x))
theorem notIt_t (x : It) : (notIt x).t.size ≤ 1048576 := logI_t _
/-- What NotVector answers. -/
noncomputable def notV (v : Vec) : Vec := match bB (ValidV v ∧ Counts v), v with
  | true, .mk _ items _ names _ _ _ _ => mkN 1 (itF (fun i => notIt (items.getD i noI)) items.length) names
  | false, _ => noV
noncomputable def notS (v : Vec) : ByteArray := match bB (ValidV v), bB (Counts v) with
  | false, _ => badB
  | true, false => nonLogB
  | true, true => ⟨#[]⟩
theorem notV_yes {k : Int} {items : List It} {parts : List Vec} {names cls levels : List ByteArray} {code env : Int} (h : ValidV (.mk k items parts names cls levels code env)) (hc : Counts (.mk k items parts names cls levels code env)) : notV (.mk k items parts names cls levels code env) = mkN 1 (itF (fun i => notIt (items.getD i noI)) items.length) names := by
  unfold notV; rw [bB_yes ⟨h, hc⟩]
theorem notV_bad {v : Vec} (h : ¬ ValidV v) : notV v = noV := by unfold notV; rw [bB_no (fun k => h k.1)]
theorem notV_non {v : Vec} (h : ¬ Counts v) : notV v = noV := by unfold notV; rw [bB_no (fun k => h k.2)]
theorem notS_yes {v : Vec} (h : ValidV v) (hc : Counts v) : notS v = ⟨#[]⟩ := by unfold notS; rw [bB_yes h, bB_yes hc]
theorem notS_bad {v : Vec} (h : ¬ ValidV v) : notS v = badB := by unfold notS; rw [bB_no h]
theorem notS_non {v : Vec} (h : ValidV v) (hc : ¬ Counts v) : notS v = nonLogB := by unfold notS; rw [bB_yes h, bB_no hc]
end Go.Proofs.YtddebgmjolojeaaDoor

/- The elements of a vector as the parts of a list. -/
namespace Go.Proofs.YtddebgmjolojeaaDoor
open Go.RowKit
set_option maxRecDepth 100000
set_option linter.unusedVariables false

/-- The elements of a vector as vectors. -/
def elems (v : Vec) : List Vec := match v with
  | .mk k items parts names cls levels code env => if k = 5 then [.mk k items parts names cls levels code env] else if k = 4 then parts else items.map (fun x => vecOf k [x])
theorem OwnParts.vecs {w : World} {d lo hi : Nat} {a : Option Addr} {c : Nat} {parts : List Vec} {F : List Nat} (h : OwnParts w d (.slice a parts.length c) parts F) (k : ∀ b ∈ F, lo ≤ b ∧ b < hi) : VecsAt lo hi w d a parts := by
  obtain ⟨ap, cp, e, _, h⟩ := h
  simp only [Value.slice.injEq, true_and] at e
  obtain ⟨rfl, rfl⟩ := e
  intro i p hp
  obtain ⟨hi', rfl⟩ := List.getElem?_eq_some_iff.1 hp
  rcases h with ⟨rfl, _⟩ | ⟨b, C, Fs, rfl, hl, e', hb, hc, hps⟩
  · cases hi'
  · obtain ⟨val, hv, c0, c1, c2, c3, c4, c5, c6, c7, rfl, m0, m1, m2, m3, m4, m5, m6, m7⟩ := hps i hi'
    have e1 : parts.getD i noV = parts[i] := by simp [List.getD_eq_getElem?_getD, List.getElem?_eq_getElem hi']
    rw [e1] at hv
    have hbb := k b (by simp)
    refine ⟨b, 0, c0, c1, c2, c3, c4, c5, c6, c7, e', hbb.1, hbb.2, OwnVec.vecAt d _ _ _ hv (fun b' hb' => k b' (by have := mem_flat (by omega) hb'; simp only [List.mem_cons]; exact .inr this)), ?_⟩
    rw [Nat.zero_add]
    exact ⟨cellOf hb m0, cellOf hb m1, cellOf hb m2, cellOf hb m3, cellOf hb m4, cellOf hb m5, cellOf hb m6, cellOf hb m7⟩
theorem ownsRow_base {w : World} {base base' : Nat} {el : TypeId} {size n : Nat} {v : Value} {xs : List Value} (h : w.ownsRow base el size v n xs) (hb : base' ≤ base) : w.ownsRow base' el size v n xs := by
  obtain ⟨hl, h⟩ := h
  refine ⟨hl, h.imp id ?_⟩
  rintro ⟨g, cap, cur, e, hB, r⟩
  exact ⟨g, cap, cur, e, by omega, r⟩
theorem Own.vatL {d : Nat} {V : Vec} {y : Value} {lo hi L H : Nat} {w : World} (h : Own d V y lo hi w) (hl : L ≤ lo) (hh : hi ≤ H) : VecAt L H w d V y := by
  obtain ⟨F, h1, _, h3⟩ := h.out
  exact h1.vecAt _ _ _ _ (fun b hm => by have := h3 b hm; omega)
/-- What elementsOf answers. -/
def ElmAns (v : Vec) (w : World) (e : Ending) (w' : World) : Prop := (∃ a c D, e = .returned (.slice a (elems v).length c) ∧ VecsAt w.heap.size w'.heap.size w' D a (elems v) ∧ ∀ i, i < (elems v).length → Small D ((elems v).getD i noV)) ∧ Below w.heap.size w w'
theorem elems_fun {v : Vec} {items : List It} {parts : List Vec} {names cls levels : List ByteArray} {code env : Int} (h : v = .mk 5 items parts names cls levels code env) : elems v = [v] := by subst h; rfl
theorem elems_list {items : List It} {parts : List Vec} {names cls levels : List ByteArray} {code env : Int} : elems (.mk 4 items parts names cls levels code env) = parts := rfl
theorem elems_items {k : Int} {items : List It} {parts : List Vec} {names cls levels : List ByteArray} {code env : Int} (h5 : k ≠ 5) (h4 : k ≠ 4) : elems (.mk k items parts names cls levels code env) = items.map (fun x => vecOf k [x]) := by
  show (if k = 5 then _ else if k = 4 then _ else _) = _
  rw [if_neg h5, if_neg h4]
theorem own_one {w : World} {g : Nat} {k : Int} {x : It} (h : w.heap[g]? = some (.cells #[.int .i64 x.n, .int .i64 x.d, .string x.t] 67 (0, 0))) : Own 1 (vecOf k [x]) (.agg #[.int .i64 k, .slice (some ⟨g, 0, none⟩) 1 1, .slice none 0 0, .slice none 0 0, .slice none 0 0, .slice none 0 0, .int .i64 0, .int .i64 0]) g (g + 1) w := by
  refine ⟨[g], ?_, by simp, fun b hb => by obtain rfl := List.mem_singleton.1 hb; omega⟩
  show OwnVec w 1 (.mk k [x] [] [] [] [] 0 0) _ _
  unfold OwnVec
  exact ⟨some ⟨g, 0, none⟩, 1, none, 0, none, 0, none, 0, none, 0, [g], [], [], [], [], rfl, by simp, ⟨Nat.le_refl _, Nat.le_refl _, Nat.le_refl _, Nat.le_refl _, Nat.le_refl _⟩,
    .inr ⟨g, _, rfl, rfl, h, Nat.le_refl _, fun i hi => by
      obtain rfl : i = 0 := by simpa using hi
      exact ⟨rfl, rfl, rfl⟩⟩, .inl ⟨rfl, rfl⟩, .inl ⟨rfl, rfl⟩, .inl ⟨rfl, rfl⟩, .inl ⟨rfl, rfl⟩⟩
theorem small_one {k : Int} {x : It} (h : x.t.size ≤ 1048576) : Small 1 (vecOf k [x]) := small_vecOf (by simp) (fun y hy => by obtain rfl := List.mem_singleton.1 hy; exact h)
set_option maxHeartbeats 4000000 in
theorem implElems (d : Nat) (v : Vec) (val : Value) (lo hi : Nat) (w : World) (hv : VecAt lo hi w d v val) (hhi : hi ≤ w.heap.size) (hsm : Small d v) (hval : ValidV v) :
    Calls Tryd.prog 65 #[val] w (ElmAns v w) := by
  have CV := Lib.hid (fun (w1 : World) (hb : Below w.heap.size w w1) => (icvAll d).out v val lo hi w1 (hv.below hb hhi) (Nat.le_trans hhi hb.size) hsm)
  have HSM := Lib.hid hsm
  obtain ⟨VV, hVV⟩ : ∃ V, v = V := ⟨_, rfl⟩
  rw [hVV] at CV HSM ⊢
  obtain ⟨kk, items, parts, names, cls, levels, code, env⟩ := v
  obtain ⟨d', ai, ci, ap, cp, an, cn, ac, cc, al, cl, ed, rfl, hI, hN, hC, hL, hP⟩ := vecAt_open hv
  have hf : FlatOk kk items parts.length names cls levels code env := hval.1.flat
  have hsp : ∀ i, i < parts.length → Small d' (parts.getD i noV) := fun i hi => by subst ed; exact hsm.part hi
  have li : items.length ≤ 1048576 := by subst ed; exact hsm.1
  have lp : parts.length ≤ 1048576 := by subst ed; exact hsm.2.1
  have hit : ∀ x ∈ items, x.t.size ≤ 1048576 := by subst ed; exact hsm.2.2.2.2.2.1
  have AI := Lib.hid (fun (k : Nat) (w1 : World) (hk : k < items.length) (hb : Below w.heap.size w w1) => (hI.below hb hhi).at_ hk)
  have CP := Lib.hid (fun (w1 : World) (hb : Below w.heap.size w w1) => (icsAll d').out parts ap cp lo hi w1 (hP.below hb hhi) (Nat.le_trans hhi hb.size) hsp lp)
  have B0 := Lib.hid (below1 w (.cells #[.int .i64 kk, .slice ai items.length ci, .slice ap parts.length cp, .slice an names.length cn, .slice ac cls.length cc, .slice al levels.length cl, .int .i64 code, .int .i64 env] 31))
  have K0 := Lib.hid (blk_new w (.cells #[.int .i64 kk, .slice ai items.length ci, .slice ap parts.length cp, .slice an names.length cn, .slice ac cls.length cc, .slice al levels.length cl, .int .i64 code, .int .i64 env] 31) rfl)
  by_cases h5 : kk = 5
  · subst h5
    have XE := Lib.hid (elems_fun hVV.symm)
    clear hv hI hN hC hL hP hsm ed hVV hf AI CP hval
    go_enter Tryd.func65, Tryd.ntmps65
    go_wp2_with fail
    with_reducible refine (CV.out _ B0.out).mono ?_
    rintro e w2 ⟨y, rfl, ho, hb⟩
    obtain ⟨yk, ya1, yn1, ym1, ya2, yn2, ym2, ya3, yn3, ym3, ya4, yn4, ym4, ya5, yn5, ym5, yc, ye, rfl⟩ := ho.agg
    have HO := Lib.hid ho
    have B2 := Lib.hid (below_then B0.out hb)
    clear ho hb
    go_wp2
    go_ret
    refine ⟨⟨_, _, d, by rw [XE.out]; rfl, ?_, fun i hi => ?_⟩, B2.out.alloc B2.out.size _⟩
    · rw [XE.out]
      intro i p hp
      have hi : i = 0 := by have := (List.getElem?_eq_some_iff.1 hp).1; simpa using this
      subst hi
      obtain rfl : VV = p := by simpa using hp
      have hb := blk_new w2 (.cells #[.int .i64 yk, .slice ya1 yn1 ym1, .slice ya2 yn2 ym2, .slice ya3 yn3 ym3, .slice ya4 yn4 ym4, .slice ya5 yn5 ym5, .int .i64 yc, .int .i64 ye] 31) rfl
      exact ⟨w2.heap.size, 0, _, _, _, _, _, _, _, _, rfl, B2.out.size, (Array.getElem?_eq_some_iff.1 hb).1, ((HO.out.below (below1 w2 _) (Nat.le_refl _)).vatL (by simp) (by simp)), cellOf hb rfl, cellOf hb rfl, cellOf hb rfl, cellOf hb rfl, cellOf hb rfl, cellOf hb rfl, cellOf hb rfl, cellOf hb rfl⟩
    · rw [XE.out] at hi ⊢
      have hi' : i = 0 := by simpa using hi
      subst hi'
      exact HSM.out
  by_cases h4 : kk = 4
  · subst h4
    have hni : items.length = 0 := hf.h_list rfl
    have XE := Lib.hid (show elems VV = parts by rw [← hVV]; rfl)
    have SP := Lib.hid hsp
    clear hv hI hN hC hL hP hsm ed hVV hf AI CV hval hsp hit HSM li lp h5
    rw [hni] at B0 K0 ⊢
    clear hni
    go_enter Tryd.func65, Tryd.ntmps65
    go_wp2_with fail
    with_reducible refine (CP.out _ B0.out).mono ?_
    rintro e w2 ⟨v, F, rfl, hp, hn, hr, hb, _⟩
    obtain ⟨a, c, rfl, h1, h2⟩ := id hp
    have HP := Lib.hid (hp.vecs (lo := w.heap.size) (hi := w2.heap.size) (fun b hb' => ⟨Nat.le_trans (by simp) (hr b hb').1, (hr b hb').2⟩))
    have B2 := Lib.hid (below_then B0.out hb)
    have K2 := Lib.hid (blk_below hb K0.out)
    clear hp hn hr hb h1 h2
    obtain ⟨k0, k1, k2, k3, k4, k5, k6, k7⟩ := vec8 K2.out
    go_wp2
    refine wp_loop_rounds 1 ?_
    rw [rounds_succ]
    go_wp2
    go_ret
    exact ⟨⟨_, _, d', by rw [XE.out]; rfl, by rw [XE.out]; exact HP.out, by rw [XE.out]; exact SP.out⟩, B2.out⟩
  · have hnp : parts.length = 0 := hf.h_noParts h4
    have XE := Lib.hid (show elems VV = items.map (fun x => vecOf kk [x]) by rw [← hVV]; exact elems_items h5 h4)
    have h5b : (kk == 5) = false := by simp [h5]
    obtain ⟨S, hS⟩ : ∃ S : List Vec, items.map (fun x => vecOf kk [x]) = S := ⟨_, rfl⟩
    have SL := Lib.hid (show S.length = items.length by rw [← hS]; simp)
    have SG := Lib.hid (fun i (hi : i < items.length) => (by rw [← hS]; simp [List.getD_eq_getElem?_getD, hi] : S.getD i noV = vecOf kk [items.getD i noI]))
    have SS := Lib.hid (fun i (hi : i < items.length) => (by rw [SG.out i hi]; exact small_one (hit _ (by rw [List.getD_eq_getElem?_getD, List.getElem?_eq_getElem hi]; exact List.getElem_mem hi)) : Small 1 (S.getD i noV)))
    rw [hS] at XE
    have RS := Lib.hid (fun (w2 : World) (v : Value) (xs : List Value) (h : w2.ownsRow w.heap.size 31 8 v 0 xs) (hb : Below w.heap.size w w2) => (⟨⟨[], [], rfl, rfl, by have : xs = [] := List.eq_nil_of_length_eq_zero (by simpa using h.1); subst this; exact h, fun i h => absurd h (Nat.not_lt_zero _), List.nodup_nil, fun b h => by cases h⟩, hb⟩ : RowV w w2 1 S 0 v))
    have FIN := Lib.hid (fun (wr : World) (v : Value) (h : RowV w wr 1 S S.length v) => h.parts)
    rw [SL.out] at FIN
    clear hv hI hN hC hL hP hsm ed hVV hf CV hval hsp hit HSM lp hS h5
    have HNP := Lib.hid hnp
    rw [hnp] at B0 K0 CP ⊢
    clear hnp
    obtain ⟨n, hn'⟩ : ∃ n, items.length = n := ⟨_, rfl⟩
    rw [hn'] at AI SL SG SS FIN B0 K0 li ⊢
    clear hn'
    obtain ⟨i0, hi0, hz0, hz1, hz2⟩ := info_parts infoVec8
    go_enter Tryd.func65, Tryd.ntmps65
    go_wp2_with fail
    with_reducible refine (CP.out _ B0.out).mono ?_
    rintro e w2 ⟨v, F, rfl, hp, hn, hr, hb, xs, hx⟩
    obtain ⟨a, c, rfl, _, _⟩ := id hp
    have ST := Lib.hid (RS.out _ _ _ (HNP.out ▸ ownsRow_base hx (by simp)) (below_then B0.out hb))
    have NB := Lib.hid (show (Value.slice a 0 c).ownBlock ≠ some w.heap.size by
      intro e
      have h1 := ((HNP.out ▸ hx : w2.ownsRow _ _ _ (.slice a 0 c) _ _).lt _ e).1
      have h2 : (w.alloc (.cells #[.int .i64 kk, .slice ai n ci, .slice ap 0 cp, .slice an names.length cn, .slice ac cls.length cc, .slice al levels.length cl, .int .i64 code, .int .i64 env] 31)).heap.size = w.heap.size + 1 := by simp
      omega)
    have KA2 := Lib.hid (blk_below hb K0.out)
    clear hp hn hr hb hx
    obtain ⟨k0, k1, k2, k3, k4, k5, k6, k7⟩ := vec8 KA2.out
    go_wp2
    clear k0 k1 k2 k3 k4 k5 k6 k7
    go_loopw [3, 18] (fun v i wr => ∃ k : Nat, k ≤ n ∧ i = .int .i64 k ∧ RowV w wr 1 S k v ∧ wr.heap[w.heap.size]? = some (.cells #[.int .i64 kk, .slice ai n ci, .slice ap 0 cp, .slice an names.length cn, .slice ac cls.length cc, .slice al levels.length cl, .int .i64 code, .int .i64 env] 31 (0, 0)) ∧ v.ownBlock ≠ some w.heap.size) (fun _ i _ => n - (intOf i).toNat)
    case atStart => exact ⟨0, Nat.zero_le _, rfl, by rw [HNP.out]; exact ST.out, KA2.out, by rw [HNP.out]; exact NB.out⟩
    case round =>
      obtain ⟨k, hk, rfl, hrv, hka, hnb⟩ := hrel
      have NB := Lib.hid hnb
      clear hnb
      have RV := Lib.hid hrv
      have KA := Lib.hid hka
      clear hrv hka
      by_cases hlt : k < n
      · obtain ⟨ba, off, rfl, hbB, c0, c1, c2⟩ := AI.out _ _ hlt RV.out.below
        have hbw : ba < wr.heap.size := Nat.lt_of_lt_of_le (Nat.lt_of_lt_of_le hbB hhi) RV.out.below.size
        have hz := (Array.getElem?_eq_some_iff.1 KA.out).1
        have hSk := SG.out k hlt
        obtain ⟨⟨xn, xd, xt⟩, hx⟩ : ∃ x : It, items.getD k noI = x := ⟨_, rfl⟩
        have ht : txtI items k = xt := by unfold txtI; rw [hx]
        rw [ht] at c2
        rw [hx] at hSk
        simp only [hx] at c0 c1
        have HSk := Lib.hid hSk
        clear hSk hx ht
        obtain ⟨k0, k1, k2, k3, k4, k5, k6, k7⟩ := vec8 KA.out
        obtain ⟨w1, hw1⟩ : ∃ W, (wr.alloc (.cells #[.int .i64 xn, .int .i64 xd, .string xt] 67)).alloc (.cells #[.int .i64 xn, .int .i64 xd, .string xt] 67) = W := ⟨_, rfl⟩
        have hsz : (wr.alloc (.cells #[.int .i64 xn, .int .i64 xd, .string xt] 67)).heap.size = wr.heap.size + 1 := by simp
        have BW := Lib.hid (show Below wr.heap.size wr w1 from hw1 ▸ (below1 wr _).alloc (by simp) _)
        have KG := Lib.hid (show w1.heap[wr.heap.size + 1]? = some (.cells #[.int .i64 xn, .int .i64 xd, .string xt] 67 (0, 0)) from hw1 ▸ hsz ▸ blk_new (wr.alloc (.cells #[.int .i64 xn, .int .i64 xd, .string xt] 67)) (.cells #[.int .i64 xn, .int .i64 xd, .string xt] 67) rfl)
        have ES := Lib.hid (show w1.heap.size = wr.heap.size + 1 + 1 from hw1 ▸ (by simp))
        have EW := Lib.hid hw1
        clear hw1 hsz
        obtain ⟨xs, hxs⟩ := RV.out.row
        have XS := Lib.hid hxs
        have OR := Lib.hid (ownsRow_below (ownsRow_below hxs BW.out) (below1 w1 (.cells #[.int .i64 kk, .slice (some ⟨wr.heap.size + 1, 0, none⟩) 1 1, .slice none 0 0, .slice none 0 0, .slice none 0 0, .slice none 0 0, .int .i64 0, .int .i64 0] 31)))
        have HO := Lib.hid (show Own 1 (S.getD k noV) (.agg #[.int .i64 kk, .slice (some ⟨wr.heap.size + 1, 0, none⟩) 1 1, .slice none 0 0, .slice none 0 0, .slice none 0 0, .slice none 0 0, .int .i64 0, .int .i64 0]) (wr.heap.size + 1) w1.heap.size w1 from by rw [HSk.out, ES.out]; exact own_one (x := ⟨xn, xd, xt⟩) KG.out)
        have S1 := Lib.hid (show w.heap.size ≤ wr.heap.size from RV.out.below.size)
        have KA1 := Lib.hid (blk_below (below1 w1 (.cells #[.int .i64 kk, .slice (some ⟨wr.heap.size + 1, 0, none⟩) 1 1, .slice none 0 0, .slice none 0 0, .slice none 0 0, .slice none 0 0, .int .i64 0, .int .i64 0] 31)) (blk_below BW.out KA.out))
        clear hxs
        go_wp2_with (at_builtin; rw [EW.out]; refine wpList_append_own_at _ rfl _ _ 29 rfl w.heap.size 31 i0 _ 8 144 Tryd.underlying29 hi0 hz0 hz1 hz2 rfl (by decide) _ k xs rfl OR.out ⟨w1.heap.size, 0, none⟩ 1 1 [.int .i64 kk, .slice (some ⟨wr.heap.size + 1, 0, none⟩) 1 1, .slice none 0 0, .slice none 0 0, .slice none 0 0, .slice none 0 0, .int .i64 0, .int .i64 0] (by rw [ES.out]; rfl) rfl ?c1 ?c2 ?c3 ?c4 ?c5 ?_)
        case c1 =>
          intro j u hj
          have hlt : j < 8 := by have := (List.getElem?_eq_some_iff.1 hj).1; simpa using this
          rw [addr_add, Nat.zero_add]
          refine cellOf (blk_new w1 _ rfl) ?_
          rw [← hj]
          rcases (show j = 0 ∨ j = 1 ∨ j = 2 ∨ j = 3 ∨ j = 4 ∨ j = 5 ∨ j = 6 ∨ j = 7 by omega) with rfl | rfl | rfl | rfl | rfl | rfl | rfl | rfl <;> rfl
        case c2 => intro u hu; simp only [List.mem_cons, List.not_mem_nil, or_false] at hu; rcases hu with rfl | rfl | rfl | rfl | rfl | rfl | rfl | rfl <;> rfl
        case c3 => unfold maxLen; omega
        case c4 => omega
        case c5 => have := S1.out; have := ES.out; simp; omega
        intro v' w3 hown' hgrow _ hwh
        have NBN := Lib.hid (show v'.ownBlock ≠ some w.heap.size from fun e => by
          rcases hwh with h | h
          · exact NB.out (h ▸ e)
          · rw [e] at h; have h2 := Option.some.inj h; have := ES.out; omega)
        have NX := Lib.hid (RV.out.next HO.out (Nat.le_succ _) BW.out hgrow (fun ys hy => ownsRow_same XS.out hy ▸ hown') (by simpa using hwh))
        have KAN := Lib.hid ((hgrow.block w.heap.size (by have := ES.out; simp; omega) (fun e => NB.out e.symm)).trans KA1.out)
        clear hown' hgrow hwh k0 k1 k2 k3 k4 k5 k6 k7
        go_wp2
        go_roundw
        case rel => exact ⟨k + 1, by omega, by go_num, NX.out, KAN.out, NBN.out⟩
        case measure => simp [intOf]; omega
      · obtain rfl : k = n := by omega
        obtain ⟨F, h1, h2, h3⟩ := FIN.out _ _ RV.out
        obtain ⟨a, c, rfl, _, _⟩ := id h1
        have HV := Lib.hid (h1.vecs (lo := w.heap.size) (hi := wr.heap.size) (fun b hb' => h3 b hb'))
        clear h1 h2 h3
        go_wp2
        go_ret
        exact ⟨⟨_, _, 1, by rw [XE.out]; rfl, by rw [XE.out]; exact HV.out, fun i hi => by rw [XE.out] at hi ⊢; exact SS.out i (by have := SL.out; omega)⟩, RV.out.below⟩
end Go.Proofs.YtddebgmjolojeaaDoor

/- MissingIn of the program. -/
namespace Go.Proofs.YtddebgmjolojeaaDoor
open Go.RowKit
set_option maxRecDepth 100000
set_option linter.unusedVariables false

def itemsV (v : Vec) : List It := match v with | .mk _ items _ _ _ _ _ _ => items
def namesV (v : Vec) : List ByteArray := match v with | .mk _ _ _ names _ _ _ _ => names
def OneMiss (p : Vec) : Prop := (itemsV p).length = 1 ∧ ((itemsV p).getD 0 noI).d = 0
noncomputable def missI (p : Vec) : Int := match bB (OneMiss p) with | true => 1 | false => 0
theorem miss_three (p : Vec) : L3 (missI p) := by unfold missI L3; split <;> omega
/-- An element whose single item, if missing, is nothing else. -/
def GoodE (p : Vec) : Prop := (itemsV p).length = 1 → ((itemsV p).getD 0 noI).d = 0 → (itemsV p).getD 0 noI = noI
theorem good_elems {v : Vec} (h : ValidV v) {i : Nat} (hi : i < (elems v).length) : GoodE ((elems v).getD i noV) := by
  obtain ⟨k, items, parts, names, cls, levels, code, env⟩ := v
  have hf : FlatOk k items parts.length names cls levels code env := h.1.flat
  by_cases h5 : k = 5
  · subst h5
    rw [elems_fun rfl] at hi ⊢
    obtain rfl : i = 0 := by simpa using hi
    intro h1 _
    have h2 : items.length = 1 := h1
    have := (hf.h_func rfl).1
    omega
  · by_cases h4 : k = 4
    · subst h4
      rw [elems_list] at hi ⊢
      have hp := h.1.2 i hi
      have hp' : IsV 2 (parts.getD i noV) := hp
      obtain ⟨p, hpe⟩ : ∃ p, parts.getD i noV = p := ⟨_, rfl⟩
      rw [hpe] at hp' ⊢
      obtain ⟨k', items', parts', names', cls', levels', code', env'⟩ := p
      have hf' : FlatOk k' items' parts'.length names' cls' levels' code' env' := hp'.flat
      intro h1 h2
      have h1' : items'.length = 1 := h1
      exact (cell_i (hf'.h_items 0 (by omega)).1).1 h2
    · rw [elems_items h5 h4] at hi ⊢
      have hi' : i < items.length := by simpa using hi
      have e : (items.map (fun x => vecOf k [x])).getD i noV = vecOf k [items.getD i noI] := by simp [List.getD_eq_getElem?_getD, hi']
      rw [e]
      intro _ h2
      exact (cell_i (hf.h_items i hi').1).1 h2
theorem elems_len {v : Vec} (h : ValidV v) : (elems v).length ≤ 40 := by
  obtain ⟨k, items, parts, names, cls, levels, code, env⟩ := v
  have hf : FlatOk k items parts.length names cls levels code env := h.1.flat
  have hl := hf.h_len
  unfold lenV at hl
  by_cases h5 : k = 5
  · subst h5; rw [elems_fun rfl]; simp
  · rw [if_neg h5] at hl
    by_cases h4 : k = 4
    · subst h4; rw [elems_list]; omega
    · rw [elems_items h5 h4]; simp; omega
/-- What MissingIn answers. -/
noncomputable def missV (v : Vec) : Vec := match bB (ValidV v) with | true => mkN 1 (itF (fun i => logI (missI ((elems v).getD i noV))) (elems v).length) (namesV v) | false => noV
noncomputable def missS (v : Vec) : ByteArray := match bB (ValidV v) with | true => ⟨#[]⟩ | false => badB
theorem missV_yes {v : Vec} (h : ValidV v) : missV v = mkN 1 (itF (fun i => logI (missI ((elems v).getD i noV))) (elems v).length) (namesV v) := by unfold missV; rw [bB_yes h]
theorem missV_no {v : Vec} (h : ¬ ValidV v) : missV v = noV := by unfold missV; rw [bB_no h]
theorem missS_yes {v : Vec} (h : ValidV v) : missS v = ⟨#[]⟩ := by unfold missS; rw [bB_yes h]
theorem missS_no {v : Vec} (h : ¬ ValidV v) : missS v = badB := by unfold missS; rw [bB_no h]
end Go.Proofs.YtddebgmjolojeaaDoor

/- NotVector of the reference. -/
namespace Go.Proofs.YtddebgmjolojeaaDoor
open Go.RowKit
set_option maxRecDepth 100000
set_option linter.unusedVariables false

theorem Own.setNames {k : Int} {l : List It} {c0 c1 c2 c3 c4 c5 c6 c7 : Value} {lo hi lo2 hi2 : Nat} {w : World} (h : Own 1 (vecOf k l) (.agg #[c0, c1, c2, c3, c4, c5, c6, c7]) lo hi w) {names : List ByteArray} {na : Option Addr} {nc : Nat} {Fn : List Nat} (hT : OwnTxs w na names Fn) (hn : Fn.Nodup)
    (hr : ∀ g ∈ Fn, lo2 ≤ g ∧ g < hi2) (hc : names.length ≤ nc) (h1 : hi ≤ lo2) (h2 : lo ≤ lo2) (h3 : hi ≤ hi2) : Own 1 (mkN k l names) (.agg #[c0, c1, c2, .slice na names.length nc, c4, c5, c6, c7]) lo hi2 w := by
  obtain ⟨F, ho, hnd, hrg⟩ := h.out
  change OwnVec w 1 (.mk k l [] [] [] [] 0 0) _ F at ho
  unfold OwnVec at ho
  obtain ⟨ai, ci, ap, cp, an, cn, ac, cc, al, cl, Fi, Fp, F0, Fc, Fl, e, rfl, hC, i1, i2, i3, i4, i5⟩ := ho
  simp only [Value.agg.injEq, Array.mk.injEq, List.cons.injEq, and_true] at e
  obtain ⟨rfl, rfl, rfl, rfl, rfl, rfl, rfl, rfl⟩ := e
  refine ⟨Fi ++ (Fp ++ (Fn ++ (Fc ++ Fl))), ?_, ?_, ?_⟩
  · show OwnVec w 1 (.mk k l [] names [] [] 0 0) _ _
    unfold OwnVec
    exact ⟨ai, ci, ap, cp, na, nc, ac, cc, al, cl, Fi, Fp, Fn, Fc, Fl, rfl, rfl, ⟨hC.1, hC.2.1, hc, hC.2.2.2.1, hC.2.2.2.2⟩, i1, hT, i3, i4, i5⟩
  · have D : ∀ g, (g ∈ Fi ∨ g ∈ Fp ∨ g ∈ Fc ∨ g ∈ Fl) → g ∉ Fn := fun g hg hm => by
      have h4 := hr g hm
      have h5 := hrg g (by simp only [List.mem_append]; grind)
      omega
    simp only [List.nodup_append, List.mem_append] at hnd ⊢
    grind
  · intro g hg
    simp only [List.mem_append] at hg
    by_cases hm : g ∈ Fn
    · have := hr g hm; omega
    · have := hrg g (by simp only [List.mem_append]; grind); omega
theorem Own.belowB {d : Nat} {V : Vec} {y : Value} {lo hi B : Nat} {w w' : World} (h : Own d V y lo hi w) (hb : Below B w w') (hh : hi ≤ B) : Own d V y lo hi w' := by
  obtain ⟨F, h1, h2, h3⟩ := h.out
  exact ⟨F, h1.kept _ _ _ _ (fun b hm => hb.block b (by have := h3 b hm; omega)), h2, h3⟩
theorem Own.setOut {d : Nat} {V : Vec} {y u : Value} {lo hi b j : Nat} {w : World} (h : Own d V y lo hi w) (hh : hi ≤ b) : Own d V y lo hi (w.setCell ⟨b, j, none⟩ u) := by
  obtain ⟨F, h1, h2, h3⟩ := h.out
  exact ⟨F, h1.kept _ _ _ _ (fun g hm => Below.heap_setCell _ _ _ _ (by have := h3 g hm; show g ≠ b; omega)), h2, h3⟩
/-- The ints while they are turned over, one by one. -/
def TurnL (w wr : World) (sa : Option Addr) (n k : Nat) (f : Nat → Int) : Prop :=
  n = 0 ∨ ∃ b C, sa = some ⟨b, 0, none⟩ ∧ w.heap.size + 2 ≤ b ∧ wr.heap[b]? = some (.cells C 3 (0, 0)) ∧ n ≤ C.size ∧ ∀ i, i < n → C[i]? = some (.int .i64 (if i < k then nL (f i) else f i))
theorem TurnL.start {w wr : World} {B : Nat} {sa : Option Addr} {n c : Nat} {f : Nat → Int} (h : wr.ownsRow B 3 1 (.slice sa n c) n (intsF f n)) (hB : w.heap.size + 2 ≤ B) : TurnL w wr sa n 0 f := by
  obtain ⟨_, h⟩ := h
  rcases h with ⟨e, h0⟩ | ⟨g, cap, cur, e, hg, hb, hc, _, hs, ht⟩
  · exact .inl h0
  · simp only [Value.slice.injEq] at e
    obtain ⟨rfl, _, rfl⟩ := e
    refine .inr ⟨g, cur, rfl, by omega, hb, by omega, fun i hi => ?_⟩
    have h1 : (cur.toList.take (n * 1))[i]? = (intsF f n)[i]? := by rw [ht]
    rw [List.getElem?_take_of_lt (by omega), Array.getElem?_toList] at h1
    rw [h1, if_neg (Nat.not_lt_zero i)]; unfold intsF; simp [hi]
theorem TurnL.ints {w wr : World} {sa : Option Addr} {n : Nat} {f : Nat → Int} (h : TurnL w wr sa n n f) : IntsAt wr.heap.size wr sa n (fun i => nL (f i)) := by
  rcases h with rfl | ⟨b, C, rfl, _, hb, hn, r⟩
  · exact fun i hi => absurd hi (Nat.not_lt_zero _)
  · intro i hi
    refine ⟨b, 0, rfl, (Array.getElem?_eq_some_iff.1 hb).1, ?_⟩
    rw [Nat.zero_add]
    have := r i hi
    rw [if_pos hi] at this
    exact cellOf hb this
end Go.Proofs.YtddebgmjolojeaaDoor

/- Lengths and names of a recycled result, in the reference. -/
namespace Go.Proofs.YtddebgmjolojeaaDoor
open Go.RowKit
set_option maxRecDepth 100000
set_option linter.unusedVariables false

def namesL (l0 l1 n : Nat) (names0 names1 : List ByteArray) : List ByteArray := if l0 = n ∧ 0 < names0.length then names0 else if l1 = n then names1 else []
def sizeL (m n : Nat) : Int := if m = 0 ∨ n = 0 then 0 else if max m n % min m n ≠ 0 then -1 else (max m n : Nat)
end Go.Proofs.YtddebgmjolojeaaDoor

/- Lengths and names of a recycled result, in the program. -/
namespace Go.Proofs.YtddebgmjolojeaaDoor
open Go.RowKit
set_option maxRecDepth 100000
set_option linter.unusedVariables false

def recN (m n : Nat) : Nat := if m = 0 ∨ n = 0 then 0 else max m n
theorem CopyTx.low {base base' : Nat} {l : List ByteArray} {v : Value} {w : World} (h : CopyTx base l v w) (hb : base' ≤ base) : CopyTx base' l v w := by
  obtain ⟨sa, sc, F, e, h1, h2, h3, h4⟩ := h
  exact ⟨sa, sc, F, e, h1, h2, fun b hb' => by have := h3 b hb'; omega, h4⟩
/-- The names of a recycled result, as the program finds them. -/
def namesR (N : Nat) (names0 names1 : List ByteArray) : List ByteArray := if N = names0.length then names0 else if N = names1.length then names1 else []
/-- Where a vector has no names or as many as elements, both ways to find them agree. -/
theorem names_same {m n : Nat} {names0 names1 : List ByteArray} (h0 : names0.length = 0 ∨ names0.length = m) (h1 : names1.length = 0 ∨ names1.length = n) : namesR (recN m n) names0 names1 = namesL m n (recN m n) names0 names1 := by
  have e0 : names0.length = 0 → names0 = [] := List.eq_nil_of_length_eq_zero
  have e1 : names1.length = 0 → names1 = [] := List.eq_nil_of_length_eq_zero
  obtain ⟨N, hN⟩ : ∃ N, recN m n = N := ⟨_, rfl⟩
  have hN0 : N = 0 ∨ 0 < N := by omega
  have hz : N = 0 → m = 0 ∨ n = 0 := fun h => by
    subst h
    unfold recN at hN
    by_cases hh : m = 0 ∨ n = 0
    · exact hh
    · rw [if_neg hh] at hN
      omega
  have hz2 : 0 < N → 0 < m ∧ 0 < n := fun h => by
    unfold recN at hN
    by_cases hh : m = 0 ∨ n = 0
    · rw [if_pos hh] at hN; omega
    · omega
  rw [hN]
  unfold namesR namesL
  repeat' split
  all_goals first
    | rfl
    | (exfalso; omega)
    | exact e0 (by omega)
    | exact e1 (by omega)
    | exact (e0 (by omega)).symm
    | exact (e1 (by omega)).symm
    | exact (e0 (by omega)).trans (e1 (by omega)).symm
    | exact (e1 (by omega)).trans (e0 (by omega)).symm
end Go.Proofs.YtddebgmjolojeaaDoor

/- recycleItems of the program. -/
namespace Go.Proofs.YtddebgmjolojeaaDoor
open Go.RowKit
set_option maxRecDepth 100000
set_option linter.unusedVariables false

theorem ItR.form {w wr : World} {l : List It} {v : Value} (h : ItR w wr l v) : ∃ s n c, v = .slice s n c := by
  obtain ⟨_, h | ⟨g, cap, cur, e, _⟩⟩ := h.row
  · exact ⟨_, _, _, h.1⟩
  · exact ⟨_, _, _, e⟩
theorem recN_pos {m n : Nat} (h : 0 < recN m n) : 0 < m ∧ 0 < n := by
  unfold recN at h
  by_cases h0 : m = 0 ∨ n = 0
  · rw [if_pos h0] at h; omega
  · omega
theorem recN_le {m n : Nat} (hm : m ≤ 40) (hn : n ≤ 40) : recN m n ≤ 40 := by
  unfold recN
  split <;> omega
end Go.Proofs.YtddebgmjolojeaaDoor

/- Summaries as data: the elements that are taken, folds, the answers. -/
namespace Go.Proofs.YtddebgmjolojeaaDoor
open Go.RowKit
set_option maxRecDepth 100000
set_option linter.unusedVariables false

/-- "non-numeric argument", "no elements" -/
def nonNumB : ByteArray := ⟨#[110, 111, 110, 45, 110, 117, 109, 101, 114, 105, 99, 32, 97, 114, 103, 117, 109, 101, 110, 116]⟩
def noElB : ByteArray := ⟨#[110, 111, 32, 101, 108, 101, 109, 101, 110, 116, 115]⟩
/-- Is an element taken? -/
def keepI (drop : Bool) (x : It) : Bool := !drop || !(x.d == 0)
def pickL (drop : Bool) (l : List It) : List It := l.filter (keepI drop)
theorem pickL_no (l : List It) : pickL false l = l := by
  unfold pickL
  rw [List.filter_eq_self]
  intro x _
  rfl
theorem pickL_len (drop : Bool) (l : List It) : (pickL drop l).length ≤ l.length := List.length_filter_le _ _
theorem pickL_mem {drop : Bool} {l : List It} {x : It} (h : x ∈ pickL drop l) : x ∈ l := (List.mem_filter.1 h).1
theorem take_one {l : List It} {k : Nat} (hk : k < l.length) : l.take (k + 1) = l.take k ++ [l.getD k noI] := by
  rw [List.take_add_one, List.getElem?_eq_getElem hk, List.getD_eq_getElem?_getD, List.getElem?_eq_getElem hk]
  rfl
theorem pickL_yes {drop : Bool} {l : List It} {k : Nat} (hk : k < l.length) (h : keepI drop (l.getD k noI) = true) : pickL drop (l.take k) ++ [l.getD k noI] = pickL drop (l.take (k + 1)) := by
  rw [take_one hk]
  unfold pickL
  rw [List.filter_append, List.filter_cons, if_pos h, List.filter_nil]
theorem pickL_skip {drop : Bool} {l : List It} {k : Nat} (hk : k < l.length) (h : keepI drop (l.getD k noI) = false) : pickL drop (l.take k) = pickL drop (l.take (k + 1)) := by
  rw [take_one hk]
  unfold pickL
  rw [List.filter_append, List.filter_cons, if_neg (by rw [h]; decide), List.filter_nil, List.append_nil]
theorem pickL_zero (drop : Bool) (l : List It) : pickL drop (l.take 0) = [] := by rw [List.take_zero]; rfl
theorem pickL_kept (drop : Bool) (l : List It) (k : Nat) : (pickL drop (l.take k)).length ≤ k := Nat.le_trans (pickL_len _ _) (by rw [List.length_take]; omega)
theorem fold_one {α : Type} (f : α → It → α) (s : α) {l : List It} {k : Nat} (hk : k < l.length) : (l.take (k + 1)).foldl f s = f ((l.take k).foldl f s) (l.getD k noI) := by
  rw [take_one hk, List.foldl_append]; rfl
theorem fold_zero {α : Type} (f : α → It → α) (s : α) (l : List It) : (l.take 0).foldl f s = s := by rw [List.take_zero]; rfl
theorem fold_full {α : Type} (f : α → It → α) (s : α) (l : List It) : (l.take l.length).foldl f s = l.foldl f s := by rw [List.take_length]

theorem mkI_int {n : Int} (h0 : -999999999 ≤ n) (h1 : n ≤ 999999999) : mkI n 1 = ⟨n, 1, ⟨#[]⟩⟩ := by
  rw [int_mk (by omega) (by omega)]
  unfold ofQ
  rw [Rat.num_intCast, Rat.den_intCast, if_pos ⟨h0, h1, by decide⟩]
  rfl
/-- A result that fits: no text, ints. -/
def GoodI (x : It) : Prop := InB x ∧ x.t = ⟨#[]⟩
theorem good_noI : GoodI noI := ⟨⟨⟨by decide, by decide⟩, ⟨by decide, by decide⟩, Nat.zero_le _⟩, rfl⟩
theorem good_ofQ (r : Rat) : GoodI (ofQ r) := by
  rcases ofQ_cases r with e | ⟨h, _⟩
  · rw [e]; exact good_noI
  · obtain ⟨ht, d0, d1, n0, n1, _⟩ := isN_iff.1 h
    exact ⟨⟨⟨by omega, by omega⟩, ⟨by omega, by omega⟩, by rw [ht]; exact Nat.zero_le _⟩, ht⟩
theorem good_mkI (n d : Int) : GoodI (mkI n d) := by unfold mkI; split; exact good_ofQ _; exact good_noI
theorem good_addI (x y : It) : GoodI (addI x y) := by unfold addI; split; exact good_ofQ _; exact good_noI
theorem good_mulI (x y : It) : GoodI (mulI x y) := by unfold mulI; split; exact good_ofQ _; exact good_noI
theorem good_divI (x y : It) : GoodI (divI x y) := by unfold divI; split; exact good_ofQ _; exact good_noI
theorem good_subI (x y : It) : GoodI (subI x y) := good_addI _ _
theorem good_fold {f : It → It → It} {s : It} (h : ∀ x y, GoodI (f x y)) (hs : GoodI s) (l : List It) : GoodI (l.foldl f s) := by
  induction l generalizing s with
  | nil => exact hs
  | cons x l ih => exact ih (h _ _)
theorem GoodI.t0 {x : It} (h : GoodI x) : x.t.size ≤ 9223372036854775807 := by rw [h.2]; exact Nat.zero_le _

def sumL (l : List It) : It := l.foldl addI (mkI 0 1)
def prodL (l : List It) : It := l.foldl mulI (mkI 1 1)
def meanL (l : List It) : It := divI (sumL l) (mkI l.length 1)
def sqI (m : It) (s x : It) : It := addI s (mulI (subI x m) (subI x m))
def varL (l : List It) : It := divI (l.foldl (sqI (meanL l)) (mkI 0 1)) (mkI ((l.length - 1 : Nat) : Int) 1)
theorem good_sumL (l : List It) : GoodI (sumL l) := good_fold good_addI (good_mkI _ _) l
theorem good_prodL (l : List It) : GoodI (prodL l) := good_fold good_mulI (good_mkI _ _) l
theorem good_meanL (l : List It) : GoodI (meanL l) := good_divI _ _
theorem good_varL (l : List It) : GoodI (varL l) := good_divI _ _
theorem varL_few {l : List It} (h : l.length < 2) : varL l = noI := by
  unfold varL
  rw [show l.length - 1 = 0 by omega]
  unfold divI
  rw [if_neg]
  rintro ⟨_, h⟩
  exact h (by decide)
/-- The running sums. -/
def runL (l : List It) : List It := itF (fun i => sumL (l.take (i + 1))) l.length
theorem sumL_one {l : List It} {k : Nat} (hk : k < l.length) : sumL (l.take (k + 1)) = addI (sumL (l.take k)) (l.getD k noI) := fold_one addI _ hk
theorem sumL_zero (l : List It) : sumL (l.take 0) = mkI 0 1 := fold_zero _ _ _
theorem sumL_full (l : List It) : sumL (l.take l.length) = sumL l := by rw [List.take_length]

/-- The elements of which a summary is made, the problem, the answer. -/
noncomputable def smyL (drop : Bool) (v : Vec) : List It := match bB (ValidV v ∧ Counts v) with | true => pickL drop (itemsV v) | false => []
noncomputable def smyS (u : ByteArray) (v : Vec) : ByteArray := match bB (ValidV v), bB (Counts v) with | false, _ => badB | true, false => u | true, true => ⟨#[]⟩
noncomputable def smyV (S : List It → It) (drop : Bool) (v : Vec) : Vec := match bB (ValidV v ∧ Counts v) with | true => vecOf 2 [S (pickL drop (itemsV v))] | false => noV
theorem smy_yes {v : Vec} (h : ValidV v) (hc : Counts v) (S : List It → It) (drop : Bool) (u : ByteArray) : smyL drop v = pickL drop (itemsV v) ∧ smyS u v = ⟨#[]⟩ ∧ smyV S drop v = vecOf 2 [S (pickL drop (itemsV v))] := by
  unfold smyL smyS smyV
  rw [bB_yes (show ValidV v ∧ Counts v from ⟨h, hc⟩), bB_yes h, bB_yes hc]
  exact ⟨rfl, rfl, rfl⟩
theorem smy_non {v : Vec} (h : ValidV v) (hc : ¬ Counts v) (S : List It → It) (drop : Bool) (u : ByteArray) : smyL drop v = [] ∧ smyS u v = u ∧ smyV S drop v = noV := by
  unfold smyL smyS smyV
  rw [bB_no (show ¬ (ValidV v ∧ Counts v) from fun x => hc x.2), bB_yes h, bB_no hc]
  exact ⟨rfl, rfl, rfl⟩
theorem smy_bad {v : Vec} (h : ¬ ValidV v) (S : List It → It) (drop : Bool) (u : ByteArray) : smyL drop v = [] ∧ smyS u v = badB ∧ smyV S drop v = noV := by
  unfold smyL smyS smyV
  rw [bB_no (show ¬ (ValidV v ∧ Counts v) from fun x => h x.1), bB_no h]
  exact ⟨rfl, rfl, rfl⟩
theorem plain_one {x : It} (h : GoodI x) (k : Int) (hk : -9223372036854775808 ≤ k ∧ k ≤ 9223372036854775807) : PlainN (vecOf k [x]) :=
  .inr ⟨k, [x], [], rfl, hk, by simp, fun y hy => by obtain rfl := List.mem_singleton.1 hy; exact ⟨h.1, by rw [h.2]; exact Nat.zero_le _⟩, Nat.zero_le _, fun s hs => by cases hs⟩
theorem numIt_no : NumIt noI := ⟨rfl, by decide, by decide, by decide, by decide, fun _ => rfl⟩
theorem smyL_num (drop : Bool) (v : Vec) : ∀ x ∈ smyL drop v, NumIt x := by
  intro x hx
  unfold smyL at hx
  by_cases h : ValidV v ∧ Counts v
  · rw [bB_yes h] at hx
    have h1 := pickL_mem hx
    obtain ⟨k, items, parts, names, cls, levels, code, env⟩ := v
    obtain ⟨i, hi, rfl⟩ := List.getElem_of_mem h1
    have := num_at h.1 h.2 (i := i) hi
    rw [List.getD_eq_getElem?_getD, List.getElem?_eq_getElem (show i < items.length from hi)] at this
    exact this
  · rw [bB_no h] at hx; cases hx
theorem smyL_at (drop : Bool) (v : Vec) (i : Nat) : NumIt ((smyL drop v).getD i noI) := by
  rw [List.getD_eq_getElem?_getD]
  by_cases h : i < (smyL drop v).length
  · rw [List.getElem?_eq_getElem h]; exact smyL_num drop v _ (List.getElem_mem h)
  · rw [List.getElem?_eq_none (by omega)]; exact numIt_no
theorem smyL_len (drop : Bool) (v : Vec) : (smyL drop v).length ≤ 40 := by
  unfold smyL
  by_cases h : ValidV v ∧ Counts v
  · rw [bB_yes h]
    refine Nat.le_trans (pickL_len _ _) ?_
    obtain ⟨k, items, parts, names, cls, levels, code, env⟩ := v
    exact count_len h.1 h.2
  · rw [bB_no h]; exact Nat.zero_le _
theorem NumIt.t0 {x : It} (h : NumIt x) : x.t.size ≤ 9223372036854775807 := by rw [h.t]; exact Nat.zero_le _
theorem smy_empty {u : ByteArray} (hu : ¬ u = ⟨#[]⟩) {v : Vec} (h : smyS u v = ⟨#[]⟩) : ValidV v ∧ Counts v := by
  by_cases q : ValidV v
  · by_cases hc : Counts v
    · exact ⟨q, hc⟩
    · rw [(smy_non q hc (fun _ => noI) false u).2.1] at h; exact absurd h hu
  · rw [(smy_bad q (fun _ => noI) false u).2.1] at h; exact absurd h (by decide)
theorem smy_val {u : ByteArray} (hu : ¬ u = ⟨#[]⟩) {v : Vec} (h : smyS u v = ⟨#[]⟩) (S : List It → It) (drop : Bool) : smyV S drop v = vecOf 2 [S (smyL drop v)] := by
  obtain ⟨a, b⟩ := smy_empty hu h
  have := smy_yes a b S drop u
  rw [this.2.2, this.1]
theorem smy_not {u : ByteArray} {v : Vec} (h : ¬ smyS u v = ⟨#[]⟩) (S : List It → It) (drop : Bool) : smyV S drop v = noV ∧ smyL drop v = [] := by
  by_cases q : ValidV v
  · by_cases hc : Counts v
    · exact absurd (smy_yes q hc S drop u).2.1 h
    · exact ⟨(smy_non q hc S drop u).2.2, (smy_non q hc S drop u).1⟩
  · exact ⟨(smy_bad q S drop u).2.2, (smy_bad q S drop u).1⟩
theorem smy_plain {S : List It → It} (hS : ∀ l, GoodI (S l)) (drop : Bool) (v : Vec) : PlainN (smyV S drop v) := by
  unfold smyV
  split
  · exact plain_one (hS _) 2 (by decide)
  · exact .inl rfl
end Go.Proofs.YtddebgmjolojeaaDoor

/- Elements converted to a later kind, and taken plain, as data. -/
namespace Go.Proofs.YtddebgmjolojeaaDoor
open Go.RowKit
set_option maxRecDepth 100000
set_option linter.unusedVariables false

/-- The two texts of logical values. -/
def falB : ByteArray := ⟨#[70, 65, 76, 83, 69]⟩
def truB : ByteArray := ⟨#[84, 82, 85, 69]⟩
/-- An element of the kind k as one of the kind j. -/
def cnvI (k j : Int) (x : It) : It := if k = j ∨ j ≠ 3 ∨ x.d = 0 then x else if k = 1 then txE (if x.n = 0 then falB else truB) else txE (txI x)
theorem cnv_same {k j : Int} {x : It} (h : k = j ∨ j ≠ 3 ∨ x.d = 0) : cnvI k j x = x := by unfold cnvI; rw [if_pos h]
theorem cnv_log {x : It} (h : x.d ≠ 0) : cnvI 1 3 x = txE (if x.n = 0 then falB else truB) := by unfold cnvI; rw [if_neg (by omega), if_pos rfl]
theorem cnv_num {x : It} (h : x.d ≠ 0) : cnvI 2 3 x = txE (txI x) := by unfold cnvI; rw [if_neg (by omega), if_neg (by decide)]
theorem txI_size {x : It} (h : isN x = true) : (txI x).size ≤ 43 := by
  have k := isN_iff.1 h
  have h1 := itoa_small x.n (by omega) (by omega)
  have h2 := itoa_small x.d (by omega) (by omega)
  by_cases hd : x.d = 1
  · rw [tx_one h hd]; omega
  · rw [tx_two h hd, ByteArray.size_append, ByteArray.size_append]
    have h3 : (⟨#[47]⟩ : ByteArray).size = 1 := rfl
    omega
theorem itOk_size {k : Int} {x : It} (h : ItOk k x) : InB x ∧ x.t.size ≤ 60 := by
  rcases h with rfl | ⟨_, h1, h2, h3, h4⟩ | ⟨_, h1⟩ | ⟨_, h1, h2, h3⟩
  · exact ⟨⟨by decide, by decide, Nat.zero_le _⟩, Nat.zero_le _⟩
  · exact ⟨⟨by omega, by omega, by unfold maxLen; omega⟩, by omega⟩
  · have k := isN_iff.1 h1
    have : x.t.size = 0 := by rw [k.1]; rfl
    exact ⟨⟨by omega, by omega, by unfold maxLen; omega⟩, by omega⟩
  · exact ⟨⟨by omega, by omega, by unfold maxLen; omega⟩, by omega⟩
theorem txE_ok {s : ByteArray} (h : s.size ≤ 60) : ItOk 3 (txE s) := .inr (.inr (.inr ⟨rfl, rfl, rfl, h⟩))
theorem cnv_ok {k j : Int} {x : It} (h : ItOk k x) (hk : k ≤ j) (hj : j ≤ 3) : ItOk j (cnvI k j x) := by
  by_cases e : k = j
  · rw [cnv_same (.inl e), ← e]; exact h
  rcases h with rfl | ⟨rfl, h1, h2, h3, h4⟩ | ⟨rfl, h1⟩ | ⟨rfl, h1, h2, h3⟩
  · rw [cnv_same (.inr (.inr rfl))]; exact .inl rfl
  · by_cases e3 : j = 3
    · subst e3
      rw [cnv_log (by omega)]
      refine txE_ok ?_
      split <;> decide
    · rw [cnv_same (.inr (.inl e3))]
      refine .inr (.inr (.inl ⟨by omega, isN_iff.2 ⟨empty_of_size h4, by omega, by omega, by omega, by omega, ?_⟩⟩))
      rw [h1]; simp
  · have e3 : j = 3 := by omega
    subst e3
    have k := isN_iff.1 h1
    rw [cnv_num (by omega)]
    have := txI_size h1
    exact txE_ok (by omega)
  · omega
/-- An element taken plain: a factor's is its level. -/
def plnI (levels : List ByteArray) (x : It) : It := if x.d = 0 ∨ levels.length = 0 then x else txE (levels.getD (x.n - 1).toNat ⟨#[]⟩)
def plnK (k : Int) (levels : List ByteArray) : Int := if levels.length = 0 then k else 3
theorem pln_same {levels : List ByteArray} {x : It} (h : x.d = 0 ∨ levels.length = 0) : plnI levels x = x := by unfold plnI; rw [if_pos h]
theorem pln_lev {levels : List ByteArray} {x : It} (h : ¬ (x.d = 0 ∨ levels.length = 0)) : plnI levels x = txE (levels.getD (x.n - 1).toNat ⟨#[]⟩) := by unfold plnI; rw [if_neg h]
theorem plnK_no {k : Int} {levels : List ByteArray} (h : levels.length = 0) : plnK k levels = k := by unfold plnK; rw [if_pos h]
theorem plnK_yes {k : Int} {levels : List ByteArray} (h : ¬ levels.length = 0) : plnK k levels = 3 := by unfold plnK; rw [if_neg h]
theorem pln_ok {k : Int} {levels : List ByteArray} {x : It} (h : ItOk k x) (hl : LevOk levels.length x) (hs : LabelsOk (txtS levels) levels.length 20) : ItOk (plnK k levels) (plnI levels x) := by
  by_cases e : levels.length = 0
  · rw [plnK_no e, pln_same (.inr e)]; exact h
  · rw [plnK_yes e]
    by_cases hd : x.d = 0
    · rw [pln_same (.inl hd)]
      rcases h with rfl | ⟨_, h1, _⟩ | ⟨_, h1⟩ | ⟨_, _, h1, _⟩
      · exact .inl rfl
      · omega
      · have := isN_iff.1 h1; omega
      · omega
    · rw [pln_lev (by omega)]
      refine txE_ok ?_
      rcases hl with h0 | h0 | ⟨h0, h1, h2⟩
      · omega
      · omega
      · have := (hs.2 (x.n - 1).toNat (by omega)).2.1
        exact this
/-- The number of bytes of a text. -/
def bytI (x : It) : It := if x.d = 0 then x else ⟨(x.t.size : Int), 1, ⟨#[]⟩⟩
theorem bytI_no {x : It} (h : x.d = 0) : bytI x = x := by unfold bytI; rw [if_pos h]
theorem bytI_yes {x : It} (h : ¬ x.d = 0) : bytI x = ⟨(x.t.size : Int), 1, ⟨#[]⟩⟩ := by unfold bytI; rw [if_neg h]
theorem bytI_in {x : It} (h : ItOk 3 x) : InB (bytI x) ∧ (bytI x).t.size ≤ 1048576 := by
  have k := itOk_size h
  by_cases hd : x.d = 0
  · rw [bytI_no hd]; exact ⟨k.1, by omega⟩
  · rw [bytI_yes hd]; exact ⟨⟨by constructor <;> simp only <;> omega, ⟨show (-9223372036854775808 : Int) ≤ 1 by decide, show (1 : Int) ≤ 9223372036854775807 by decide⟩, Nat.zero_le _⟩, Nat.zero_le _⟩
/-- The elements of a vector, plain. -/
def plnL (levels : List ByteArray) (items : List It) : List It := itF (fun i => plnI levels (items.getD i noI)) items.length
theorem plnL_len (levels : List ByteArray) (items : List It) : (plnL levels items).length = items.length := itF_len _ _
theorem plnL_at {levels : List ByteArray} {items : List It} {i : Nat} (h : i < items.length) : (plnL levels items).getD i noI = plnI levels (items.getD i noI) := itF_getD _ h
def cnvL (k j : Int) (l : List It) : List It := itF (fun i => cnvI k j (l.getD i noI)) l.length
theorem cnvL_len (k j : Int) (l : List It) : (cnvL k j l).length = l.length := itF_len _ _
theorem cnvL_at {k j : Int} {l : List It} {i : Nat} (h : i < l.length) : (cnvL k j l).getD i noI = cnvI k j (l.getD i noI) := itF_getD _ h
/-- What a vector that is atomic or NULL is known to have. -/
structure AtmOk (kk : Int) (items : List It) (levels : List ByteArray) : Prop where
  kind : 0 ≤ kk ∧ kk ≤ 3
  len : items.length ≤ 40
  llen : levels.length ≤ 20
  labs : LabelsOk (txtS levels) levels.length 20
  its : ∀ i, i < items.length → ItOk kk (items.getD i noI) ∧ LevOk levels.length (items.getD i noI)
  null : kk = 0 → items.length = 0
  two : kk ≠ 2 → levels.length = 0
theorem atm_ok {kk : Int} {items : List It} {parts : List Vec} {names cls levels : List ByteArray} {code env : Int} (h : ValidV (.mk kk items parts names cls levels code env)) (hk : kk ≤ 3) : AtmOk kk items levels := by
  have hf : FlatOk kk items parts.length names cls levels code env := h.1.flat
  have h1 := hf.h_len
  unfold lenV at h1
  rw [if_neg (by omega)] at h1
  exact ⟨⟨hf.h_kind.1, hk⟩, by omega, hf.h_levels.1, hf.h_levels, hf.h_items, fun e => by have := (hf.h_null e).1; omega, hf.h_noLevels⟩
theorem AtmOk.pk {kk : Int} {items : List It} {levels : List ByteArray} (h : AtmOk kk items levels) : 0 ≤ plnK kk levels ∧ plnK kk levels ≤ 3 ∧ kk ≤ plnK kk levels := by
  have := h.kind
  unfold plnK; split <;> omega
theorem AtmOk.pln {kk : Int} {items : List It} {levels : List ByteArray} (h : AtmOk kk items levels) {i : Nat} (hi : i < items.length) : ItOk (plnK kk levels) ((plnL levels items).getD i noI) := by
  rw [plnL_at hi]
  exact pln_ok (h.its i hi).1 (h.its i hi).2 h.labs
theorem AtmOk.cnv {kk j : Int} {items : List It} {levels : List ByteArray} (h : AtmOk kk items levels) (hj : plnK kk levels ≤ j) (hj3 : j ≤ 3) {i : Nat} (hi : i < items.length) : ItOk j ((cnvL (plnK kk levels) j (plnL levels items)).getD i noI) := by
  rw [cnvL_at (by rw [plnL_len]; exact hi)]
  exact cnv_ok (h.pln hi) hj hj3
theorem AtmOk.nolev {kk : Int} {items : List It} {levels : List ByteArray} (h : AtmOk kk items levels) : AtmOk (plnK kk levels) (plnL levels items) [] :=
  ⟨by have := h.pk; omega, by rw [plnL_len]; exact h.len, Nat.zero_le _, ⟨Nat.zero_le _, fun i hi => absurd hi (Nat.not_lt_zero _)⟩, fun i hi => ⟨h.pln (by rwa [plnL_len] at hi), .inl rfl⟩, fun e => by
    rw [plnL_len]
    by_cases hl : levels.length = 0
    · rw [plnK_no hl] at e; exact h.null e
    · rw [plnK_yes hl] at e; omega, fun _ => rfl⟩
end Go.Proofs.YtddebgmjolojeaaDoor
