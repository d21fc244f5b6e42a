/- The laws' own comparison of two vectors: two copies of one vector are equal. -/
import Derived.Test.YtddebgmjolojeaaRows
import Derived.Test.YtddebgmjolojeaaVecSz
import Derived.Deep.RegionHeld3
namespace Go.Proofs.Ytddebgmjolojeaa
open Go.RowKit
set_option maxRecDepth 100000
set_option linter.unusedVariables false

structure EqOk (d : Nat) : Prop where
  out : ∀ (v : Vec) (x y : Value) (lo hi lo' hi' : Nat) (w : World), VecAt lo hi w d v x → hi ≤ w.heap.size → VecAt lo' hi' w d v y → hi' ≤ w.heap.size → Fits d v →
    Calls Try.prog 8 #[x, y] w fun e w' => e = .returned (.bool true) ∧ Below w.heap.size w w'

set_option maxHeartbeats 2000000 in
theorem eqParts (d : Nat) (IH : EqOk d) (parts : List Vec) (a a' : Option Addr) (cap cap' : Nat) (lo hi lo' hi' : Nat) (w : World) (hs : VecsAt lo hi w d a parts) (hhi : hi ≤ w.heap.size) (hs' : VecsAt lo' hi' w d a' parts) (hhi' : hi' ≤ w.heap.size) (hf : ∀ i, i < parts.length → Fits d (parts.getD i noV)) (hn : parts.length ≤ 9223372036854775807) :
    Calls Try.prog 19 #[.slice a parts.length cap, .slice a' parts.length cap'] w fun e w' => e = .returned (.bool true) ∧ Below w.heap.size w w' := by
  have A := Lib.hid (fun (k : Nat) (w1 : World) (hk : k < parts.length) (hb : Below w.heap.size w w1) => (hs.below hb hhi).at_ hk)
  have A' := Lib.hid (fun (k : Nat) (w1 : World) (hk : k < parts.length) (hb : Below w.heap.size w w1) => (hs'.below hb hhi').at_ hk)
  have C := Lib.hid (fun (k : Nat) (w1 : World) (x y : Value) (hk : k < parts.length) (hb : Below w.heap.size w w1) (hv : VecAt lo hi w1 d (parts.getD k noV) x) (hv' : VecAt lo' hi' w1 d (parts.getD k noV) y) => IH.out _ x y lo hi lo' hi' w1 hv (Nat.le_trans hhi hb.size) hv' (Nat.le_trans hhi' hb.size) (hf k hk))
  clear hs hs' hf IH
  obtain ⟨n, hn'⟩ : ∃ n, parts.length = n := ⟨_, rfl⟩
  rw [hn'] at hn A A' C ⊢
  clear hn'
  go_enter Try.func19, Try.ntmps19
  go_wp2
  go_loopw [5] (fun i wr => ∃ k : Nat, k ≤ n ∧ i = .int .i64 k ∧ Below w.heap.size w wr) (fun i _ => n - (intOf i).toNat)
  case atStart => exact ⟨0, Nat.zero_le _, rfl, Below.refl _ _⟩
  case round =>
    obtain ⟨k, hk, rfl, hb⟩ := hrel
    have BB := Lib.hid hb
    clear hb
    by_cases hlt : k < n
    · obtain ⟨b, off, u0, u1, u2, u3, u4, u5, u6, u7, rfl, hbB, hv, c0, c1, c2, c3, c4, c5, c6, c7⟩ := A.out _ _ hlt BB.out
      obtain ⟨b', off', x0, x1, x2, x3, x4, x5, x6, x7, rfl, hbB', hv', d0, d1, d2, d3, d4, d5, d6, d7⟩ := A'.out _ _ hlt BB.out
      have HV := Lib.hid hv
      have HV' := Lib.hid hv'
      clear hv hv'
      have hlt' : (k : Int) < (n : Int) := by omega
      have HQ := Lib.hid (fun (w' : World) (hb : Below wr.heap.size wr w') => (⟨hb, bcl hb c0, bcl hb c1, bcl hb c2, bcl hb c3, bcl hb c4, bcl hb c5, bcl hb c6, bcl hb c7, bcl hb d0, bcl hb d1, bcl hb d2, bcl hb d3, bcl hb d4, bcl hb d5, bcl hb d6, bcl hb d7⟩ : (Below wr.heap.size wr w' ∧ w'.cell? ⟨b, off + k * 8, none⟩ = some u0 ∧ w'.cell? ⟨b, off + k * 8 + 1, none⟩ = some u1 ∧ w'.cell? ⟨b, off + k * 8 + 2, none⟩ = some u2 ∧ w'.cell? ⟨b, off + k * 8 + 3, none⟩ = some u3 ∧ w'.cell? ⟨b, off + k * 8 + 4, none⟩ = some u4 ∧ w'.cell? ⟨b, off + k * 8 + 5, none⟩ = some u5 ∧ w'.cell? ⟨b, off + k * 8 + 6, none⟩ = some u6 ∧ w'.cell? ⟨b, off + k * 8 + 7, none⟩ = some u7 ∧ w'.cell? ⟨b', off' + k * 8, none⟩ = some x0 ∧ w'.cell? ⟨b', off' + k * 8 + 1, none⟩ = some x1 ∧ w'.cell? ⟨b', off' + k * 8 + 2, none⟩ = some x2 ∧ w'.cell? ⟨b', off' + k * 8 + 3, none⟩ = some x3 ∧ w'.cell? ⟨b', off' + k * 8 + 4, none⟩ = some x4 ∧ w'.cell? ⟨b', off' + k * 8 + 5, none⟩ = some x5 ∧ w'.cell? ⟨b', off' + k * 8 + 6, none⟩ = some x6 ∧ w'.cell? ⟨b', off' + k * 8 + 7, none⟩ = some x7)))
      have CS := Lib.hid (fun (w' : World) (hb : Below wr.heap.size wr w') => C.out k w' _ _ hlt (below_then BB.out hb) (HV.out.kept (Kept.of_below hb (Nat.le_trans hhi BB.out.size))) (HV'.out.kept (Kept.of_below hb (Nat.le_trans hhi' BB.out.size))))
      clear c0 c1 c2 c3 c4 c5 c6 c7 d0 d1 d2 d3 d4 d5 d6 d7
      go_wp2
      go_region_held3 (fun w' => Below wr.heap.size wr w' ∧ w'.cell? ⟨b, off + k * 8, none⟩ = some u0 ∧ w'.cell? ⟨b, off + k * 8 + 1, none⟩ = some u1 ∧ w'.cell? ⟨b, off + k * 8 + 2, none⟩ = some u2 ∧ w'.cell? ⟨b, off + k * 8 + 3, none⟩ = some u3 ∧ w'.cell? ⟨b, off + k * 8 + 4, none⟩ = some u4 ∧ w'.cell? ⟨b, off + k * 8 + 5, none⟩ = some u5 ∧ w'.cell? ⟨b, off + k * 8 + 6, none⟩ = some u6 ∧ w'.cell? ⟨b, off + k * 8 + 7, none⟩ = some u7 ∧ w'.cell? ⟨b', off' + k * 8, none⟩ = some x0 ∧ w'.cell? ⟨b', off' + k * 8 + 1, none⟩ = some x1 ∧ w'.cell? ⟨b', off' + k * 8 + 2, none⟩ = some x2 ∧ w'.cell? ⟨b', off' + k * 8 + 3, none⟩ = some x3 ∧ w'.cell? ⟨b', off' + k * 8 + 4, none⟩ = some x4 ∧ w'.cell? ⟨b', off' + k * 8 + 5, none⟩ = some x5 ∧ w'.cell? ⟨b', off' + k * 8 + 6, none⟩ = some x6 ∧ w'.cell? ⟨b', off' + k * 8 + 7, none⟩ = some x7) (first | exact HQ.out _ (below_drew' (Below.refl _ _)) | exact HQ.out _ (below_then (And.left (by assumption)) (by assumption))) (first | (go_at_call 8; refine (CS.out _ (And.left (by assumption))).mono ?_; rintro e w1 ⟨rfl, b1⟩))
      have B1 := Lib.hid (below_then BB.out (And.left ‹Below wr.heap.size wr _ ∧ _›))
      go_wp2
      go_roundw
      case rel => exact ⟨k + 1, by omega, by go_num, B1.out⟩
      case measure => simp [intOf]; omega
    · obtain rfl : k = n := by omega
      go_wp2
      go_ret
      exact ⟨rfl, BB.out⟩

set_option maxHeartbeats 4000000 in
theorem eqStep (d : Nat) (IH : EqOk d) : EqOk (d + 1) := by
  refine ⟨fun v x y lo hi lo' hi' w hv hhi hv' hhi' hf => ?_⟩
  obtain ⟨kk, items, parts, names, cls, levels, code, env⟩ := v
  obtain ⟨d', ai, ci, ap, cp, an, cn, ac, cc, al, cl, ed, rfl, hI, hN, hC, hL, hP⟩ := vecAt_open hv
  obtain rfl : d = d' := by omega
  obtain ⟨d', ai', ci', ap', cp', an', cn', ac', cc', al', cl', ed', rfl, hI', hN', hC', hL', hP'⟩ := vecAt_open hv'
  obtain rfl : d = d' := by omega
  have hfp := fun {i : Nat} (hi : i < parts.length) => hf.part hi
  obtain ⟨_, _, _, li, lp, ln, lc, ll, bi, bn, bc, bl, _⟩ := hf
  unfold maxLen at li lp ln lc ll bi bn bc bl
  have CI := Lib.hid (fun (w1 : World) (hb : Below w.heap.size w w1) => eqItems items ai ai' ci ci' lo hi lo' hi' w1 (hI.below hb hhi) (Nat.le_trans hhi hb.size) (hI'.below hb hhi') (Nat.le_trans hhi' hb.size) (by omega))
  have CP := Lib.hid (fun (w1 : World) (hb : Below w.heap.size w w1) => eqParts d IH parts ap ap' cp cp' lo hi lo' hi' w1 (hP.below hb hhi) (Nat.le_trans hhi hb.size) (hP'.below hb hhi') (Nat.le_trans hhi' hb.size) (fun i hi => hfp hi) (by omega))
  have TS : ∀ (l : List ByteArray) (a a' : Option Addr) (cap cap' : Nat), TextsAt lo hi w a l → TextsAt lo' hi' w a' l → l.length ≤ 2 ^ 63 - 1 → ∀ (w1 : World), Below w.heap.size w w1 →
      Calls Try.prog 20 #[.slice a l.length cap, .slice a' l.length cap'] w1 fun e w' => e = .returned (.bool true) ∧ Below w1.heap.size w1 w' := by
    intro l a a' cap cap' ht ht' hlen w1 hb
    refine (eqStrs a a' l.length cap cap' (txtS l) (txtS l) (max hi hi') w1 ((ht.below hb hhi).strs.mono (Nat.le_max_left _ _)) ((ht'.below hb hhi').strs.mono (Nat.le_max_right _ _)) (by omega) (fun _ _ => rfl)).mono ?_
    rintro e w' ⟨rfl, m, rfl⟩
    exact ⟨rfl, below_drewN' (Below.refl _ _) m⟩
  have CN := Lib.hid (TS names an an' cn cn' hN hN' ln)
  have CC := Lib.hid (TS cls ac ac' cc cc' hC hC' lc)
  have CL := Lib.hid (TS levels al al' cl cl' hL hL' ll)
  clear hv hv' hI hN hC hL hP hI' hN' hC' hL' hP' hfp TS ed ed' li lp ln lc ll bi bn bc bl IH
  go_enter Try.func8, Try.ntmps8
  go_wp2_with fail
  refine (CI.out _ (below2 w _ _)).mono ?_
  rintro e w1 ⟨rfl, b1⟩
  have B1 := Lib.hid (below_then (below2 w _ _) b1)
  have KA1 := Lib.hid (blk_below b1 (blk_old (blk_new w _ rfl)))
  have KB1 := Lib.hid (blk_below b1 (blk_new _ _ (show w.heap.size + 1 = _ by simp)))
  clear b1
  obtain ⟨k0, k1, k2, k3, k4, k5, k6, k7⟩ := vec8 KA1.out
  obtain ⟨l0, l1, l2, l3, l4, l5, l6, l7⟩ := vec8 KB1.out
  go_wp2_with fail
  refine (CP.out _ B1.out).mono ?_
  rintro e w2 ⟨rfl, b1⟩
  have B2 := Lib.hid (below_then B1.out b1)
  have KA2 := Lib.hid (blk_below b1 KA1.out)
  have KB2 := Lib.hid (blk_below b1 KB1.out)
  clear b1 k0 k1 k2 k3 k4 k5 k6 k7 l0 l1 l2 l3 l4 l5 l6 l7
  obtain ⟨k0, k1, k2, k3, k4, k5, k6, k7⟩ := vec8 KA2.out
  obtain ⟨l0, l1, l2, l3, l4, l5, l6, l7⟩ := vec8 KB2.out
  go_wp2_with fail
  refine (CN.out _ B2.out).mono ?_
  rintro e w3 ⟨rfl, b1⟩
  have B3 := Lib.hid (below_then B2.out b1)
  have KA3 := Lib.hid (blk_below b1 KA2.out)
  have KB3 := Lib.hid (blk_below b1 KB2.out)
  clear b1 k0 k1 k2 k3 k4 k5 k6 k7 l0 l1 l2 l3 l4 l5 l6 l7
  obtain ⟨k0, k1, k2, k3, k4, k5, k6, k7⟩ := vec8 KA3.out
  obtain ⟨l0, l1, l2, l3, l4, l5, l6, l7⟩ := vec8 KB3.out
  go_wp2_with fail
  refine (CC.out _ B3.out).mono ?_
  rintro e w4 ⟨rfl, b1⟩
  have B4 := Lib.hid (below_then B3.out b1)
  have KA4 := Lib.hid (blk_below b1 KA3.out)
  have KB4 := Lib.hid (blk_below b1 KB3.out)
  clear b1 k0 k1 k2 k3 k4 k5 k6 k7 l0 l1 l2 l3 l4 l5 l6 l7
  obtain ⟨k0, k1, k2, k3, k4, k5, k6, k7⟩ := vec8 KA4.out
  obtain ⟨l0, l1, l2, l3, l4, l5, l6, l7⟩ := vec8 KB4.out
  go_wp2_with fail
  refine (CL.out _ B4.out).mono ?_
  rintro e w5 ⟨rfl, b1⟩
  have B5 := Lib.hid (below_then B4.out b1)
  have KA5 := Lib.hid (blk_below b1 KA4.out)
  have KB5 := Lib.hid (blk_below b1 KB4.out)
  clear b1 k0 k1 k2 k3 k4 k5 k6 k7 l0 l1 l2 l3 l4 l5 l6 l7
  obtain ⟨k0, k1, k2, k3, k4, k5, k6, k7⟩ := vec8 KA5.out
  obtain ⟨l0, l1, l2, l3, l4, l5, l6, l7⟩ := vec8 KB5.out
  go_wp2
  go_ret
  exact ⟨rfl, B5.out⟩
theorem eqZero : EqOk 0 := ⟨fun _ _ _ _ _ _ _ _ h => h.elim⟩
theorem eqAll : ∀ d, EqOk d
  | 0 => eqZero
  | d + 1 => eqStep d (eqAll d)
end Go.Proofs.Ytddebgmjolojeaa
