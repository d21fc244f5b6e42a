/- Called with any arguments (slices of bytes), the law FnDivision returns true and leaves everything as it was. No condition. -/
import Derived.Test.YtmglolpiekbnpaaRows
import Derived.Test.YtmglolpiekbnpaaNumLaws
import Derived.Test.YtmglolpiekbnpaaNumImpl5
import Derived.Test.YtmglolpiekbnpaaNumSpec
import Derived.Test.YtmglolpiekbnpaaNumSpecSub
import Derived.Test.YtmglolpiekbnpaaNumCmp
import Derived.Test.YtmglolpiekbnpaaDrawNum
import Derived.Test.YtmglolpiekbnpaaFresh
import Derived.Test.YtmglolpiekbnpaaHeld
import Derived.Test.YtmglolpiekbnpaaReg
import Derived.Deep.RegionHeld3
import Derived.Deep.RegionWith
import Derived.Deep.DeepCutAuto
import Derived.WalkKit
import Derived.ProofKit
import Derived.OpenShut
import Derived.ShutString
import Derived.ChangeOld
import Derived.Carry
import Derived.Below
namespace Go.Proofs.Ytmglolpiekbnpaa.fnDivision
open Go.ChangeShapes Go.WideShapes Go.ChangeAt Go.RowKit
open Go.ChangeMaps (open_string shut_string)
set_option linter.unusedVariables false

theorem laidOut : laidOutB Try.prog = true := by kernel_rfl
theorem own : ownKnob Try.prog.godebug = none := by kernel_rfl

theorem split1 {a x : It} (h : a.d ≠ 0 → a = x) : (a.d = 0) ∨ (¬ a.d = 0 ∧ a = x) := by
  by_cases h1 : a.d = 0
  · left; exact h1
  · right; exact ⟨h1, h h1⟩
theorem splitR {r y : It} {c : Int} (h : r.d ≠ 0 → r.n ≠ 0 → (r.n < 0 ↔ y.n < 0)) (k : r.d ≠ 0 → c ≠ 1) :
    (r.d = 0) ∨ (¬ r.d = 0 ∧ r.n = 0 ∧ ¬ c = 1) ∨ (¬ r.d = 0 ∧ ¬ r.n = 0 ∧ r.n < 0 ∧ y.n < 0 ∧ ¬ c = 1) ∨ (¬ r.d = 0 ∧ ¬ r.n = 0 ∧ 0 ≤ r.n ∧ 0 ≤ y.n ∧ ¬ c = 1) := by
  by_cases h1 : r.d = 0
  · exact .inl h1
  · have hc := k h1
    by_cases h2 : r.n = 0
    · exact .inr (.inl ⟨h1, h2, hc⟩)
    · have := h h1 h2
      by_cases h3 : r.n < 0
      · exact .inr (.inr (.inl ⟨h1, h2, h3, this.1 h3, hc⟩))
      · exact .inr (.inr (.inr ⟨h1, h2, by omega, by by_cases h4 : y.n < 0 <;> omega, hc⟩))
theorem splitH {h : It} (f : h.d ≠ 0 → 0 ≤ h.n ∧ h.n < h.d) : (h.d = 0) ∨ (¬ h.d = 0 ∧ 0 ≤ h.n ∧ h.n < h.d) := by
  by_cases h1 : h.d = 0
  · left; exact h1
  · right; exact ⟨h1, f h1⟩
theorem splitK {k : It} (f : k.d ≠ 0 → -k.d ≤ 2 * k.n ∧ 2 * k.n < k.d) : (k.d = 0) ∨ (¬ k.d = 0 ∧ -k.d ≤ 2 * k.n ∧ 2 * k.n < k.d) := by
  by_cases h1 : k.d = 0
  · left; exact h1
  · right; exact ⟨h1, f h1⟩
theorem num_small {k : It} (h : k = noI ∨ isN k = true) : (-999999999 ≤ k.n ∧ k.n ≤ 999999999) ∧ (-999999999 ≤ k.d ∧ k.d ≤ 999999999) := by
  rcases h with rfl | h
  · decide
  · have := isN_iff.1 h; omega
theorem sub_cases (x y : It) : subI x y = noI ∨ isN (subI x y) = true := by
  unfold subI addI
  split
  · rcases ofQ_cases (toQ x + toQ (negI y)) with h | h
    · exact .inl h
    · exact .inr h.1
  · exact .inl rfl
set_option maxHeartbeats 16000000 in
set_option maxRecDepth 100000 in
theorem walk (a0 : Option Addr) (n0 cap0 : Nat) (w : World) (hs0 : CodeAt w.heap.size w a0 n0) :
    Calls Try.prog 3 #[.slice a0 n0 cap0] w fun e w' => e = .returned (.bool true) ∧ Below w.heap.size w w' := by
  have S := Lib.hid hs0
  clear hs0
  by_cases hbig : 1048576 < (n0 : Int)
  · clear S
    go_enter Try.func3, Try.ntmps3
    go_wp2_with fail
    refine (bigCode a0 n0 cap0 w).mono ?_
    rintro e w' ⟨rfl, rfl⟩
    go_wp2
    go_ret
    exact ⟨rfl, Below.refl _ _⟩
  · have hn : n0 ≤ 1048576 := by omega
    go_enter Try.func3, Try.ntmps3
    go_wp2_with fail
    refine (bigCode a0 n0 cap0 w).mono ?_
    rintro e w' ⟨rfl, rfl⟩
    go_wp2_with fail
    refine (drawQuotientOf a0 n0 cap0 w S.out hn).mono ?_
    rintro e w1 ⟨⟨x, y, rfl, hx, hy⟩, hb⟩
    have xS : Hid (x.t.size ≤ 9223372036854775807) := Lib.hid (by have := hx.2.2; omega)
    have yS : Hid (y.t.size ≤ 9223372036854775807) := Lib.hid (by have := hy.2.2; omega)
    have H2 := Lib.hid (held_pair (x := x) (y := y) hb)
    clear hb hx hy S
    obtain ⟨q, hq_⟩ : ∃ o_ : It, quoI x y = o_ := ⟨_, rfl⟩
    obtain ⟨r, hr_⟩ : ∃ o_ : It, remI x y = o_ := ⟨_, rfl⟩
    obtain ⟨qy, hqy_⟩ : ∃ o_ : It, mulI q y = o_ := ⟨_, rfl⟩
    obtain ⟨z, hz_⟩ : ∃ o_ : It, addI qy r = o_ := ⟨_, rfl⟩
    obtain ⟨rr, hrr_⟩ : ∃ o_ : It, mulI r r = o_ := ⟨_, rfl⟩
    obtain ⟨yy, hyy_⟩ : ∃ o_ : It, mulI y y = o_ := ⟨_, rfl⟩
    obtain ⟨f, hf_⟩ : ∃ o_ : It, floorI x = o_ := ⟨_, rfl⟩
    obtain ⟨g, hg_⟩ : ∃ o_ : It, roundI x = o_ := ⟨_, rfl⟩
    obtain ⟨h, hh_⟩ : ∃ o_ : It, subI x f = o_ := ⟨_, rfl⟩
    obtain ⟨k, hk_⟩ : ∃ o_ : It, subI x g = o_ := ⟨_, rfl⟩
    obtain ⟨cm, hcm⟩ : ∃ o_ : Int, cmpI rr yy = o_ := ⟨_, rfl⟩
    have qS : Hid (q.t.size ≤ 9223372036854775807) := Lib.hid (by rw [← hq_, quoS_t]; decide)
    have rS : Hid (r.t.size ≤ 9223372036854775807) := Lib.hid (by rw [← hr_, remS_t]; decide)
    have qyS : Hid (qy.t.size ≤ 9223372036854775807) := Lib.hid (by rw [← hqy_, mulI_t]; decide)
    have rrS : Hid (rr.t.size ≤ 9223372036854775807) := Lib.hid (by rw [← hrr_, mulI_t]; decide)
    have yyS : Hid (yy.t.size ≤ 9223372036854775807) := Lib.hid (by rw [← hyy_, mulI_t]; decide)
    have fS : Hid (f.t.size ≤ 9223372036854775807) := Lib.hid (by rw [← hf_, floorS_t]; decide)
    have gS : Hid (g.t.size ≤ 9223372036854775807) := Lib.hid (by rw [← hg_, roundS_t]; decide)
    have ZZ := Lib.hid (split1 (a := z) (x := x) (by rw [← hz_, ← hqy_, ← hq_, ← hr_]; exact fun h => quo_rem h))
    have RR := Lib.hid (splitR (r := r) (y := y) (c := cm) (by rw [← hr_]; exact fun h k => rem_sign h k) (by rw [← hcm, ← hrr_, ← hyy_, ← hr_]; exact fun h => rem_small h))
    have HH := Lib.hid (splitH (h := h) (by rw [← hh_, ← hf_]; exact fun k => floor_near k))
    have KK := Lib.hid (splitK (k := k) (by rw [← hk_, ← hg_]; exact fun k => round_near k))
    have NK := Lib.hid (num_small (show k = noI ∨ isN k = true from by rw [← hk_]; exact sub_cases x g))
    have CQ : Hid (∀ W, Calls Try.prog 13 #[.agg #[.int .i64 x.n, .int .i64 x.d, .string x.t], .agg #[.int .i64 y.n, .int .i64 y.d, .string y.t]] W fun e w' => e = .returned (.agg #[.int .i64 q.n, .int .i64 q.d, .string q.t]) ∧ Below W.heap.size W w') := Lib.hid (fun W => hq_ ▸ implQuo x y W xS.out yS.out)
    have DQ : Hid (∀ W, Calls Try.prog 15 #[.agg #[.int .i64 x.n, .int .i64 x.d, .string x.t], .agg #[.int .i64 y.n, .int .i64 y.d, .string y.t]] W fun e w' => e = .returned (.agg #[.int .i64 q.n, .int .i64 q.d, .string q.t]) ∧ Below W.heap.size W w') := Lib.hid (fun W => hq_ ▸ specQuo x y W xS.out yS.out)
    have CR : Hid (∀ W, Calls Try.prog 14 #[.agg #[.int .i64 x.n, .int .i64 x.d, .string x.t], .agg #[.int .i64 y.n, .int .i64 y.d, .string y.t]] W fun e w' => e = .returned (.agg #[.int .i64 r.n, .int .i64 r.d, .string r.t]) ∧ Below W.heap.size W w') := Lib.hid (fun W => hr_ ▸ implRem x y W xS.out yS.out)
    have DR : Hid (∀ W, Calls Try.prog 16 #[.agg #[.int .i64 x.n, .int .i64 x.d, .string x.t], .agg #[.int .i64 y.n, .int .i64 y.d, .string y.t]] W fun e w' => e = .returned (.agg #[.int .i64 r.n, .int .i64 r.d, .string r.t]) ∧ Below W.heap.size W w') := Lib.hid (fun W => hr_ ▸ specRem x y W xS.out yS.out)
    have DM : Hid (∀ W, Calls Try.prog 18 #[.agg #[.int .i64 q.n, .int .i64 q.d, .string q.t], .agg #[.int .i64 y.n, .int .i64 y.d, .string y.t]] W fun e w' => e = .returned (.agg #[.int .i64 qy.n, .int .i64 qy.d, .string qy.t]) ∧ Below W.heap.size W w') := Lib.hid (fun W => hqy_ ▸ specMul q y W qS.out yS.out)
    have DA : Hid (∀ W, Calls Try.prog 17 #[.agg #[.int .i64 qy.n, .int .i64 qy.d, .string qy.t], .agg #[.int .i64 r.n, .int .i64 r.d, .string r.t]] W fun e w' => e = .returned (.agg #[.int .i64 z.n, .int .i64 z.d, .string z.t]) ∧ Below W.heap.size W w') := Lib.hid (fun W => hz_ ▸ specAdd qy r W qyS.out rS.out)
    have M1 : Hid (∀ W, Calls Try.prog 18 #[.agg #[.int .i64 r.n, .int .i64 r.d, .string r.t], .agg #[.int .i64 r.n, .int .i64 r.d, .string r.t]] W fun e w' => e = .returned (.agg #[.int .i64 rr.n, .int .i64 rr.d, .string rr.t]) ∧ Below W.heap.size W w') := Lib.hid (fun W => hrr_ ▸ specMul r r W rS.out rS.out)
    have M2 : Hid (∀ W, Calls Try.prog 18 #[.agg #[.int .i64 y.n, .int .i64 y.d, .string y.t], .agg #[.int .i64 y.n, .int .i64 y.d, .string y.t]] W fun e w' => e = .returned (.agg #[.int .i64 yy.n, .int .i64 yy.d, .string yy.t]) ∧ Below W.heap.size W w') := Lib.hid (fun W => hyy_ ▸ specMul y y W yS.out yS.out)
    have CC : Hid (∀ W, Calls Try.prog 19 #[.agg #[.int .i64 rr.n, .int .i64 rr.d, .string rr.t], .agg #[.int .i64 yy.n, .int .i64 yy.d, .string yy.t]] W fun e w' => e = .returned (.int .i64 cm) ∧ Below W.heap.size W w') := Lib.hid (fun W => hcm ▸ specCmp rr yy W rrS.out yyS.out)
    have CF : Hid (∀ W, Calls Try.prog 20 #[.agg #[.int .i64 x.n, .int .i64 x.d, .string x.t]] W fun e w' => e = .returned (.agg #[.int .i64 f.n, .int .i64 f.d, .string f.t]) ∧ Below W.heap.size W w') := Lib.hid (fun W => hf_ ▸ implFloor x W xS.out)
    have DF : Hid (∀ W, Calls Try.prog 23 #[.agg #[.int .i64 x.n, .int .i64 x.d, .string x.t]] W fun e w' => e = .returned (.agg #[.int .i64 f.n, .int .i64 f.d, .string f.t]) ∧ Below W.heap.size W w') := Lib.hid (fun W => hf_ ▸ specFloor x W xS.out)
    have CG : Hid (∀ W, Calls Try.prog 21 #[.agg #[.int .i64 x.n, .int .i64 x.d, .string x.t]] W fun e w' => e = .returned (.agg #[.int .i64 g.n, .int .i64 g.d, .string g.t]) ∧ Below W.heap.size W w') := Lib.hid (fun W => hg_ ▸ implRound x W xS.out)
    have DG : Hid (∀ W, Calls Try.prog 24 #[.agg #[.int .i64 x.n, .int .i64 x.d, .string x.t]] W fun e w' => e = .returned (.agg #[.int .i64 g.n, .int .i64 g.d, .string g.t]) ∧ Below W.heap.size W w') := Lib.hid (fun W => hg_ ▸ specRound x W xS.out)
    have DH : Hid (∀ W, Calls Try.prog 22 #[.agg #[.int .i64 x.n, .int .i64 x.d, .string x.t], .agg #[.int .i64 f.n, .int .i64 f.d, .string f.t]] W fun e w' => e = .returned (.agg #[.int .i64 h.n, .int .i64 h.d, .string h.t]) ∧ Below W.heap.size W w') := Lib.hid (fun W => hh_ ▸ specSub x f W xS.out fS.out)
    have DK : Hid (∀ W, Calls Try.prog 22 #[.agg #[.int .i64 x.n, .int .i64 x.d, .string x.t], .agg #[.int .i64 g.n, .int .i64 g.d, .string g.t]] W fun e w' => e = .returned (.agg #[.int .i64 k.n, .int .i64 k.d, .string k.t]) ∧ Below W.heap.size W w') := Lib.hid (fun W => hk_ ▸ specSub x g W xS.out gS.out)
    clear hq_ hr_ hqy_ hz_ hrr_ hyy_ hf_ hg_ hh_ hk_ hcm xS yS qS rS qyS rrS yyS fS gS
    go_wp2_with fail
    refine (CQ.out _).mono ?_
    rintro e v1 ⟨rfl, hb⟩
    have H1 := Lib.hid (held_call H2.out hb)
    clear hb H2
    obtain ⟨gy, hgy⟩ : ∃ g, w1.heap.size + 1 = g := ⟨_, rfl⟩
    simp only [hgy] at H1 ⊢
    obtain ⟨gx, hgx⟩ : ∃ g, w1.heap.size = g := ⟨_, rfl⟩
    simp only [hgx] at H1 ⊢
    clear hgx hgy
    obtain ⟨⟨kx0, kx1, kx2⟩, _, _, _⟩ := three (held_at (g := gx) (x := x) H1.out (by simp))
    obtain ⟨⟨ky0, ky1, ky2⟩, _, _, _⟩ := three (held_at (g := gy) (x := y) H1.out (by simp))
    have lx : gx < v1.heap.size := held_lt H1.out (gx, x) (by simp)
    have ly : gy < v1.heap.size := held_lt H1.out (gy, y) (by simp)
    go_wp2_with fail
    refine (CR.out _).mono ?_
    rintro e v2 ⟨rfl, hb⟩
    have H3 := Lib.hid (held_new (z := r) (held_call (held_new (z := q) H1.out) hb))
    clear hb H1 lx ly
    clear kx0 kx1 kx2 ky0 ky1 ky2
    go_wp2_with fail
    obtain ⟨gq, hgq⟩ : ∃ g, v1.heap.size = g := ⟨_, rfl⟩
    simp only [hgq] at H3 ⊢
    obtain ⟨gr, hgr⟩ : ∃ g, v2.heap.size = g := ⟨_, rfl⟩
    simp only [hgr] at H3 ⊢
    obtain ⟨W4, hW4⟩ : ∃ W, v2.alloc (.cells #[.int .i64 r.n, .int .i64 r.d, .string r.t] 25) = W := ⟨_, rfl⟩
    rw [hW4] at H3 ⊢
    clear hgq hgr hW4
    have H := H3
    clear H3
    have BS := Lib.hid (Below.refl W4.heap.size W4)
    have hs0 := H.out.1.size
    go_region_held3 (fun w' => w'.cell? ⟨gx, 0, none⟩ = some (.int .i64 x.n) ∧ w'.cell? ⟨gx, 1, none⟩ = some (.int .i64 x.d) ∧ w'.cell? ⟨gx, 2, none⟩ = some (.string x.t) ∧ w'.cell? ⟨gy, 0, none⟩ = some (.int .i64 y.n) ∧ w'.cell? ⟨gy, 1, none⟩ = some (.int .i64 y.d) ∧ w'.cell? ⟨gy, 2, none⟩ = some (.string y.t) ∧ w'.cell? ⟨gq, 0, none⟩ = some (.int .i64 q.n) ∧ w'.cell? ⟨gq, 1, none⟩ = some (.int .i64 q.d) ∧ w'.cell? ⟨gq, 2, none⟩ = some (.string q.t) ∧ w'.cell? ⟨gr, 0, none⟩ = some (.int .i64 r.n) ∧ w'.cell? ⟨gr, 1, none⟩ = some (.int .i64 r.d) ∧ w'.cell? ⟨gr, 2, none⟩ = some (.string r.t)) (first | with_reducible exact (cat3 (held3 (x := x) H.out (by simp)) (cat3 (held3 (x := y) H.out (by simp)) (cat3 (held3 (x := q) H.out (by simp)) (held3 (x := r) H.out (by simp))))) | with_reducible exact (cat3 (held3 (x := x) (held_drew H.out) (by simp)) (cat3 (held3 (x := y) (held_drew H.out) (by simp)) (cat3 (held3 (x := q) (held_drew H.out) (by simp)) (held3 (x := r) (held_drew H.out) (by simp))))) | with_reducible exact (cat3 (held3 (x := x) (held_alloc H.out _) (by simp)) (cat3 (held3 (x := y) (held_alloc H.out _) (by simp)) (cat3 (held3 (x := q) (held_alloc H.out _) (by simp)) (held3 (x := r) (held_alloc H.out _) (by simp))))) | with_reducible exact (cat3 (held3 (x := x) (held_drew (held_alloc H.out _)) (by simp)) (cat3 (held3 (x := y) (held_drew (held_alloc H.out _)) (by simp)) (cat3 (held3 (x := q) (held_drew (held_alloc H.out _)) (by simp)) (held3 (x := r) (held_drew (held_alloc H.out _)) (by simp))))) | with_reducible exact (cat3 (held3 (x := x) (held_alloc (held_drew H.out) _) (by simp)) (cat3 (held3 (x := y) (held_alloc (held_drew H.out) _) (by simp)) (cat3 (held3 (x := q) (held_alloc (held_drew H.out) _) (by simp)) (held3 (x := r) (held_alloc (held_drew H.out) _) (by simp))))) | exact (cat3 (held3 (x := x) (held_far H.out HB.out (by omega) (by omega)) (by simp)) (cat3 (held3 (x := y) (held_far H.out HB.out (by omega) (by omega)) (by simp)) (cat3 (held3 (x := q) (held_far H.out HB.out (by omega) (by omega)) (by simp)) (held3 (x := r) (held_far H.out HB.out (by omega) (by omega)) (by simp))))) | exact (cat3 (held3 (x := x) (held_drew (held_far H.out HB.out (by omega) (by omega))) (by simp)) (cat3 (held3 (x := y) (held_drew (held_far H.out HB.out (by omega) (by omega))) (by simp)) (cat3 (held3 (x := q) (held_drew (held_far H.out HB.out (by omega) (by omega))) (by simp)) (held3 (x := r) (held_drew (held_far H.out HB.out (by omega) (by omega))) (by simp)))))) (first
          | (go_at_call 15; refine (DQ.out _).mono ?_; rintro e v3 ⟨rfl, hb⟩; have H := Lib.hid (held_step H.out (by first | with_reducible exact .same | with_reducible exact .drew | with_reducible exact .alloc _ | with_reducible exact .both _ | with_reducible exact .swap _) hb); have BS := Lib.hid (below_step BS.out (by first | with_reducible exact .same | with_reducible exact .drew | with_reducible exact .alloc _ | with_reducible exact .both _ | with_reducible exact .swap _) hb BS.out.size); have hs := BS.out.size; clear hb)
          | (go_at_call 16; refine (DR.out _).mono ?_; rintro e v4 ⟨rfl, hb⟩; have H := Lib.hid (held_step H.out (by first | with_reducible exact .same | with_reducible exact .drew | with_reducible exact .alloc _ | with_reducible exact .both _ | with_reducible exact .swap _) hb); have BS := Lib.hid (below_step BS.out (by first | with_reducible exact .same | with_reducible exact .drew | with_reducible exact .alloc _ | with_reducible exact .both _ | with_reducible exact .swap _) hb BS.out.size); have hs := BS.out.size; clear hb))
    clear BS hs hs0
    go_wp2_with fail
    have HB := Lib.hid (held_lt H.out)
    have hs0 := H.out.1.size
    go_wp2_with fail
    go_cut [7] (fun sv wx => ∃ g : Nat, sv = .pointer (some ⟨g, 0, none⟩) ∧ Held w wx ((g, z) :: [(gr, r), (gq, q), (gy, y), (gx, x)]))
    case first =>
      have BS := Lib.hid (Below.refl v4.heap.size v4)
      go_region_held3 (fun w' => w'.cell? ⟨gx, 0, none⟩ = some (.int .i64 x.n) ∧ w'.cell? ⟨gx, 1, none⟩ = some (.int .i64 x.d) ∧ w'.cell? ⟨gx, 2, none⟩ = some (.string x.t) ∧ w'.cell? ⟨gy, 0, none⟩ = some (.int .i64 y.n) ∧ w'.cell? ⟨gy, 1, none⟩ = some (.int .i64 y.d) ∧ w'.cell? ⟨gy, 2, none⟩ = some (.string y.t) ∧ w'.cell? ⟨gq, 0, none⟩ = some (.int .i64 q.n) ∧ w'.cell? ⟨gq, 1, none⟩ = some (.int .i64 q.d) ∧ w'.cell? ⟨gq, 2, none⟩ = some (.string q.t) ∧ w'.cell? ⟨gr, 0, none⟩ = some (.int .i64 r.n) ∧ w'.cell? ⟨gr, 1, none⟩ = some (.int .i64 r.d) ∧ w'.cell? ⟨gr, 2, none⟩ = some (.string r.t)) (first | with_reducible exact (cat3 (held3 (x := x) H.out (by simp)) (cat3 (held3 (x := y) H.out (by simp)) (cat3 (held3 (x := q) H.out (by simp)) (held3 (x := r) H.out (by simp))))) | with_reducible exact (cat3 (held3 (x := x) (held_drew H.out) (by simp)) (cat3 (held3 (x := y) (held_drew H.out) (by simp)) (cat3 (held3 (x := q) (held_drew H.out) (by simp)) (held3 (x := r) (held_drew H.out) (by simp))))) | with_reducible exact (cat3 (held3 (x := x) (held_alloc H.out _) (by simp)) (cat3 (held3 (x := y) (held_alloc H.out _) (by simp)) (cat3 (held3 (x := q) (held_alloc H.out _) (by simp)) (held3 (x := r) (held_alloc H.out _) (by simp))))) | with_reducible exact (cat3 (held3 (x := x) (held_drew (held_alloc H.out _)) (by simp)) (cat3 (held3 (x := y) (held_drew (held_alloc H.out _)) (by simp)) (cat3 (held3 (x := q) (held_drew (held_alloc H.out _)) (by simp)) (held3 (x := r) (held_drew (held_alloc H.out _)) (by simp))))) | with_reducible exact (cat3 (held3 (x := x) (held_alloc (held_drew H.out) _) (by simp)) (cat3 (held3 (x := y) (held_alloc (held_drew H.out) _) (by simp)) (cat3 (held3 (x := q) (held_alloc (held_drew H.out) _) (by simp)) (held3 (x := r) (held_alloc (held_drew H.out) _) (by simp))))) | exact (cat3 (held3 (x := x) (held_far H.out HB.out (by omega) (by omega)) (by simp)) (cat3 (held3 (x := y) (held_far H.out HB.out (by omega) (by omega)) (by simp)) (cat3 (held3 (x := q) (held_far H.out HB.out (by omega) (by omega)) (by simp)) (held3 (x := r) (held_far H.out HB.out (by omega) (by omega)) (by simp))))) | exact (cat3 (held3 (x := x) (held_drew (held_far H.out HB.out (by omega) (by omega))) (by simp)) (cat3 (held3 (x := y) (held_drew (held_far H.out HB.out (by omega) (by omega))) (by simp)) (cat3 (held3 (x := q) (held_drew (held_far H.out HB.out (by omega) (by omega))) (by simp)) (held3 (x := r) (held_drew (held_far H.out HB.out (by omega) (by omega))) (by simp)))))) (first
          | (go_at_call 18; refine (DM.out _).mono ?_; rintro e r1 ⟨rfl, hb⟩; (first | have G := Lib.hid (blk_below (g := v4.heap.size) hb (blk_new _ _ (by simp))) | have G := Lib.hid (blk_below (g := v4.heap.size) hb (blk_drew (blk_new _ _ (by simp)))) | skip); have H := Lib.hid (held_step H.out (by first | with_reducible exact .same | with_reducible exact .drew | with_reducible exact .alloc _ | with_reducible exact .both _ | with_reducible exact .swap _) hb); have BS := Lib.hid (below_step BS.out (by first | with_reducible exact .same | with_reducible exact .drew | with_reducible exact .alloc _ | with_reducible exact .both _ | with_reducible exact .swap _) hb BS.out.size); have hs := BS.out.size; clear hb)
          | (go_at_call 17; refine (DA.out _).mono ?_; rintro e r2 ⟨rfl, hb⟩; (first | have G := Lib.hid (blk_below hb G.out) | have G := Lib.hid (blk_below hb (blk_drew G.out)) | have G := Lib.hid (blk_below (g := r1.heap.size) hb (blk_new _ _ (by simp))) | have G := Lib.hid (blk_below (g := r1.heap.size) hb (blk_drew (blk_new _ _ (by simp)))) | skip); have H := Lib.hid (held_step H.out (by first | with_reducible exact .same | with_reducible exact .drew | with_reducible exact .alloc _ | with_reducible exact .both _ | with_reducible exact .swap _) hb); have BS := Lib.hid (below_step BS.out (by first | with_reducible exact .same | with_reducible exact .drew | with_reducible exact .alloc _ | with_reducible exact .both _ | with_reducible exact .swap _) hb BS.out.size); have hs := BS.out.size; clear hb; (first | (have G6 := three G.out; obtain ⟨⟨c0, c1, c2⟩, f0, f1, f2⟩ := G6) | skip)))
      all_goals (go_wp2_with fail; go_meet; first | exact ⟨_, rfl, held_set H.out G.out HB.out (by omega) (by omega)⟩ | exact ⟨_, rfl, held_new H.out⟩)
    case rest =>
      obtain ⟨u1, rfl⟩ : ∃ u : World, u = wc := ⟨_, rfl⟩
      obtain ⟨gz, rfl, hA⟩ := hcut
      have H := Lib.hid hA
      clear hA HB hs0
      go_wp2_with fail
      go_cut [83] (fun sv wx => sv = .bool false ∧ Held w wx ((gz, z) :: [(gr, r), (gq, q), (gy, y), (gx, x)]))
      case first =>
        have HB := Lib.hid (held_lt H.out)
        clear CQ DQ CR DR DM DA CF DF CG DG DH DK HH KK NK
        refine run_region (ops := (opsOf Try.f3 9)) (S := fun w' => Held w w' ((gz, z) :: [(gr, r), (gq, q), (gy, y), (gx, x)])) [(0, true), (1, true), (2, true), (3, true), (4, true), (5, true), (6, true), (7, true), (8, true), (9, true), (10, true), (11, true), (12, true), (13, true), (14, true), (15, true), (16, true), (17, true), (18, true), (19, true), (20, true), (21, true), (22, true), (23, true), (24, true), (25, true), (26, true), (27, true), (28, true), (29, true), (30, true), (31, true), (32, true), (33, true), (35, true), (36, true), (34, false), (37, false), (38, false), (39, true), (40, true), (41, true)] (by kernel_rfl) (by kernel_rfl) (by kernel_rfl) (by kernel_rfl) (by kernel_rfl) (fun _ _ _ _ _ h => h) (held_drew H.out) ?_
        have H := Lib.hid (held_drew H.out)
        refine run_part (b := gz) rfl (by kernel_rfl) (show opAt (opsOf Try.f3 9) 0 = some (some 42, .fieldAddr 25 (.tmp 7) 1, none) from by kernel_rfl) (by kernel_rfl) (by kernel_rfl) (by kernel_rfl) ?_
        refine run_den z (b := gz) (show opAt (opsOf Try.f3 9) 1 = some (some 43, .load 3 (.tmp 42), none) from by kernel_rfl) (by kernel_rfl) (by kernel_rfl) (by kernel_rfl) (List.Mem.head _) ?_
        rcases ZZ.out with zz | ⟨zz, hzx⟩
        · clear ZZ
          refine run_cmp (k := .i64) (p := z.d) (q := 0) (b := false) (show opAt (opsOf Try.f3 9) 2 = some (some 44, .binOp .neq 3 (.tmp 43) (.const (.int .i64 0)) 3, none) from by kernel_rfl) (by kernel_rfl) (by kernel_rfl) (by kernel_rfl) (by kernel_rfl) (congrArg some (bne_eq_false_iff_eq.2 zz)) ?_
          refine run_mov (v := .bool false) (show opAt (opsOf Try.f3 9) 3 = some (some 45, .move (.tmp 44), none) from by kernel_rfl) (by kernel_rfl) (by kernel_rfl) (by kernel_rfl) ?_
          refine run_skip (show opAt (opsOf Try.f3 9) 4 = some (some 46, .load 25 (.tmp 7), some (3, true)) from by kernel_rfl) (by kernel_rfl) (by kernel_rfl) ?_
          refine run_skip (show opAt (opsOf Try.f3 9) 5 = some (some 47, .load 25 (.tmp 3), some (3, true)) from by kernel_rfl) (by kernel_rfl) (by kernel_rfl) ?_
          refine run_skip (show opAt (opsOf Try.f3 9) 6 = some (some 48, .binOp .neq 25 (.tmp 46) (.tmp 47) 25, some (3, true)) from by kernel_rfl) (by kernel_rfl) (by kernel_rfl) ?_
          refine run_pick (b := false) (v := .bool false) (show opAt (opsOf Try.f3 9) 7 = some (some 49, .pick (.tmp 45) (.tmp 48) (.const (.bool false)), none) from by kernel_rfl) (by kernel_rfl) (by kernel_rfl) (by kernel_rfl) (by kernel_rfl) ?_
          refine run_mov (v := .bool false) (show opAt (opsOf Try.f3 9) 8 = some (some 50, .move (.tmp 49), none) from by kernel_rfl) (by kernel_rfl) (by kernel_rfl) (by kernel_rfl) ?_
          refine run_part (b := gr) rfl (by kernel_rfl) (show opAt (opsOf Try.f3 9) 9 = some (some 51, .fieldAddr 25 (.tmp 6) 1, some (8, false)) from by kernel_rfl) (by kernel_rfl) (by kernel_rfl) (by kernel_rfl) ?_
          refine run_den r (b := gr) (show opAt (opsOf Try.f3 9) 10 = some (some 52, .load 3 (.tmp 51), some (8, false)) from by kernel_rfl) (by kernel_rfl) (by kernel_rfl) (by kernel_rfl) (List.Mem.tail _ (List.Mem.head _)) ?_
          rcases RR.out with rd | ⟨rd, rn, rc⟩ | ⟨rd, rn, r0, y0, rc⟩ | ⟨rd, rn, r0, y0, rc⟩
          · clear RR
            refine run_cmp (k := .i64) (p := r.d) (q := 0) (b := false) (show opAt (opsOf Try.f3 9) 11 = some (some 53, .binOp .neq 3 (.tmp 52) (.const (.int .i64 0)) 3, some (8, false)) from by kernel_rfl) (by kernel_rfl) (by kernel_rfl) (by kernel_rfl) (by kernel_rfl) (congrArg some (bne_eq_false_iff_eq.2 rd)) ?_
            refine run_mov (v := .bool false) (show opAt (opsOf Try.f3 9) 12 = some (some 54, .move (.tmp 53), some (8, false)) from by kernel_rfl) (by kernel_rfl) (by kernel_rfl) (by kernel_rfl) ?_
            refine run_skip (show opAt (opsOf Try.f3 9) 13 = some (some 55, .fieldAddr 25 (.tmp 6) 0, some (12, true)) from by kernel_rfl) (by kernel_rfl) (by kernel_rfl) ?_
            refine run_skip (show opAt (opsOf Try.f3 9) 14 = some (some 56, .load 3 (.tmp 55), some (12, true)) from by kernel_rfl) (by kernel_rfl) (by kernel_rfl) ?_
            refine run_skip (show opAt (opsOf Try.f3 9) 15 = some (some 57, .binOp .neq 3 (.tmp 56) (.const (.int .i64 0)) 3, some (12, true)) from by kernel_rfl) (by kernel_rfl) (by kernel_rfl) ?_
            refine run_pick (b := false) (v := .bool false) (show opAt (opsOf Try.f3 9) 16 = some (some 58, .pick (.tmp 54) (.tmp 57) (.const (.bool false)), some (8, false)) from by kernel_rfl) (by kernel_rfl) (by kernel_rfl) (by kernel_rfl) (by kernel_rfl) ?_
            refine run_mov (v := .bool false) (show opAt (opsOf Try.f3 9) 17 = some (some 59, .move (.tmp 58), some (8, false)) from by kernel_rfl) (by kernel_rfl) (by kernel_rfl) (by kernel_rfl) ?_
            refine run_skip (show opAt (opsOf Try.f3 9) 18 = some (some 60, .fieldAddr 25 (.tmp 6) 0, some (17, true)) from by kernel_rfl) (by kernel_rfl) (by kernel_rfl) ?_
            refine run_skip (show opAt (opsOf Try.f3 9) 19 = some (some 61, .load 3 (.tmp 60), some (17, true)) from by kernel_rfl) (by kernel_rfl) (by kernel_rfl) ?_
            refine run_skip (show opAt (opsOf Try.f3 9) 20 = some (some 62, .binOp .lss 3 (.tmp 61) (.const (.int .i64 0)) 3, some (17, true)) from by kernel_rfl) (by kernel_rfl) (by kernel_rfl) ?_
            refine run_skip (show opAt (opsOf Try.f3 9) 21 = some (some 63, .fieldAddr 25 (.tmp 4) 0, some (17, true)) from by kernel_rfl) (by kernel_rfl) (by kernel_rfl) ?_
            refine run_skip (show opAt (opsOf Try.f3 9) 22 = some (some 64, .load 3 (.tmp 63), some (17, true)) from by kernel_rfl) (by kernel_rfl) (by kernel_rfl) ?_
            refine run_skip (show opAt (opsOf Try.f3 9) 23 = some (some 65, .binOp .lss 3 (.tmp 64) (.const (.int .i64 0)) 3, some (17, true)) from by kernel_rfl) (by kernel_rfl) (by kernel_rfl) ?_
            refine run_skip (show opAt (opsOf Try.f3 9) 24 = some (some 66, .binOp .neq 4 (.tmp 62) (.tmp 65) 4, some (17, true)) from by kernel_rfl) (by kernel_rfl) (by kernel_rfl) ?_
            refine run_pick (b := false) (v := .bool false) (show opAt (opsOf Try.f3 9) 25 = some (some 67, .pick (.tmp 59) (.tmp 66) (.const (.bool false)), some (8, false)) from by kernel_rfl) (by kernel_rfl) (by kernel_rfl) (by kernel_rfl) (by kernel_rfl) ?_
            refine run_pick (b := false) (v := .bool false) (show opAt (opsOf Try.f3 9) 26 = some (some 68, .pick (.tmp 50) (.const (.bool true)) (.tmp 67), none) from by kernel_rfl) (by kernel_rfl) (by kernel_rfl) (by kernel_rfl) (by kernel_rfl) ?_
            refine run_mov (v := .bool false) (show opAt (opsOf Try.f3 9) 27 = some (some 69, .move (.tmp 68), none) from by kernel_rfl) (by kernel_rfl) (by kernel_rfl) (by kernel_rfl) ?_
            refine run_part (b := gr) rfl (by kernel_rfl) (show opAt (opsOf Try.f3 9) 28 = some (some 70, .fieldAddr 25 (.tmp 6) 1, some (27, false)) from by kernel_rfl) (by kernel_rfl) (by kernel_rfl) (by kernel_rfl) ?_
            refine run_den r (b := gr) (show opAt (opsOf Try.f3 9) 29 = some (some 71, .load 3 (.tmp 70), some (27, false)) from by kernel_rfl) (by kernel_rfl) (by kernel_rfl) (by kernel_rfl) (List.Mem.tail _ (List.Mem.head _)) ?_
            refine run_cmp (k := .i64) (p := r.d) (q := 0) (b := false) (show opAt (opsOf Try.f3 9) 30 = some (some 72, .binOp .neq 3 (.tmp 71) (.const (.int .i64 0)) 3, some (27, false)) from by kernel_rfl) (by kernel_rfl) (by kernel_rfl) (by kernel_rfl) (by kernel_rfl) (congrArg some (bne_eq_false_iff_eq.2 rd)) ?_
            refine run_mov (v := .bool false) (show opAt (opsOf Try.f3 9) 31 = some (some 73, .move (.tmp 72), some (27, false)) from by kernel_rfl) (by kernel_rfl) (by kernel_rfl) (by kernel_rfl) ?_
            refine run_skip (show opAt (opsOf Try.f3 9) 32 = some (some 74, .load 25 (.tmp 6), some (31, true)) from by kernel_rfl) (by kernel_rfl) (by kernel_rfl) ?_
            refine run_skip (show opAt (opsOf Try.f3 9) 33 = some (some 75, .load 25 (.tmp 6), some (31, true)) from by kernel_rfl) (by kernel_rfl) (by kernel_rfl) ?_
            refine run_skip (show opAt (opsOf Try.f3 9) 35 = some (some 77, .load 25 (.tmp 4), some (31, true)) from by kernel_rfl) (by kernel_rfl) (by kernel_rfl) ?_
            refine run_skip (show opAt (opsOf Try.f3 9) 36 = some (some 78, .load 25 (.tmp 4), some (31, true)) from by kernel_rfl) (by kernel_rfl) (by kernel_rfl) ?_
            refine run_pass (show opAt (opsOf Try.f3 9) 34 = some (some 76, .call { callee := .value (.func 18), args := [(.tmp 74), (.tmp 75)].toArray, argTypes := [25, 25].toArray }, some (31, true)) from by kernel_rfl) (by kernel_rfl) (by kernel_rfl) H.out ?_
            refine run_pass (show opAt (opsOf Try.f3 9) 37 = some (some 79, .call { callee := .value (.func 18), args := [(.tmp 77), (.tmp 78)].toArray, argTypes := [25, 25].toArray }, some (31, true)) from by kernel_rfl) (by kernel_rfl) (by kernel_rfl) H.out ?_
            refine run_pass (show opAt (opsOf Try.f3 9) 38 = some (some 80, .call { callee := .value (.func 19), args := [(.tmp 76), (.tmp 79)].toArray, argTypes := [25, 25].toArray }, some (31, true)) from by kernel_rfl) (by kernel_rfl) (by kernel_rfl) H.out ?_
            refine run_skip (show opAt (opsOf Try.f3 9) 39 = some (some 81, .binOp .eql 3 (.tmp 80) (.const (.int .i64 1)) 3, some (31, true)) from by kernel_rfl) (by kernel_rfl) (by kernel_rfl) ?_
            refine run_pick (b := false) (v := .bool false) (show opAt (opsOf Try.f3 9) 40 = some (some 82, .pick (.tmp 73) (.tmp 81) (.const (.bool false)), some (27, false)) from by kernel_rfl) (by kernel_rfl) (by kernel_rfl) (by kernel_rfl) (by kernel_rfl) ?_
            refine run_pick (b := false) (v := .bool false) (show opAt (opsOf Try.f3 9) 41 = some (some 83, .pick (.tmp 69) (.const (.bool true)) (.tmp 82), none) from by kernel_rfl) (by kernel_rfl) (by kernel_rfl) (by kernel_rfl) (by kernel_rfl) ?_
            refine run_done ?_
            simp only [putAll, Act.put, List.setIfInBounds_toArray, List.set_cons_zero, List.set_cons_succ]
            (go_wp2_with fail; go_meet; exact ⟨rfl, H.out⟩)
          · clear RR
            refine run_cmp (k := .i64) (p := r.d) (q := 0) (b := true) (show opAt (opsOf Try.f3 9) 11 = some (some 53, .binOp .neq 3 (.tmp 52) (.const (.int .i64 0)) 3, some (8, false)) from by kernel_rfl) (by kernel_rfl) (by kernel_rfl) (by kernel_rfl) (by kernel_rfl) (congrArg some (bne_iff_ne.2 rd)) ?_
            refine run_mov (v := .bool true) (show opAt (opsOf Try.f3 9) 12 = some (some 54, .move (.tmp 53), some (8, false)) from by kernel_rfl) (by kernel_rfl) (by kernel_rfl) (by kernel_rfl) ?_
            refine run_part (b := gr) rfl (by kernel_rfl) (show opAt (opsOf Try.f3 9) 13 = some (some 55, .fieldAddr 25 (.tmp 6) 0, some (12, true)) from by kernel_rfl) (by kernel_rfl) (by kernel_rfl) (by kernel_rfl) ?_
            refine run_num r (b := gr) (show opAt (opsOf Try.f3 9) 14 = some (some 56, .load 3 (.tmp 55), some (12, true)) from by kernel_rfl) (by kernel_rfl) (by kernel_rfl) (by kernel_rfl) (List.Mem.tail _ (List.Mem.head _)) ?_
            refine run_cmp (k := .i64) (p := r.n) (q := 0) (b := false) (show opAt (opsOf Try.f3 9) 15 = some (some 57, .binOp .neq 3 (.tmp 56) (.const (.int .i64 0)) 3, some (12, true)) from by kernel_rfl) (by kernel_rfl) (by kernel_rfl) (by kernel_rfl) (by kernel_rfl) (congrArg some (bne_eq_false_iff_eq.2 rn)) ?_
            refine run_pick (b := true) (v := .bool false) (show opAt (opsOf Try.f3 9) 16 = some (some 58, .pick (.tmp 54) (.tmp 57) (.const (.bool false)), some (8, false)) from by kernel_rfl) (by kernel_rfl) (by kernel_rfl) (by kernel_rfl) (by kernel_rfl) ?_
            refine run_mov (v := .bool false) (show opAt (opsOf Try.f3 9) 17 = some (some 59, .move (.tmp 58), some (8, false)) from by kernel_rfl) (by kernel_rfl) (by kernel_rfl) (by kernel_rfl) ?_
            refine run_skip (show opAt (opsOf Try.f3 9) 18 = some (some 60, .fieldAddr 25 (.tmp 6) 0, some (17, true)) from by kernel_rfl) (by kernel_rfl) (by kernel_rfl) ?_
            refine run_skip (show opAt (opsOf Try.f3 9) 19 = some (some 61, .load 3 (.tmp 60), some (17, true)) from by kernel_rfl) (by kernel_rfl) (by kernel_rfl) ?_
            refine run_skip (show opAt (opsOf Try.f3 9) 20 = some (some 62, .binOp .lss 3 (.tmp 61) (.const (.int .i64 0)) 3, some (17, true)) from by kernel_rfl) (by kernel_rfl) (by kernel_rfl) ?_
            refine run_skip (show opAt (opsOf Try.f3 9) 21 = some (some 63, .fieldAddr 25 (.tmp 4) 0, some (17, true)) from by kernel_rfl) (by kernel_rfl) (by kernel_rfl) ?_
            refine run_skip (show opAt (opsOf Try.f3 9) 22 = some (some 64, .load 3 (.tmp 63), some (17, true)) from by kernel_rfl) (by kernel_rfl) (by kernel_rfl) ?_
            refine run_skip (show opAt (opsOf Try.f3 9) 23 = some (some 65, .binOp .lss 3 (.tmp 64) (.const (.int .i64 0)) 3, some (17, true)) from by kernel_rfl) (by kernel_rfl) (by kernel_rfl) ?_
            refine run_skip (show opAt (opsOf Try.f3 9) 24 = some (some 66, .binOp .neq 4 (.tmp 62) (.tmp 65) 4, some (17, true)) from by kernel_rfl) (by kernel_rfl) (by kernel_rfl) ?_
            refine run_pick (b := false) (v := .bool false) (show opAt (opsOf Try.f3 9) 25 = some (some 67, .pick (.tmp 59) (.tmp 66) (.const (.bool false)), some (8, false)) from by kernel_rfl) (by kernel_rfl) (by kernel_rfl) (by kernel_rfl) (by kernel_rfl) ?_
            refine run_pick (b := false) (v := .bool false) (show opAt (opsOf Try.f3 9) 26 = some (some 68, .pick (.tmp 50) (.const (.bool true)) (.tmp 67), none) from by kernel_rfl) (by kernel_rfl) (by kernel_rfl) (by kernel_rfl) (by kernel_rfl) ?_
            refine run_mov (v := .bool false) (show opAt (opsOf Try.f3 9) 27 = some (some 69, .move (.tmp 68), none) from by kernel_rfl) (by kernel_rfl) (by kernel_rfl) (by kernel_rfl) ?_
            refine run_part (b := gr) rfl (by kernel_rfl) (show opAt (opsOf Try.f3 9) 28 = some (some 70, .fieldAddr 25 (.tmp 6) 1, some (27, false)) from by kernel_rfl) (by kernel_rfl) (by kernel_rfl) (by kernel_rfl) ?_
            refine run_den r (b := gr) (show opAt (opsOf Try.f3 9) 29 = some (some 71, .load 3 (.tmp 70), some (27, false)) from by kernel_rfl) (by kernel_rfl) (by kernel_rfl) (by kernel_rfl) (List.Mem.tail _ (List.Mem.head _)) ?_
            refine run_cmp (k := .i64) (p := r.d) (q := 0) (b := true) (show opAt (opsOf Try.f3 9) 30 = some (some 72, .binOp .neq 3 (.tmp 71) (.const (.int .i64 0)) 3, some (27, false)) from by kernel_rfl) (by kernel_rfl) (by kernel_rfl) (by kernel_rfl) (by kernel_rfl) (congrArg some (bne_iff_ne.2 rd)) ?_
            refine run_mov (v := .bool true) (show opAt (opsOf Try.f3 9) 31 = some (some 73, .move (.tmp 72), some (27, false)) from by kernel_rfl) (by kernel_rfl) (by kernel_rfl) (by kernel_rfl) ?_
            refine run_item r (b := gr) (show opAt (opsOf Try.f3 9) 32 = some (some 74, .load 25 (.tmp 6), some (31, true)) from by kernel_rfl) (by kernel_rfl) (by kernel_rfl) (by kernel_rfl) (List.Mem.tail _ (List.Mem.head _)) ?_
            refine run_item r (b := gr) (show opAt (opsOf Try.f3 9) 33 = some (some 75, .load 25 (.tmp 6), some (31, true)) from by kernel_rfl) (by kernel_rfl) (by kernel_rfl) (by kernel_rfl) (List.Mem.tail _ (List.Mem.head _)) ?_
            refine run_item y (b := gy) (show opAt (opsOf Try.f3 9) 35 = some (some 77, .load 25 (.tmp 4), some (31, true)) from by kernel_rfl) (by kernel_rfl) (by kernel_rfl) (by kernel_rfl) (List.Mem.tail _ (List.Mem.tail _ (List.Mem.tail _ (List.Mem.head _)))) ?_
            refine run_item y (b := gy) (show opAt (opsOf Try.f3 9) 36 = some (some 78, .load 25 (.tmp 4), some (31, true)) from by kernel_rfl) (by kernel_rfl) (by kernel_rfl) (by kernel_rfl) (List.Mem.tail _ (List.Mem.tail _ (List.Mem.tail _ (List.Mem.head _)))) ?_
            refine run_call (args := [.agg #[.int .i64 r.n, .int .i64 r.d, .string r.t], .agg #[.int .i64 r.n, .int .i64 r.d, .string r.t]]) (show opAt (opsOf Try.f3 9) 34 = some (some 76, .call { callee := .value (.func 18), args := [(.tmp 74), (.tmp 75)].toArray, argTypes := [25, 25].toArray }, some (31, true)) from by kernel_rfl) (by kernel_rfl) (by kernel_rfl) (by kernel_rfl) (by kernel_rfl) ?_
            refine (M1.out _).mono ?_
            rintro en rw1 ⟨rfl, hb⟩
            refine ⟨_, rfl, held_call H.out hb, ?_⟩
            have H := Lib.hid (held_call H.out hb)
            clear hb
            refine run_call (args := [.agg #[.int .i64 y.n, .int .i64 y.d, .string y.t], .agg #[.int .i64 y.n, .int .i64 y.d, .string y.t]]) (show opAt (opsOf Try.f3 9) 37 = some (some 79, .call { callee := .value (.func 18), args := [(.tmp 77), (.tmp 78)].toArray, argTypes := [25, 25].toArray }, some (31, true)) from by kernel_rfl) (by kernel_rfl) (by kernel_rfl) (by kernel_rfl) (by kernel_rfl) ?_
            refine (M2.out _).mono ?_
            rintro en rw2 ⟨rfl, hb⟩
            refine ⟨_, rfl, held_call H.out hb, ?_⟩
            have H := Lib.hid (held_call H.out hb)
            clear hb
            refine run_call (args := [.agg #[.int .i64 rr.n, .int .i64 rr.d, .string rr.t], .agg #[.int .i64 yy.n, .int .i64 yy.d, .string yy.t]]) (show opAt (opsOf Try.f3 9) 38 = some (some 80, .call { callee := .value (.func 19), args := [(.tmp 76), (.tmp 79)].toArray, argTypes := [25, 25].toArray }, some (31, true)) from by kernel_rfl) (by kernel_rfl) (by kernel_rfl) (by kernel_rfl) (by kernel_rfl) ?_
            refine (CC.out _).mono ?_
            rintro en rw3 ⟨rfl, hb⟩
            refine ⟨_, rfl, held_call H.out hb, ?_⟩
            have H := Lib.hid (held_call H.out hb)
            clear hb
            refine run_cmp (k := .i64) (p := cm) (q := 1) (b := false) (show opAt (opsOf Try.f3 9) 39 = some (some 81, .binOp .eql 3 (.tmp 80) (.const (.int .i64 1)) 3, some (31, true)) from by kernel_rfl) (by kernel_rfl) (by kernel_rfl) (by kernel_rfl) (by kernel_rfl) (congrArg some (beq_eq_false_iff_ne.2 rc)) ?_
            refine run_pick (b := true) (v := .bool false) (show opAt (opsOf Try.f3 9) 40 = some (some 82, .pick (.tmp 73) (.tmp 81) (.const (.bool false)), some (27, false)) from by kernel_rfl) (by kernel_rfl) (by kernel_rfl) (by kernel_rfl) (by kernel_rfl) ?_
            refine run_pick (b := false) (v := .bool false) (show opAt (opsOf Try.f3 9) 41 = some (some 83, .pick (.tmp 69) (.const (.bool true)) (.tmp 82), none) from by kernel_rfl) (by kernel_rfl) (by kernel_rfl) (by kernel_rfl) (by kernel_rfl) ?_
            refine run_done ?_
            simp only [putAll, Act.put, List.setIfInBounds_toArray, List.set_cons_zero, List.set_cons_succ]
            (go_wp2_with fail; go_meet; exact ⟨rfl, H.out⟩)
          · clear RR
            refine run_cmp (k := .i64) (p := r.d) (q := 0) (b := true) (show opAt (opsOf Try.f3 9) 11 = some (some 53, .binOp .neq 3 (.tmp 52) (.const (.int .i64 0)) 3, some (8, false)) from by kernel_rfl) (by kernel_rfl) (by kernel_rfl) (by kernel_rfl) (by kernel_rfl) (congrArg some (bne_iff_ne.2 rd)) ?_
            refine run_mov (v := .bool true) (show opAt (opsOf Try.f3 9) 12 = some (some 54, .move (.tmp 53), some (8, false)) from by kernel_rfl) (by kernel_rfl) (by kernel_rfl) (by kernel_rfl) ?_
            refine run_part (b := gr) rfl (by kernel_rfl) (show opAt (opsOf Try.f3 9) 13 = some (some 55, .fieldAddr 25 (.tmp 6) 0, some (12, true)) from by kernel_rfl) (by kernel_rfl) (by kernel_rfl) (by kernel_rfl) ?_
            refine run_num r (b := gr) (show opAt (opsOf Try.f3 9) 14 = some (some 56, .load 3 (.tmp 55), some (12, true)) from by kernel_rfl) (by kernel_rfl) (by kernel_rfl) (by kernel_rfl) (List.Mem.tail _ (List.Mem.head _)) ?_
            refine run_cmp (k := .i64) (p := r.n) (q := 0) (b := true) (show opAt (opsOf Try.f3 9) 15 = some (some 57, .binOp .neq 3 (.tmp 56) (.const (.int .i64 0)) 3, some (12, true)) from by kernel_rfl) (by kernel_rfl) (by kernel_rfl) (by kernel_rfl) (by kernel_rfl) (congrArg some (bne_iff_ne.2 rn)) ?_
            refine run_pick (b := true) (v := .bool true) (show opAt (opsOf Try.f3 9) 16 = some (some 58, .pick (.tmp 54) (.tmp 57) (.const (.bool false)), some (8, false)) from by kernel_rfl) (by kernel_rfl) (by kernel_rfl) (by kernel_rfl) (by kernel_rfl) ?_
            refine run_mov (v := .bool true) (show opAt (opsOf Try.f3 9) 17 = some (some 59, .move (.tmp 58), some (8, false)) from by kernel_rfl) (by kernel_rfl) (by kernel_rfl) (by kernel_rfl) ?_
            refine run_part (b := gr) rfl (by kernel_rfl) (show opAt (opsOf Try.f3 9) 18 = some (some 60, .fieldAddr 25 (.tmp 6) 0, some (17, true)) from by kernel_rfl) (by kernel_rfl) (by kernel_rfl) (by kernel_rfl) ?_
            refine run_num r (b := gr) (show opAt (opsOf Try.f3 9) 19 = some (some 61, .load 3 (.tmp 60), some (17, true)) from by kernel_rfl) (by kernel_rfl) (by kernel_rfl) (by kernel_rfl) (List.Mem.tail _ (List.Mem.head _)) ?_
            refine run_cmp (k := .i64) (p := r.n) (q := 0) (b := true) (show opAt (opsOf Try.f3 9) 20 = some (some 62, .binOp .lss 3 (.tmp 61) (.const (.int .i64 0)) 3, some (17, true)) from by kernel_rfl) (by kernel_rfl) (by kernel_rfl) (by kernel_rfl) (by kernel_rfl) (congrArg some (decide_eq_true (by omega))) ?_
            refine run_part (b := gy) rfl (by kernel_rfl) (show opAt (opsOf Try.f3 9) 21 = some (some 63, .fieldAddr 25 (.tmp 4) 0, some (17, true)) from by kernel_rfl) (by kernel_rfl) (by kernel_rfl) (by kernel_rfl) ?_
            refine run_num y (b := gy) (show opAt (opsOf Try.f3 9) 22 = some (some 64, .load 3 (.tmp 63), some (17, true)) from by kernel_rfl) (by kernel_rfl) (by kernel_rfl) (by kernel_rfl) (List.Mem.tail _ (List.Mem.tail _ (List.Mem.tail _ (List.Mem.head _)))) ?_
            refine run_cmp (k := .i64) (p := y.n) (q := 0) (b := true) (show opAt (opsOf Try.f3 9) 23 = some (some 65, .binOp .lss 3 (.tmp 64) (.const (.int .i64 0)) 3, some (17, true)) from by kernel_rfl) (by kernel_rfl) (by kernel_rfl) (by kernel_rfl) (by kernel_rfl) (congrArg some (decide_eq_true (by omega))) ?_
            refine run_same (v := .bool false) (p := .bool true) (q := .bool true) (show opAt (opsOf Try.f3 9) 24 = some (some 66, .binOp .neq 4 (.tmp 62) (.tmp 65) 4, some (17, true)) from by kernel_rfl) (by kernel_rfl) (by kernel_rfl) (by kernel_rfl) (by kernel_rfl) (fun w' => neq_bool) ?_
            refine run_pick (b := true) (v := .bool false) (show opAt (opsOf Try.f3 9) 25 = some (some 67, .pick (.tmp 59) (.tmp 66) (.const (.bool false)), some (8, false)) from by kernel_rfl) (by kernel_rfl) (by kernel_rfl) (by kernel_rfl) (by kernel_rfl) ?_
            refine run_pick (b := false) (v := .bool false) (show opAt (opsOf Try.f3 9) 26 = some (some 68, .pick (.tmp 50) (.const (.bool true)) (.tmp 67), none) from by kernel_rfl) (by kernel_rfl) (by kernel_rfl) (by kernel_rfl) (by kernel_rfl) ?_
            refine run_mov (v := .bool false) (show opAt (opsOf Try.f3 9) 27 = some (some 69, .move (.tmp 68), none) from by kernel_rfl) (by kernel_rfl) (by kernel_rfl) (by kernel_rfl) ?_
            refine run_part (b := gr) rfl (by kernel_rfl) (show opAt (opsOf Try.f3 9) 28 = some (some 70, .fieldAddr 25 (.tmp 6) 1, some (27, false)) from by kernel_rfl) (by kernel_rfl) (by kernel_rfl) (by kernel_rfl) ?_
            refine run_den r (b := gr) (show opAt (opsOf Try.f3 9) 29 = some (some 71, .load 3 (.tmp 70), some (27, false)) from by kernel_rfl) (by kernel_rfl) (by kernel_rfl) (by kernel_rfl) (List.Mem.tail _ (List.Mem.head _)) ?_
            refine run_cmp (k := .i64) (p := r.d) (q := 0) (b := true) (show opAt (opsOf Try.f3 9) 30 = some (some 72, .binOp .neq 3 (.tmp 71) (.const (.int .i64 0)) 3, some (27, false)) from by kernel_rfl) (by kernel_rfl) (by kernel_rfl) (by kernel_rfl) (by kernel_rfl) (congrArg some (bne_iff_ne.2 rd)) ?_
            refine run_mov (v := .bool true) (show opAt (opsOf Try.f3 9) 31 = some (some 73, .move (.tmp 72), some (27, false)) from by kernel_rfl) (by kernel_rfl) (by kernel_rfl) (by kernel_rfl) ?_
            refine run_item r (b := gr) (show opAt (opsOf Try.f3 9) 32 = some (some 74, .load 25 (.tmp 6), some (31, true)) from by kernel_rfl) (by kernel_rfl) (by kernel_rfl) (by kernel_rfl) (List.Mem.tail _ (List.Mem.head _)) ?_
            refine run_item r (b := gr) (show opAt (opsOf Try.f3 9) 33 = some (some 75, .load 25 (.tmp 6), some (31, true)) from by kernel_rfl) (by kernel_rfl) (by kernel_rfl) (by kernel_rfl) (List.Mem.tail _ (List.Mem.head _)) ?_
            refine run_item y (b := gy) (show opAt (opsOf Try.f3 9) 35 = some (some 77, .load 25 (.tmp 4), some (31, true)) from by kernel_rfl) (by kernel_rfl) (by kernel_rfl) (by kernel_rfl) (List.Mem.tail _ (List.Mem.tail _ (List.Mem.tail _ (List.Mem.head _)))) ?_
            refine run_item y (b := gy) (show opAt (opsOf Try.f3 9) 36 = some (some 78, .load 25 (.tmp 4), some (31, true)) from by kernel_rfl) (by kernel_rfl) (by kernel_rfl) (by kernel_rfl) (List.Mem.tail _ (List.Mem.tail _ (List.Mem.tail _ (List.Mem.head _)))) ?_
            refine run_call (args := [.agg #[.int .i64 r.n, .int .i64 r.d, .string r.t], .agg #[.int .i64 r.n, .int .i64 r.d, .string r.t]]) (show opAt (opsOf Try.f3 9) 34 = some (some 76, .call { callee := .value (.func 18), args := [(.tmp 74), (.tmp 75)].toArray, argTypes := [25, 25].toArray }, some (31, true)) from by kernel_rfl) (by kernel_rfl) (by kernel_rfl) (by kernel_rfl) (by kernel_rfl) ?_
            refine (M1.out _).mono ?_
            rintro en rw4 ⟨rfl, hb⟩
            refine ⟨_, rfl, held_call H.out hb, ?_⟩
            have H := Lib.hid (held_call H.out hb)
            clear hb
            refine run_call (args := [.agg #[.int .i64 y.n, .int .i64 y.d, .string y.t], .agg #[.int .i64 y.n, .int .i64 y.d, .string y.t]]) (show opAt (opsOf Try.f3 9) 37 = some (some 79, .call { callee := .value (.func 18), args := [(.tmp 77), (.tmp 78)].toArray, argTypes := [25, 25].toArray }, some (31, true)) from by kernel_rfl) (by kernel_rfl) (by kernel_rfl) (by kernel_rfl) (by kernel_rfl) ?_
            refine (M2.out _).mono ?_
            rintro en rw5 ⟨rfl, hb⟩
            refine ⟨_, rfl, held_call H.out hb, ?_⟩
            have H := Lib.hid (held_call H.out hb)
            clear hb
            refine run_call (args := [.agg #[.int .i64 rr.n, .int .i64 rr.d, .string rr.t], .agg #[.int .i64 yy.n, .int .i64 yy.d, .string yy.t]]) (show opAt (opsOf Try.f3 9) 38 = some (some 80, .call { callee := .value (.func 19), args := [(.tmp 76), (.tmp 79)].toArray, argTypes := [25, 25].toArray }, some (31, true)) from by kernel_rfl) (by kernel_rfl) (by kernel_rfl) (by kernel_rfl) (by kernel_rfl) ?_
            refine (CC.out _).mono ?_
            rintro en rw6 ⟨rfl, hb⟩
            refine ⟨_, rfl, held_call H.out hb, ?_⟩
            have H := Lib.hid (held_call H.out hb)
            clear hb
            refine run_cmp (k := .i64) (p := cm) (q := 1) (b := false) (show opAt (opsOf Try.f3 9) 39 = some (some 81, .binOp .eql 3 (.tmp 80) (.const (.int .i64 1)) 3, some (31, true)) from by kernel_rfl) (by kernel_rfl) (by kernel_rfl) (by kernel_rfl) (by kernel_rfl) (congrArg some (beq_eq_false_iff_ne.2 rc)) ?_
            refine run_pick (b := true) (v := .bool false) (show opAt (opsOf Try.f3 9) 40 = some (some 82, .pick (.tmp 73) (.tmp 81) (.const (.bool false)), some (27, false)) from by kernel_rfl) (by kernel_rfl) (by kernel_rfl) (by kernel_rfl) (by kernel_rfl) ?_
            refine run_pick (b := false) (v := .bool false) (show opAt (opsOf Try.f3 9) 41 = some (some 83, .pick (.tmp 69) (.const (.bool true)) (.tmp 82), none) from by kernel_rfl) (by kernel_rfl) (by kernel_rfl) (by kernel_rfl) (by kernel_rfl) ?_
            refine run_done ?_
            simp only [putAll, Act.put, List.setIfInBounds_toArray, List.set_cons_zero, List.set_cons_succ]
            (go_wp2_with fail; go_meet; exact ⟨rfl, H.out⟩)
          · clear RR
            refine run_cmp (k := .i64) (p := r.d) (q := 0) (b := true) (show opAt (opsOf Try.f3 9) 11 = some (some 53, .binOp .neq 3 (.tmp 52) (.const (.int .i64 0)) 3, some (8, false)) from by kernel_rfl) (by kernel_rfl) (by kernel_rfl) (by kernel_rfl) (by kernel_rfl) (congrArg some (bne_iff_ne.2 rd)) ?_
            refine run_mov (v := .bool true) (show opAt (opsOf Try.f3 9) 12 = some (some 54, .move (.tmp 53), some (8, false)) from by kernel_rfl) (by kernel_rfl) (by kernel_rfl) (by kernel_rfl) ?_
            refine run_part (b := gr) rfl (by kernel_rfl) (show opAt (opsOf Try.f3 9) 13 = some (some 55, .fieldAddr 25 (.tmp 6) 0, some (12, true)) from by kernel_rfl) (by kernel_rfl) (by kernel_rfl) (by kernel_rfl) ?_
            refine run_num r (b := gr) (show opAt (opsOf Try.f3 9) 14 = some (some 56, .load 3 (.tmp 55), some (12, true)) from by kernel_rfl) (by kernel_rfl) (by kernel_rfl) (by kernel_rfl) (List.Mem.tail _ (List.Mem.head _)) ?_
            refine run_cmp (k := .i64) (p := r.n) (q := 0) (b := true) (show opAt (opsOf Try.f3 9) 15 = some (some 57, .binOp .neq 3 (.tmp 56) (.const (.int .i64 0)) 3, some (12, true)) from by kernel_rfl) (by kernel_rfl) (by kernel_rfl) (by kernel_rfl) (by kernel_rfl) (congrArg some (bne_iff_ne.2 rn)) ?_
            refine run_pick (b := true) (v := .bool true) (show opAt (opsOf Try.f3 9) 16 = some (some 58, .pick (.tmp 54) (.tmp 57) (.const (.bool false)), some (8, false)) from by kernel_rfl) (by kernel_rfl) (by kernel_rfl) (by kernel_rfl) (by kernel_rfl) ?_
            refine run_mov (v := .bool true) (show opAt (opsOf Try.f3 9) 17 = some (some 59, .move (.tmp 58), some (8, false)) from by kernel_rfl) (by kernel_rfl) (by kernel_rfl) (by kernel_rfl) ?_
            refine run_part (b := gr) rfl (by kernel_rfl) (show opAt (opsOf Try.f3 9) 18 = some (some 60, .fieldAddr 25 (.tmp 6) 0, some (17, true)) from by kernel_rfl) (by kernel_rfl) (by kernel_rfl) (by kernel_rfl) ?_
            refine run_num r (b := gr) (show opAt (opsOf Try.f3 9) 19 = some (some 61, .load 3 (.tmp 60), some (17, true)) from by kernel_rfl) (by kernel_rfl) (by kernel_rfl) (by kernel_rfl) (List.Mem.tail _ (List.Mem.head _)) ?_
            refine run_cmp (k := .i64) (p := r.n) (q := 0) (b := false) (show opAt (opsOf Try.f3 9) 20 = some (some 62, .binOp .lss 3 (.tmp 61) (.const (.int .i64 0)) 3, some (17, true)) from by kernel_rfl) (by kernel_rfl) (by kernel_rfl) (by kernel_rfl) (by kernel_rfl) (congrArg some (decide_eq_false (by omega))) ?_
            refine run_part (b := gy) rfl (by kernel_rfl) (show opAt (opsOf Try.f3 9) 21 = some (some 63, .fieldAddr 25 (.tmp 4) 0, some (17, true)) from by kernel_rfl) (by kernel_rfl) (by kernel_rfl) (by kernel_rfl) ?_
            refine run_num y (b := gy) (show opAt (opsOf Try.f3 9) 22 = some (some 64, .load 3 (.tmp 63), some (17, true)) from by kernel_rfl) (by kernel_rfl) (by kernel_rfl) (by kernel_rfl) (List.Mem.tail _ (List.Mem.tail _ (List.Mem.tail _ (List.Mem.head _)))) ?_
            refine run_cmp (k := .i64) (p := y.n) (q := 0) (b := false) (show opAt (opsOf Try.f3 9) 23 = some (some 65, .binOp .lss 3 (.tmp 64) (.const (.int .i64 0)) 3, some (17, true)) from by kernel_rfl) (by kernel_rfl) (by kernel_rfl) (by kernel_rfl) (by kernel_rfl) (congrArg some (decide_eq_false (by omega))) ?_
            refine run_same (v := .bool false) (p := .bool false) (q := .bool false) (show opAt (opsOf Try.f3 9) 24 = some (some 66, .binOp .neq 4 (.tmp 62) (.tmp 65) 4, some (17, true)) from by kernel_rfl) (by kernel_rfl) (by kernel_rfl) (by kernel_rfl) (by kernel_rfl) (fun w' => neq_bool) ?_
            refine run_pick (b := true) (v := .bool false) (show opAt (opsOf Try.f3 9) 25 = some (some 67, .pick (.tmp 59) (.tmp 66) (.const (.bool false)), some (8, false)) from by kernel_rfl) (by kernel_rfl) (by kernel_rfl) (by kernel_rfl) (by kernel_rfl) ?_
            refine run_pick (b := false) (v := .bool false) (show opAt (opsOf Try.f3 9) 26 = some (some 68, .pick (.tmp 50) (.const (.bool true)) (.tmp 67), none) from by kernel_rfl) (by kernel_rfl) (by kernel_rfl) (by kernel_rfl) (by kernel_rfl) ?_
            refine run_mov (v := .bool false) (show opAt (opsOf Try.f3 9) 27 = some (some 69, .move (.tmp 68), none) from by kernel_rfl) (by kernel_rfl) (by kernel_rfl) (by kernel_rfl) ?_
            refine run_part (b := gr) rfl (by kernel_rfl) (show opAt (opsOf Try.f3 9) 28 = some (some 70, .fieldAddr 25 (.tmp 6) 1, some (27, false)) from by kernel_rfl) (by kernel_rfl) (by kernel_rfl) (by kernel_rfl) ?_
            refine run_den r (b := gr) (show opAt (opsOf Try.f3 9) 29 = some (some 71, .load 3 (.tmp 70), some (27, false)) from by kernel_rfl) (by kernel_rfl) (by kernel_rfl) (by kernel_rfl) (List.Mem.tail _ (List.Mem.head _)) ?_
            refine run_cmp (k := .i64) (p := r.d) (q := 0) (b := true) (show opAt (opsOf Try.f3 9) 30 = some (some 72, .binOp .neq 3 (.tmp 71) (.const (.int .i64 0)) 3, some (27, false)) from by kernel_rfl) (by kernel_rfl) (by kernel_rfl) (by kernel_rfl) (by kernel_rfl) (congrArg some (bne_iff_ne.2 rd)) ?_
            refine run_mov (v := .bool true) (show opAt (opsOf Try.f3 9) 31 = some (some 73, .move (.tmp 72), some (27, false)) from by kernel_rfl) (by kernel_rfl) (by kernel_rfl) (by kernel_rfl) ?_
            refine run_item r (b := gr) (show opAt (opsOf Try.f3 9) 32 = some (some 74, .load 25 (.tmp 6), some (31, true)) from by kernel_rfl) (by kernel_rfl) (by kernel_rfl) (by kernel_rfl) (List.Mem.tail _ (List.Mem.head _)) ?_
            refine run_item r (b := gr) (show opAt (opsOf Try.f3 9) 33 = some (some 75, .load 25 (.tmp 6), some (31, true)) from by kernel_rfl) (by kernel_rfl) (by kernel_rfl) (by kernel_rfl) (List.Mem.tail _ (List.Mem.head _)) ?_
            refine run_item y (b := gy) (show opAt (opsOf Try.f3 9) 35 = some (some 77, .load 25 (.tmp 4), some (31, true)) from by kernel_rfl) (by kernel_rfl) (by kernel_rfl) (by kernel_rfl) (List.Mem.tail _ (List.Mem.tail _ (List.Mem.tail _ (List.Mem.head _)))) ?_
            refine run_item y (b := gy) (show opAt (opsOf Try.f3 9) 36 = some (some 78, .load 25 (.tmp 4), some (31, true)) from by kernel_rfl) (by kernel_rfl) (by kernel_rfl) (by kernel_rfl) (List.Mem.tail _ (List.Mem.tail _ (List.Mem.tail _ (List.Mem.head _)))) ?_
            refine run_call (args := [.agg #[.int .i64 r.n, .int .i64 r.d, .string r.t], .agg #[.int .i64 r.n, .int .i64 r.d, .string r.t]]) (show opAt (opsOf Try.f3 9) 34 = some (some 76, .call { callee := .value (.func 18), args := [(.tmp 74), (.tmp 75)].toArray, argTypes := [25, 25].toArray }, some (31, true)) from by kernel_rfl) (by kernel_rfl) (by kernel_rfl) (by kernel_rfl) (by kernel_rfl) ?_
            refine (M1.out _).mono ?_
            rintro en rw7 ⟨rfl, hb⟩
            refine ⟨_, rfl, held_call H.out hb, ?_⟩
            have H := Lib.hid (held_call H.out hb)
            clear hb
            refine run_call (args := [.agg #[.int .i64 y.n, .int .i64 y.d, .string y.t], .agg #[.int .i64 y.n, .int .i64 y.d, .string y.t]]) (show opAt (opsOf Try.f3 9) 37 = some (some 79, .call { callee := .value (.func 18), args := [(.tmp 77), (.tmp 78)].toArray, argTypes := [25, 25].toArray }, some (31, true)) from by kernel_rfl) (by kernel_rfl) (by kernel_rfl) (by kernel_rfl) (by kernel_rfl) ?_
            refine (M2.out _).mono ?_
            rintro en rw8 ⟨rfl, hb⟩
            refine ⟨_, rfl, held_call H.out hb, ?_⟩
            have H := Lib.hid (held_call H.out hb)
            clear hb
            refine run_call (args := [.agg #[.int .i64 rr.n, .int .i64 rr.d, .string rr.t], .agg #[.int .i64 yy.n, .int .i64 yy.d, .string yy.t]]) (show opAt (opsOf Try.f3 9) 38 = some (some 80, .call { callee := .value (.func 19), args := [(.tmp 76), (.tmp 79)].toArray, argTypes := [25, 25].toArray }, some (31, true)) from by kernel_rfl) (by kernel_rfl) (by kernel_rfl) (by kernel_rfl) (by kernel_rfl) ?_
            refine (CC.out _).mono ?_
            rintro en rw9 ⟨rfl, hb⟩
            refine ⟨_, rfl, held_call H.out hb, ?_⟩
            have H := Lib.hid (held_call H.out hb)
            clear hb
            refine run_cmp (k := .i64) (p := cm) (q := 1) (b := false) (show opAt (opsOf Try.f3 9) 39 = some (some 81, .binOp .eql 3 (.tmp 80) (.const (.int .i64 1)) 3, some (31, true)) from by kernel_rfl) (by kernel_rfl) (by kernel_rfl) (by kernel_rfl) (by kernel_rfl) (congrArg some (beq_eq_false_iff_ne.2 rc)) ?_
            refine run_pick (b := true) (v := .bool false) (show opAt (opsOf Try.f3 9) 40 = some (some 82, .pick (.tmp 73) (.tmp 81) (.const (.bool false)), some (27, false)) from by kernel_rfl) (by kernel_rfl) (by kernel_rfl) (by kernel_rfl) (by kernel_rfl) ?_
            refine run_pick (b := false) (v := .bool false) (show opAt (opsOf Try.f3 9) 41 = some (some 83, .pick (.tmp 69) (.const (.bool true)) (.tmp 82), none) from by kernel_rfl) (by kernel_rfl) (by kernel_rfl) (by kernel_rfl) (by kernel_rfl) ?_
            refine run_done ?_
            simp only [putAll, Act.put, List.setIfInBounds_toArray, List.set_cons_zero, List.set_cons_succ]
            (go_wp2_with fail; go_meet; exact ⟨rfl, H.out⟩)
        · have hzx := Lib.hid hzx
          clear ZZ
          refine run_cmp (k := .i64) (p := z.d) (q := 0) (b := true) (show opAt (opsOf Try.f3 9) 2 = some (some 44, .binOp .neq 3 (.tmp 43) (.const (.int .i64 0)) 3, none) from by kernel_rfl) (by kernel_rfl) (by kernel_rfl) (by kernel_rfl) (by kernel_rfl) (congrArg some (bne_iff_ne.2 zz)) ?_
          refine run_mov (v := .bool true) (show opAt (opsOf Try.f3 9) 3 = some (some 45, .move (.tmp 44), none) from by kernel_rfl) (by kernel_rfl) (by kernel_rfl) (by kernel_rfl) ?_
          refine run_item z (b := gz) (show opAt (opsOf Try.f3 9) 4 = some (some 46, .load 25 (.tmp 7), some (3, true)) from by kernel_rfl) (by kernel_rfl) (by kernel_rfl) (by kernel_rfl) (List.Mem.head _) ?_
          refine run_item x (b := gx) (show opAt (opsOf Try.f3 9) 5 = some (some 47, .load 25 (.tmp 3), some (3, true)) from by kernel_rfl) (by kernel_rfl) (by kernel_rfl) (by kernel_rfl) (List.Mem.tail _ (List.Mem.tail _ (List.Mem.tail _ (List.Mem.tail _ (List.Mem.head _))))) ?_
          refine run_same (v := .bool false) (p := .agg #[.int .i64 z.n, .int .i64 z.d, .string z.t]) (q := .agg #[.int .i64 x.n, .int .i64 x.d, .string x.t]) (show opAt (opsOf Try.f3 9) 6 = some (some 48, .binOp .neq 25 (.tmp 46) (.tmp 47) 25, some (3, true)) from by kernel_rfl) (by kernel_rfl) (by kernel_rfl) (by kernel_rfl) (by kernel_rfl) (fun w' => neq_item hzx.out) ?_
          refine run_pick (b := true) (v := .bool false) (show opAt (opsOf Try.f3 9) 7 = some (some 49, .pick (.tmp 45) (.tmp 48) (.const (.bool false)), none) from by kernel_rfl) (by kernel_rfl) (by kernel_rfl) (by kernel_rfl) (by kernel_rfl) ?_
          refine run_mov (v := .bool false) (show opAt (opsOf Try.f3 9) 8 = some (some 50, .move (.tmp 49), none) from by kernel_rfl) (by kernel_rfl) (by kernel_rfl) (by kernel_rfl) ?_
          refine run_part (b := gr) rfl (by kernel_rfl) (show opAt (opsOf Try.f3 9) 9 = some (some 51, .fieldAddr 25 (.tmp 6) 1, some (8, false)) from by kernel_rfl) (by kernel_rfl) (by kernel_rfl) (by kernel_rfl) ?_
          refine run_den r (b := gr) (show opAt (opsOf Try.f3 9) 10 = some (some 52, .load 3 (.tmp 51), some (8, false)) from by kernel_rfl) (by kernel_rfl) (by kernel_rfl) (by kernel_rfl) (List.Mem.tail _ (List.Mem.head _)) ?_
          rcases RR.out with rd | ⟨rd, rn, rc⟩ | ⟨rd, rn, r0, y0, rc⟩ | ⟨rd, rn, r0, y0, rc⟩
          · clear RR
            refine run_cmp (k := .i64) (p := r.d) (q := 0) (b := false) (show opAt (opsOf Try.f3 9) 11 = some (some 53, .binOp .neq 3 (.tmp 52) (.const (.int .i64 0)) 3, some (8, false)) from by kernel_rfl) (by kernel_rfl) (by kernel_rfl) (by kernel_rfl) (by kernel_rfl) (congrArg some (bne_eq_false_iff_eq.2 rd)) ?_
            refine run_mov (v := .bool false) (show opAt (opsOf Try.f3 9) 12 = some (some 54, .move (.tmp 53), some (8, false)) from by kernel_rfl) (by kernel_rfl) (by kernel_rfl) (by kernel_rfl) ?_
            refine run_skip (show opAt (opsOf Try.f3 9) 13 = some (some 55, .fieldAddr 25 (.tmp 6) 0, some (12, true)) from by kernel_rfl) (by kernel_rfl) (by kernel_rfl) ?_
            refine run_skip (show opAt (opsOf Try.f3 9) 14 = some (some 56, .load 3 (.tmp 55), some (12, true)) from by kernel_rfl) (by kernel_rfl) (by kernel_rfl) ?_
            refine run_skip (show opAt (opsOf Try.f3 9) 15 = some (some 57, .binOp .neq 3 (.tmp 56) (.const (.int .i64 0)) 3, some (12, true)) from by kernel_rfl) (by kernel_rfl) (by kernel_rfl) ?_
            refine run_pick (b := false) (v := .bool false) (show opAt (opsOf Try.f3 9) 16 = some (some 58, .pick (.tmp 54) (.tmp 57) (.const (.bool false)), some (8, false)) from by kernel_rfl) (by kernel_rfl) (by kernel_rfl) (by kernel_rfl) (by kernel_rfl) ?_
            refine run_mov (v := .bool false) (show opAt (opsOf Try.f3 9) 17 = some (some 59, .move (.tmp 58), some (8, false)) from by kernel_rfl) (by kernel_rfl) (by kernel_rfl) (by kernel_rfl) ?_
            refine run_skip (show opAt (opsOf Try.f3 9) 18 = some (some 60, .fieldAddr 25 (.tmp 6) 0, some (17, true)) from by kernel_rfl) (by kernel_rfl) (by kernel_rfl) ?_
            refine run_skip (show opAt (opsOf Try.f3 9) 19 = some (some 61, .load 3 (.tmp 60), some (17, true)) from by kernel_rfl) (by kernel_rfl) (by kernel_rfl) ?_
            refine run_skip (show opAt (opsOf Try.f3 9) 20 = some (some 62, .binOp .lss 3 (.tmp 61) (.const (.int .i64 0)) 3, some (17, true)) from by kernel_rfl) (by kernel_rfl) (by kernel_rfl) ?_
            refine run_skip (show opAt (opsOf Try.f3 9) 21 = some (some 63, .fieldAddr 25 (.tmp 4) 0, some (17, true)) from by kernel_rfl) (by kernel_rfl) (by kernel_rfl) ?_
            refine run_skip (show opAt (opsOf Try.f3 9) 22 = some (some 64, .load 3 (.tmp 63), some (17, true)) from by kernel_rfl) (by kernel_rfl) (by kernel_rfl) ?_
            refine run_skip (show opAt (opsOf Try.f3 9) 23 = some (some 65, .binOp .lss 3 (.tmp 64) (.const (.int .i64 0)) 3, some (17, true)) from by kernel_rfl) (by kernel_rfl) (by kernel_rfl) ?_
            refine run_skip (show opAt (opsOf Try.f3 9) 24 = some (some 66, .binOp .neq 4 (.tmp 62) (.tmp 65) 4, some (17, true)) from by kernel_rfl) (by kernel_rfl) (by kernel_rfl) ?_
            refine run_pick (b := false) (v := .bool false) (show opAt (opsOf Try.f3 9) 25 = some (some 67, .pick (.tmp 59) (.tmp 66) (.const (.bool false)), some (8, false)) from by kernel_rfl) (by kernel_rfl) (by kernel_rfl) (by kernel_rfl) (by kernel_rfl) ?_
            refine run_pick (b := false) (v := .bool false) (show opAt (opsOf Try.f3 9) 26 = some (some 68, .pick (.tmp 50) (.const (.bool true)) (.tmp 67), none) from by kernel_rfl) (by kernel_rfl) (by kernel_rfl) (by kernel_rfl) (by kernel_rfl) ?_
            refine run_mov (v := .bool false) (show opAt (opsOf Try.f3 9) 27 = some (some 69, .move (.tmp 68), none) from by kernel_rfl) (by kernel_rfl) (by kernel_rfl) (by kernel_rfl) ?_
            refine run_part (b := gr) rfl (by kernel_rfl) (show opAt (opsOf Try.f3 9) 28 = some (some 70, .fieldAddr 25 (.tmp 6) 1, some (27, false)) from by kernel_rfl) (by kernel_rfl) (by kernel_rfl) (by kernel_rfl) ?_
            refine run_den r (b := gr) (show opAt (opsOf Try.f3 9) 29 = some (some 71, .load 3 (.tmp 70), some (27, false)) from by kernel_rfl) (by kernel_rfl) (by kernel_rfl) (by kernel_rfl) (List.Mem.tail _ (List.Mem.head _)) ?_
            refine run_cmp (k := .i64) (p := r.d) (q := 0) (b := false) (show opAt (opsOf Try.f3 9) 30 = some (some 72, .binOp .neq 3 (.tmp 71) (.const (.int .i64 0)) 3, some (27, false)) from by kernel_rfl) (by kernel_rfl) (by kernel_rfl) (by kernel_rfl) (by kernel_rfl) (congrArg some (bne_eq_false_iff_eq.2 rd)) ?_
            refine run_mov (v := .bool false) (show opAt (opsOf Try.f3 9) 31 = some (some 73, .move (.tmp 72), some (27, false)) from by kernel_rfl) (by kernel_rfl) (by kernel_rfl) (by kernel_rfl) ?_
            refine run_skip (show opAt (opsOf Try.f3 9) 32 = some (some 74, .load 25 (.tmp 6), some (31, true)) from by kernel_rfl) (by kernel_rfl) (by kernel_rfl) ?_
            refine run_skip (show opAt (opsOf Try.f3 9) 33 = some (some 75, .load 25 (.tmp 6), some (31, true)) from by kernel_rfl) (by kernel_rfl) (by kernel_rfl) ?_
            refine run_skip (show opAt (opsOf Try.f3 9) 35 = some (some 77, .load 25 (.tmp 4), some (31, true)) from by kernel_rfl) (by kernel_rfl) (by kernel_rfl) ?_
            refine run_skip (show opAt (opsOf Try.f3 9) 36 = some (some 78, .load 25 (.tmp 4), some (31, true)) from by kernel_rfl) (by kernel_rfl) (by kernel_rfl) ?_
            refine run_pass (show opAt (opsOf Try.f3 9) 34 = some (some 76, .call { callee := .value (.func 18), args := [(.tmp 74), (.tmp 75)].toArray, argTypes := [25, 25].toArray }, some (31, true)) from by kernel_rfl) (by kernel_rfl) (by kernel_rfl) H.out ?_
            refine run_pass (show opAt (opsOf Try.f3 9) 37 = some (some 79, .call { callee := .value (.func 18), args := [(.tmp 77), (.tmp 78)].toArray, argTypes := [25, 25].toArray }, some (31, true)) from by kernel_rfl) (by kernel_rfl) (by kernel_rfl) H.out ?_
            refine run_pass (show opAt (opsOf Try.f3 9) 38 = some (some 80, .call { callee := .value (.func 19), args := [(.tmp 76), (.tmp 79)].toArray, argTypes := [25, 25].toArray }, some (31, true)) from by kernel_rfl) (by kernel_rfl) (by kernel_rfl) H.out ?_
            refine run_skip (show opAt (opsOf Try.f3 9) 39 = some (some 81, .binOp .eql 3 (.tmp 80) (.const (.int .i64 1)) 3, some (31, true)) from by kernel_rfl) (by kernel_rfl) (by kernel_rfl) ?_
            refine run_pick (b := false) (v := .bool false) (show opAt (opsOf Try.f3 9) 40 = some (some 82, .pick (.tmp 73) (.tmp 81) (.const (.bool false)), some (27, false)) from by kernel_rfl) (by kernel_rfl) (by kernel_rfl) (by kernel_rfl) (by kernel_rfl) ?_
            refine run_pick (b := false) (v := .bool false) (show opAt (opsOf Try.f3 9) 41 = some (some 83, .pick (.tmp 69) (.const (.bool true)) (.tmp 82), none) from by kernel_rfl) (by kernel_rfl) (by kernel_rfl) (by kernel_rfl) (by kernel_rfl) ?_
            refine run_done ?_
            simp only [putAll, Act.put, List.setIfInBounds_toArray, List.set_cons_zero, List.set_cons_succ]
            (go_wp2_with fail; go_meet; exact ⟨rfl, H.out⟩)
          · clear RR
            refine run_cmp (k := .i64) (p := r.d) (q := 0) (b := true) (show opAt (opsOf Try.f3 9) 11 = some (some 53, .binOp .neq 3 (.tmp 52) (.const (.int .i64 0)) 3, some (8, false)) from by kernel_rfl) (by kernel_rfl) (by kernel_rfl) (by kernel_rfl) (by kernel_rfl) (congrArg some (bne_iff_ne.2 rd)) ?_
            refine run_mov (v := .bool true) (show opAt (opsOf Try.f3 9) 12 = some (some 54, .move (.tmp 53), some (8, false)) from by kernel_rfl) (by kernel_rfl) (by kernel_rfl) (by kernel_rfl) ?_
            refine run_part (b := gr) rfl (by kernel_rfl) (show opAt (opsOf Try.f3 9) 13 = some (some 55, .fieldAddr 25 (.tmp 6) 0, some (12, true)) from by kernel_rfl) (by kernel_rfl) (by kernel_rfl) (by kernel_rfl) ?_
            refine run_num r (b := gr) (show opAt (opsOf Try.f3 9) 14 = some (some 56, .load 3 (.tmp 55), some (12, true)) from by kernel_rfl) (by kernel_rfl) (by kernel_rfl) (by kernel_rfl) (List.Mem.tail _ (List.Mem.head _)) ?_
            refine run_cmp (k := .i64) (p := r.n) (q := 0) (b := false) (show opAt (opsOf Try.f3 9) 15 = some (some 57, .binOp .neq 3 (.tmp 56) (.const (.int .i64 0)) 3, some (12, true)) from by kernel_rfl) (by kernel_rfl) (by kernel_rfl) (by kernel_rfl) (by kernel_rfl) (congrArg some (bne_eq_false_iff_eq.2 rn)) ?_
            refine run_pick (b := true) (v := .bool false) (show opAt (opsOf Try.f3 9) 16 = some (some 58, .pick (.tmp 54) (.tmp 57) (.const (.bool false)), some (8, false)) from by kernel_rfl) (by kernel_rfl) (by kernel_rfl) (by kernel_rfl) (by kernel_rfl) ?_
            refine run_mov (v := .bool false) (show opAt (opsOf Try.f3 9) 17 = some (some 59, .move (.tmp 58), some (8, false)) from by kernel_rfl) (by kernel_rfl) (by kernel_rfl) (by kernel_rfl) ?_
            refine run_skip (show opAt (opsOf Try.f3 9) 18 = some (some 60, .fieldAddr 25 (.tmp 6) 0, some (17, true)) from by kernel_rfl) (by kernel_rfl) (by kernel_rfl) ?_
            refine run_skip (show opAt (opsOf Try.f3 9) 19 = some (some 61, .load 3 (.tmp 60), some (17, true)) from by kernel_rfl) (by kernel_rfl) (by kernel_rfl) ?_
            refine run_skip (show opAt (opsOf Try.f3 9) 20 = some (some 62, .binOp .lss 3 (.tmp 61) (.const (.int .i64 0)) 3, some (17, true)) from by kernel_rfl) (by kernel_rfl) (by kernel_rfl) ?_
            refine run_skip (show opAt (opsOf Try.f3 9) 21 = some (some 63, .fieldAddr 25 (.tmp 4) 0, some (17, true)) from by kernel_rfl) (by kernel_rfl) (by kernel_rfl) ?_
            refine run_skip (show opAt (opsOf Try.f3 9) 22 = some (some 64, .load 3 (.tmp 63), some (17, true)) from by kernel_rfl) (by kernel_rfl) (by kernel_rfl) ?_
            refine run_skip (show opAt (opsOf Try.f3 9) 23 = some (some 65, .binOp .lss 3 (.tmp 64) (.const (.int .i64 0)) 3, some (17, true)) from by kernel_rfl) (by kernel_rfl) (by kernel_rfl) ?_
            refine run_skip (show opAt (opsOf Try.f3 9) 24 = some (some 66, .binOp .neq 4 (.tmp 62) (.tmp 65) 4, some (17, true)) from by kernel_rfl) (by kernel_rfl) (by kernel_rfl) ?_
            refine run_pick (b := false) (v := .bool false) (show opAt (opsOf Try.f3 9) 25 = some (some 67, .pick (.tmp 59) (.tmp 66) (.const (.bool false)), some (8, false)) from by kernel_rfl) (by kernel_rfl) (by kernel_rfl) (by kernel_rfl) (by kernel_rfl) ?_
            refine run_pick (b := false) (v := .bool false) (show opAt (opsOf Try.f3 9) 26 = some (some 68, .pick (.tmp 50) (.const (.bool true)) (.tmp 67), none) from by kernel_rfl) (by kernel_rfl) (by kernel_rfl) (by kernel_rfl) (by kernel_rfl) ?_
            refine run_mov (v := .bool false) (show opAt (opsOf Try.f3 9) 27 = some (some 69, .move (.tmp 68), none) from by kernel_rfl) (by kernel_rfl) (by kernel_rfl) (by kernel_rfl) ?_
            refine run_part (b := gr) rfl (by kernel_rfl) (show opAt (opsOf Try.f3 9) 28 = some (some 70, .fieldAddr 25 (.tmp 6) 1, some (27, false)) from by kernel_rfl) (by kernel_rfl) (by kernel_rfl) (by kernel_rfl) ?_
            refine run_den r (b := gr) (show opAt (opsOf Try.f3 9) 29 = some (some 71, .load 3 (.tmp 70), some (27, false)) from by kernel_rfl) (by kernel_rfl) (by kernel_rfl) (by kernel_rfl) (List.Mem.tail _ (List.Mem.head _)) ?_
            refine run_cmp (k := .i64) (p := r.d) (q := 0) (b := true) (show opAt (opsOf Try.f3 9) 30 = some (some 72, .binOp .neq 3 (.tmp 71) (.const (.int .i64 0)) 3, some (27, false)) from by kernel_rfl) (by kernel_rfl) (by kernel_rfl) (by kernel_rfl) (by kernel_rfl) (congrArg some (bne_iff_ne.2 rd)) ?_
            refine run_mov (v := .bool true) (show opAt (opsOf Try.f3 9) 31 = some (some 73, .move (.tmp 72), some (27, false)) from by kernel_rfl) (by kernel_rfl) (by kernel_rfl) (by kernel_rfl) ?_
            refine run_item r (b := gr) (show opAt (opsOf Try.f3 9) 32 = some (some 74, .load 25 (.tmp 6), some (31, true)) from by kernel_rfl) (by kernel_rfl) (by kernel_rfl) (by kernel_rfl) (List.Mem.tail _ (List.Mem.head _)) ?_
            refine run_item r (b := gr) (show opAt (opsOf Try.f3 9) 33 = some (some 75, .load 25 (.tmp 6), some (31, true)) from by kernel_rfl) (by kernel_rfl) (by kernel_rfl) (by kernel_rfl) (List.Mem.tail _ (List.Mem.head _)) ?_
            refine run_item y (b := gy) (show opAt (opsOf Try.f3 9) 35 = some (some 77, .load 25 (.tmp 4), some (31, true)) from by kernel_rfl) (by kernel_rfl) (by kernel_rfl) (by kernel_rfl) (List.Mem.tail _ (List.Mem.tail _ (List.Mem.tail _ (List.Mem.head _)))) ?_
            refine run_item y (b := gy) (show opAt (opsOf Try.f3 9) 36 = some (some 78, .load 25 (.tmp 4), some (31, true)) from by kernel_rfl) (by kernel_rfl) (by kernel_rfl) (by kernel_rfl) (List.Mem.tail _ (List.Mem.tail _ (List.Mem.tail _ (List.Mem.head _)))) ?_
            refine run_call (args := [.agg #[.int .i64 r.n, .int .i64 r.d, .string r.t], .agg #[.int .i64 r.n, .int .i64 r.d, .string r.t]]) (show opAt (opsOf Try.f3 9) 34 = some (some 76, .call { callee := .value (.func 18), args := [(.tmp 74), (.tmp 75)].toArray, argTypes := [25, 25].toArray }, some (31, true)) from by kernel_rfl) (by kernel_rfl) (by kernel_rfl) (by kernel_rfl) (by kernel_rfl) ?_
            refine (M1.out _).mono ?_
            rintro en rw10 ⟨rfl, hb⟩
            refine ⟨_, rfl, held_call H.out hb, ?_⟩
            have H := Lib.hid (held_call H.out hb)
            clear hb
            refine run_call (args := [.agg #[.int .i64 y.n, .int .i64 y.d, .string y.t], .agg #[.int .i64 y.n, .int .i64 y.d, .string y.t]]) (show opAt (opsOf Try.f3 9) 37 = some (some 79, .call { callee := .value (.func 18), args := [(.tmp 77), (.tmp 78)].toArray, argTypes := [25, 25].toArray }, some (31, true)) from by kernel_rfl) (by kernel_rfl) (by kernel_rfl) (by kernel_rfl) (by kernel_rfl) ?_
            refine (M2.out _).mono ?_
            rintro en rw11 ⟨rfl, hb⟩
            refine ⟨_, rfl, held_call H.out hb, ?_⟩
            have H := Lib.hid (held_call H.out hb)
            clear hb
            refine run_call (args := [.agg #[.int .i64 rr.n, .int .i64 rr.d, .string rr.t], .agg #[.int .i64 yy.n, .int .i64 yy.d, .string yy.t]]) (show opAt (opsOf Try.f3 9) 38 = some (some 80, .call { callee := .value (.func 19), args := [(.tmp 76), (.tmp 79)].toArray, argTypes := [25, 25].toArray }, some (31, true)) from by kernel_rfl) (by kernel_rfl) (by kernel_rfl) (by kernel_rfl) (by kernel_rfl) ?_
            refine (CC.out _).mono ?_
            rintro en rw12 ⟨rfl, hb⟩
            refine ⟨_, rfl, held_call H.out hb, ?_⟩
            have H := Lib.hid (held_call H.out hb)
            clear hb
            refine run_cmp (k := .i64) (p := cm) (q := 1) (b := false) (show opAt (opsOf Try.f3 9) 39 = some (some 81, .binOp .eql 3 (.tmp 80) (.const (.int .i64 1)) 3, some (31, true)) from by kernel_rfl) (by kernel_rfl) (by kernel_rfl) (by kernel_rfl) (by kernel_rfl) (congrArg some (beq_eq_false_iff_ne.2 rc)) ?_
            refine run_pick (b := true) (v := .bool false) (show opAt (opsOf Try.f3 9) 40 = some (some 82, .pick (.tmp 73) (.tmp 81) (.const (.bool false)), some (27, false)) from by kernel_rfl) (by kernel_rfl) (by kernel_rfl) (by kernel_rfl) (by kernel_rfl) ?_
            refine run_pick (b := false) (v := .bool false) (show opAt (opsOf Try.f3 9) 41 = some (some 83, .pick (.tmp 69) (.const (.bool true)) (.tmp 82), none) from by kernel_rfl) (by kernel_rfl) (by kernel_rfl) (by kernel_rfl) (by kernel_rfl) ?_
            refine run_done ?_
            simp only [putAll, Act.put, List.setIfInBounds_toArray, List.set_cons_zero, List.set_cons_succ]
            (go_wp2_with fail; go_meet; exact ⟨rfl, H.out⟩)
          · clear RR
            refine run_cmp (k := .i64) (p := r.d) (q := 0) (b := true) (show opAt (opsOf Try.f3 9) 11 = some (some 53, .binOp .neq 3 (.tmp 52) (.const (.int .i64 0)) 3, some (8, false)) from by kernel_rfl) (by kernel_rfl) (by kernel_rfl) (by kernel_rfl) (by kernel_rfl) (congrArg some (bne_iff_ne.2 rd)) ?_
            refine run_mov (v := .bool true) (show opAt (opsOf Try.f3 9) 12 = some (some 54, .move (.tmp 53), some (8, false)) from by kernel_rfl) (by kernel_rfl) (by kernel_rfl) (by kernel_rfl) ?_
            refine run_part (b := gr) rfl (by kernel_rfl) (show opAt (opsOf Try.f3 9) 13 = some (some 55, .fieldAddr 25 (.tmp 6) 0, some (12, true)) from by kernel_rfl) (by kernel_rfl) (by kernel_rfl) (by kernel_rfl) ?_
            refine run_num r (b := gr) (show opAt (opsOf Try.f3 9) 14 = some (some 56, .load 3 (.tmp 55), some (12, true)) from by kernel_rfl) (by kernel_rfl) (by kernel_rfl) (by kernel_rfl) (List.Mem.tail _ (List.Mem.head _)) ?_
            refine run_cmp (k := .i64) (p := r.n) (q := 0) (b := true) (show opAt (opsOf Try.f3 9) 15 = some (some 57, .binOp .neq 3 (.tmp 56) (.const (.int .i64 0)) 3, some (12, true)) from by kernel_rfl) (by kernel_rfl) (by kernel_rfl) (by kernel_rfl) (by kernel_rfl) (congrArg some (bne_iff_ne.2 rn)) ?_
            refine run_pick (b := true) (v := .bool true) (show opAt (opsOf Try.f3 9) 16 = some (some 58, .pick (.tmp 54) (.tmp 57) (.const (.bool false)), some (8, false)) from by kernel_rfl) (by kernel_rfl) (by kernel_rfl) (by kernel_rfl) (by kernel_rfl) ?_
            refine run_mov (v := .bool true) (show opAt (opsOf Try.f3 9) 17 = some (some 59, .move (.tmp 58), some (8, false)) from by kernel_rfl) (by kernel_rfl) (by kernel_rfl) (by kernel_rfl) ?_
            refine run_part (b := gr) rfl (by kernel_rfl) (show opAt (opsOf Try.f3 9) 18 = some (some 60, .fieldAddr 25 (.tmp 6) 0, some (17, true)) from by kernel_rfl) (by kernel_rfl) (by kernel_rfl) (by kernel_rfl) ?_
            refine run_num r (b := gr) (show opAt (opsOf Try.f3 9) 19 = some (some 61, .load 3 (.tmp 60), some (17, true)) from by kernel_rfl) (by kernel_rfl) (by kernel_rfl) (by kernel_rfl) (List.Mem.tail _ (List.Mem.head _)) ?_
            refine run_cmp (k := .i64) (p := r.n) (q := 0) (b := true) (show opAt (opsOf Try.f3 9) 20 = some (some 62, .binOp .lss 3 (.tmp 61) (.const (.int .i64 0)) 3, some (17, true)) from by kernel_rfl) (by kernel_rfl) (by kernel_rfl) (by kernel_rfl) (by kernel_rfl) (congrArg some (decide_eq_true (by omega))) ?_
            refine run_part (b := gy) rfl (by kernel_rfl) (show opAt (opsOf Try.f3 9) 21 = some (some 63, .fieldAddr 25 (.tmp 4) 0, some (17, true)) from by kernel_rfl) (by kernel_rfl) (by kernel_rfl) (by kernel_rfl) ?_
            refine run_num y (b := gy) (show opAt (opsOf Try.f3 9) 22 = some (some 64, .load 3 (.tmp 63), some (17, true)) from by kernel_rfl) (by kernel_rfl) (by kernel_rfl) (by kernel_rfl) (List.Mem.tail _ (List.Mem.tail _ (List.Mem.tail _ (List.Mem.head _)))) ?_
            refine run_cmp (k := .i64) (p := y.n) (q := 0) (b := true) (show opAt (opsOf Try.f3 9) 23 = some (some 65, .binOp .lss 3 (.tmp 64) (.const (.int .i64 0)) 3, some (17, true)) from by kernel_rfl) (by kernel_rfl) (by kernel_rfl) (by kernel_rfl) (by kernel_rfl) (congrArg some (decide_eq_true (by omega))) ?_
            refine run_same (v := .bool false) (p := .bool true) (q := .bool true) (show opAt (opsOf Try.f3 9) 24 = some (some 66, .binOp .neq 4 (.tmp 62) (.tmp 65) 4, some (17, true)) from by kernel_rfl) (by kernel_rfl) (by kernel_rfl) (by kernel_rfl) (by kernel_rfl) (fun w' => neq_bool) ?_
            refine run_pick (b := true) (v := .bool false) (show opAt (opsOf Try.f3 9) 25 = some (some 67, .pick (.tmp 59) (.tmp 66) (.const (.bool false)), some (8, false)) from by kernel_rfl) (by kernel_rfl) (by kernel_rfl) (by kernel_rfl) (by kernel_rfl) ?_
            refine run_pick (b := false) (v := .bool false) (show opAt (opsOf Try.f3 9) 26 = some (some 68, .pick (.tmp 50) (.const (.bool true)) (.tmp 67), none) from by kernel_rfl) (by kernel_rfl) (by kernel_rfl) (by kernel_rfl) (by kernel_rfl) ?_
            refine run_mov (v := .bool false) (show opAt (opsOf Try.f3 9) 27 = some (some 69, .move (.tmp 68), none) from by kernel_rfl) (by kernel_rfl) (by kernel_rfl) (by kernel_rfl) ?_
            refine run_part (b := gr) rfl (by kernel_rfl) (show opAt (opsOf Try.f3 9) 28 = some (some 70, .fieldAddr 25 (.tmp 6) 1, some (27, false)) from by kernel_rfl) (by kernel_rfl) (by kernel_rfl) (by kernel_rfl) ?_
            refine run_den r (b := gr) (show opAt (opsOf Try.f3 9) 29 = some (some 71, .load 3 (.tmp 70), some (27, false)) from by kernel_rfl) (by kernel_rfl) (by kernel_rfl) (by kernel_rfl) (List.Mem.tail _ (List.Mem.head _)) ?_
            refine run_cmp (k := .i64) (p := r.d) (q := 0) (b := true) (show opAt (opsOf Try.f3 9) 30 = some (some 72, .binOp .neq 3 (.tmp 71) (.const (.int .i64 0)) 3, some (27, false)) from by kernel_rfl) (by kernel_rfl) (by kernel_rfl) (by kernel_rfl) (by kernel_rfl) (congrArg some (bne_iff_ne.2 rd)) ?_
            refine run_mov (v := .bool true) (show opAt (opsOf Try.f3 9) 31 = some (some 73, .move (.tmp 72), some (27, false)) from by kernel_rfl) (by kernel_rfl) (by kernel_rfl) (by kernel_rfl) ?_
            refine run_item r (b := gr) (show opAt (opsOf Try.f3 9) 32 = some (some 74, .load 25 (.tmp 6), some (31, true)) from by kernel_rfl) (by kernel_rfl) (by kernel_rfl) (by kernel_rfl) (List.Mem.tail _ (List.Mem.head _)) ?_
            refine run_item r (b := gr) (show opAt (opsOf Try.f3 9) 33 = some (some 75, .load 25 (.tmp 6), some (31, true)) from by kernel_rfl) (by kernel_rfl) (by kernel_rfl) (by kernel_rfl) (List.Mem.tail _ (List.Mem.head _)) ?_
            refine run_item y (b := gy) (show opAt (opsOf Try.f3 9) 35 = some (some 77, .load 25 (.tmp 4), some (31, true)) from by kernel_rfl) (by kernel_rfl) (by kernel_rfl) (by kernel_rfl) (List.Mem.tail _ (List.Mem.tail _ (List.Mem.tail _ (List.Mem.head _)))) ?_
            refine run_item y (b := gy) (show opAt (opsOf Try.f3 9) 36 = some (some 78, .load 25 (.tmp 4), some (31, true)) from by kernel_rfl) (by kernel_rfl) (by kernel_rfl) (by kernel_rfl) (List.Mem.tail _ (List.Mem.tail _ (List.Mem.tail _ (List.Mem.head _)))) ?_
            refine run_call (args := [.agg #[.int .i64 r.n, .int .i64 r.d, .string r.t], .agg #[.int .i64 r.n, .int .i64 r.d, .string r.t]]) (show opAt (opsOf Try.f3 9) 34 = some (some 76, .call { callee := .value (.func 18), args := [(.tmp 74), (.tmp 75)].toArray, argTypes := [25, 25].toArray }, some (31, true)) from by kernel_rfl) (by kernel_rfl) (by kernel_rfl) (by kernel_rfl) (by kernel_rfl) ?_
            refine (M1.out _).mono ?_
            rintro en rw13 ⟨rfl, hb⟩
            refine ⟨_, rfl, held_call H.out hb, ?_⟩
            have H := Lib.hid (held_call H.out hb)
            clear hb
            refine run_call (args := [.agg #[.int .i64 y.n, .int .i64 y.d, .string y.t], .agg #[.int .i64 y.n, .int .i64 y.d, .string y.t]]) (show opAt (opsOf Try.f3 9) 37 = some (some 79, .call { callee := .value (.func 18), args := [(.tmp 77), (.tmp 78)].toArray, argTypes := [25, 25].toArray }, some (31, true)) from by kernel_rfl) (by kernel_rfl) (by kernel_rfl) (by kernel_rfl) (by kernel_rfl) ?_
            refine (M2.out _).mono ?_
            rintro en rw14 ⟨rfl, hb⟩
            refine ⟨_, rfl, held_call H.out hb, ?_⟩
            have H := Lib.hid (held_call H.out hb)
            clear hb
            refine run_call (args := [.agg #[.int .i64 rr.n, .int .i64 rr.d, .string rr.t], .agg #[.int .i64 yy.n, .int .i64 yy.d, .string yy.t]]) (show opAt (opsOf Try.f3 9) 38 = some (some 80, .call { callee := .value (.func 19), args := [(.tmp 76), (.tmp 79)].toArray, argTypes := [25, 25].toArray }, some (31, true)) from by kernel_rfl) (by kernel_rfl) (by kernel_rfl) (by kernel_rfl) (by kernel_rfl) ?_
            refine (CC.out _).mono ?_
            rintro en rw15 ⟨rfl, hb⟩
            refine ⟨_, rfl, held_call H.out hb, ?_⟩
            have H := Lib.hid (held_call H.out hb)
            clear hb
            refine run_cmp (k := .i64) (p := cm) (q := 1) (b := false) (show opAt (opsOf Try.f3 9) 39 = some (some 81, .binOp .eql 3 (.tmp 80) (.const (.int .i64 1)) 3, some (31, true)) from by kernel_rfl) (by kernel_rfl) (by kernel_rfl) (by kernel_rfl) (by kernel_rfl) (congrArg some (beq_eq_false_iff_ne.2 rc)) ?_
            refine run_pick (b := true) (v := .bool false) (show opAt (opsOf Try.f3 9) 40 = some (some 82, .pick (.tmp 73) (.tmp 81) (.const (.bool false)), some (27, false)) from by kernel_rfl) (by kernel_rfl) (by kernel_rfl) (by kernel_rfl) (by kernel_rfl) ?_
            refine run_pick (b := false) (v := .bool false) (show opAt (opsOf Try.f3 9) 41 = some (some 83, .pick (.tmp 69) (.const (.bool true)) (.tmp 82), none) from by kernel_rfl) (by kernel_rfl) (by kernel_rfl) (by kernel_rfl) (by kernel_rfl) ?_
            refine run_done ?_
            simp only [putAll, Act.put, List.setIfInBounds_toArray, List.set_cons_zero, List.set_cons_succ]
            (go_wp2_with fail; go_meet; exact ⟨rfl, H.out⟩)
          · clear RR
            refine run_cmp (k := .i64) (p := r.d) (q := 0) (b := true) (show opAt (opsOf Try.f3 9) 11 = some (some 53, .binOp .neq 3 (.tmp 52) (.const (.int .i64 0)) 3, some (8, false)) from by kernel_rfl) (by kernel_rfl) (by kernel_rfl) (by kernel_rfl) (by kernel_rfl) (congrArg some (bne_iff_ne.2 rd)) ?_
            refine run_mov (v := .bool true) (show opAt (opsOf Try.f3 9) 12 = some (some 54, .move (.tmp 53), some (8, false)) from by kernel_rfl) (by kernel_rfl) (by kernel_rfl) (by kernel_rfl) ?_
            refine run_part (b := gr) rfl (by kernel_rfl) (show opAt (opsOf Try.f3 9) 13 = some (some 55, .fieldAddr 25 (.tmp 6) 0, some (12, true)) from by kernel_rfl) (by kernel_rfl) (by kernel_rfl) (by kernel_rfl) ?_
            refine run_num r (b := gr) (show opAt (opsOf Try.f3 9) 14 = some (some 56, .load 3 (.tmp 55), some (12, true)) from by kernel_rfl) (by kernel_rfl) (by kernel_rfl) (by kernel_rfl) (List.Mem.tail _ (List.Mem.head _)) ?_
            refine run_cmp (k := .i64) (p := r.n) (q := 0) (b := true) (show opAt (opsOf Try.f3 9) 15 = some (some 57, .binOp .neq 3 (.tmp 56) (.const (.int .i64 0)) 3, some (12, true)) from by kernel_rfl) (by kernel_rfl) (by kernel_rfl) (by kernel_rfl) (by kernel_rfl) (congrArg some (bne_iff_ne.2 rn)) ?_
            refine run_pick (b := true) (v := .bool true) (show opAt (opsOf Try.f3 9) 16 = some (some 58, .pick (.tmp 54) (.tmp 57) (.const (.bool false)), some (8, false)) from by kernel_rfl) (by kernel_rfl) (by kernel_rfl) (by kernel_rfl) (by kernel_rfl) ?_
            refine run_mov (v := .bool true) (show opAt (opsOf Try.f3 9) 17 = some (some 59, .move (.tmp 58), some (8, false)) from by kernel_rfl) (by kernel_rfl) (by kernel_rfl) (by kernel_rfl) ?_
            refine run_part (b := gr) rfl (by kernel_rfl) (show opAt (opsOf Try.f3 9) 18 = some (some 60, .fieldAddr 25 (.tmp 6) 0, some (17, true)) from by kernel_rfl) (by kernel_rfl) (by kernel_rfl) (by kernel_rfl) ?_
            refine run_num r (b := gr) (show opAt (opsOf Try.f3 9) 19 = some (some 61, .load 3 (.tmp 60), some (17, true)) from by kernel_rfl) (by kernel_rfl) (by kernel_rfl) (by kernel_rfl) (List.Mem.tail _ (List.Mem.head _)) ?_
            refine run_cmp (k := .i64) (p := r.n) (q := 0) (b := false) (show opAt (opsOf Try.f3 9) 20 = some (some 62, .binOp .lss 3 (.tmp 61) (.const (.int .i64 0)) 3, some (17, true)) from by kernel_rfl) (by kernel_rfl) (by kernel_rfl) (by kernel_rfl) (by kernel_rfl) (congrArg some (decide_eq_false (by omega))) ?_
            refine run_part (b := gy) rfl (by kernel_rfl) (show opAt (opsOf Try.f3 9) 21 = some (some 63, .fieldAddr 25 (.tmp 4) 0, some (17, true)) from by kernel_rfl) (by kernel_rfl) (by kernel_rfl) (by kernel_rfl) ?_
            refine run_num y (b := gy) (show opAt (opsOf Try.f3 9) 22 = some (some 64, .load 3 (.tmp 63), some (17, true)) from by kernel_rfl) (by kernel_rfl) (by kernel_rfl) (by kernel_rfl) (List.Mem.tail _ (List.Mem.tail _ (List.Mem.tail _ (List.Mem.head _)))) ?_
            refine run_cmp (k := .i64) (p := y.n) (q := 0) (b := false) (show opAt (opsOf Try.f3 9) 23 = some (some 65, .binOp .lss 3 (.tmp 64) (.const (.int .i64 0)) 3, some (17, true)) from by kernel_rfl) (by kernel_rfl) (by kernel_rfl) (by kernel_rfl) (by kernel_rfl) (congrArg some (decide_eq_false (by omega))) ?_
            refine run_same (v := .bool false) (p := .bool false) (q := .bool false) (show opAt (opsOf Try.f3 9) 24 = some (some 66, .binOp .neq 4 (.tmp 62) (.tmp 65) 4, some (17, true)) from by kernel_rfl) (by kernel_rfl) (by kernel_rfl) (by kernel_rfl) (by kernel_rfl) (fun w' => neq_bool) ?_
            refine run_pick (b := true) (v := .bool false) (show opAt (opsOf Try.f3 9) 25 = some (some 67, .pick (.tmp 59) (.tmp 66) (.const (.bool false)), some (8, false)) from by kernel_rfl) (by kernel_rfl) (by kernel_rfl) (by kernel_rfl) (by kernel_rfl) ?_
            refine run_pick (b := false) (v := .bool false) (show opAt (opsOf Try.f3 9) 26 = some (some 68, .pick (.tmp 50) (.const (.bool true)) (.tmp 67), none) from by kernel_rfl) (by kernel_rfl) (by kernel_rfl) (by kernel_rfl) (by kernel_rfl) ?_
            refine run_mov (v := .bool false) (show opAt (opsOf Try.f3 9) 27 = some (some 69, .move (.tmp 68), none) from by kernel_rfl) (by kernel_rfl) (by kernel_rfl) (by kernel_rfl) ?_
            refine run_part (b := gr) rfl (by kernel_rfl) (show opAt (opsOf Try.f3 9) 28 = some (some 70, .fieldAddr 25 (.tmp 6) 1, some (27, false)) from by kernel_rfl) (by kernel_rfl) (by kernel_rfl) (by kernel_rfl) ?_
            refine run_den r (b := gr) (show opAt (opsOf Try.f3 9) 29 = some (some 71, .load 3 (.tmp 70), some (27, false)) from by kernel_rfl) (by kernel_rfl) (by kernel_rfl) (by kernel_rfl) (List.Mem.tail _ (List.Mem.head _)) ?_
            refine run_cmp (k := .i64) (p := r.d) (q := 0) (b := true) (show opAt (opsOf Try.f3 9) 30 = some (some 72, .binOp .neq 3 (.tmp 71) (.const (.int .i64 0)) 3, some (27, false)) from by kernel_rfl) (by kernel_rfl) (by kernel_rfl) (by kernel_rfl) (by kernel_rfl) (congrArg some (bne_iff_ne.2 rd)) ?_
            refine run_mov (v := .bool true) (show opAt (opsOf Try.f3 9) 31 = some (some 73, .move (.tmp 72), some (27, false)) from by kernel_rfl) (by kernel_rfl) (by kernel_rfl) (by kernel_rfl) ?_
            refine run_item r (b := gr) (show opAt (opsOf Try.f3 9) 32 = some (some 74, .load 25 (.tmp 6), some (31, true)) from by kernel_rfl) (by kernel_rfl) (by kernel_rfl) (by kernel_rfl) (List.Mem.tail _ (List.Mem.head _)) ?_
            refine run_item r (b := gr) (show opAt (opsOf Try.f3 9) 33 = some (some 75, .load 25 (.tmp 6), some (31, true)) from by kernel_rfl) (by kernel_rfl) (by kernel_rfl) (by kernel_rfl) (List.Mem.tail _ (List.Mem.head _)) ?_
            refine run_item y (b := gy) (show opAt (opsOf Try.f3 9) 35 = some (some 77, .load 25 (.tmp 4), some (31, true)) from by kernel_rfl) (by kernel_rfl) (by kernel_rfl) (by kernel_rfl) (List.Mem.tail _ (List.Mem.tail _ (List.Mem.tail _ (List.Mem.head _)))) ?_
            refine run_item y (b := gy) (show opAt (opsOf Try.f3 9) 36 = some (some 78, .load 25 (.tmp 4), some (31, true)) from by kernel_rfl) (by kernel_rfl) (by kernel_rfl) (by kernel_rfl) (List.Mem.tail _ (List.Mem.tail _ (List.Mem.tail _ (List.Mem.head _)))) ?_
            refine run_call (args := [.agg #[.int .i64 r.n, .int .i64 r.d, .string r.t], .agg #[.int .i64 r.n, .int .i64 r.d, .string r.t]]) (show opAt (opsOf Try.f3 9) 34 = some (some 76, .call { callee := .value (.func 18), args := [(.tmp 74), (.tmp 75)].toArray, argTypes := [25, 25].toArray }, some (31, true)) from by kernel_rfl) (by kernel_rfl) (by kernel_rfl) (by kernel_rfl) (by kernel_rfl) ?_
            refine (M1.out _).mono ?_
            rintro en rw16 ⟨rfl, hb⟩
            refine ⟨_, rfl, held_call H.out hb, ?_⟩
            have H := Lib.hid (held_call H.out hb)
            clear hb
            refine run_call (args := [.agg #[.int .i64 y.n, .int .i64 y.d, .string y.t], .agg #[.int .i64 y.n, .int .i64 y.d, .string y.t]]) (show opAt (opsOf Try.f3 9) 37 = some (some 79, .call { callee := .value (.func 18), args := [(.tmp 77), (.tmp 78)].toArray, argTypes := [25, 25].toArray }, some (31, true)) from by kernel_rfl) (by kernel_rfl) (by kernel_rfl) (by kernel_rfl) (by kernel_rfl) ?_
            refine (M2.out _).mono ?_
            rintro en rw17 ⟨rfl, hb⟩
            refine ⟨_, rfl, held_call H.out hb, ?_⟩
            have H := Lib.hid (held_call H.out hb)
            clear hb
            refine run_call (args := [.agg #[.int .i64 rr.n, .int .i64 rr.d, .string rr.t], .agg #[.int .i64 yy.n, .int .i64 yy.d, .string yy.t]]) (show opAt (opsOf Try.f3 9) 38 = some (some 80, .call { callee := .value (.func 19), args := [(.tmp 76), (.tmp 79)].toArray, argTypes := [25, 25].toArray }, some (31, true)) from by kernel_rfl) (by kernel_rfl) (by kernel_rfl) (by kernel_rfl) (by kernel_rfl) ?_
            refine (CC.out _).mono ?_
            rintro en rw18 ⟨rfl, hb⟩
            refine ⟨_, rfl, held_call H.out hb, ?_⟩
            have H := Lib.hid (held_call H.out hb)
            clear hb
            refine run_cmp (k := .i64) (p := cm) (q := 1) (b := false) (show opAt (opsOf Try.f3 9) 39 = some (some 81, .binOp .eql 3 (.tmp 80) (.const (.int .i64 1)) 3, some (31, true)) from by kernel_rfl) (by kernel_rfl) (by kernel_rfl) (by kernel_rfl) (by kernel_rfl) (congrArg some (beq_eq_false_iff_ne.2 rc)) ?_
            refine run_pick (b := true) (v := .bool false) (show opAt (opsOf Try.f3 9) 40 = some (some 82, .pick (.tmp 73) (.tmp 81) (.const (.bool false)), some (27, false)) from by kernel_rfl) (by kernel_rfl) (by kernel_rfl) (by kernel_rfl) (by kernel_rfl) ?_
            refine run_pick (b := false) (v := .bool false) (show opAt (opsOf Try.f3 9) 41 = some (some 83, .pick (.tmp 69) (.const (.bool true)) (.tmp 82), none) from by kernel_rfl) (by kernel_rfl) (by kernel_rfl) (by kernel_rfl) (by kernel_rfl) ?_
            refine run_done ?_
            simp only [putAll, Act.put, List.setIfInBounds_toArray, List.set_cons_zero, List.set_cons_succ]
            (go_wp2_with fail; go_meet; exact ⟨rfl, H.out⟩)
      case rest =>
        obtain ⟨u2, rfl⟩ : ∃ u : World, u = wc := ⟨_, rfl⟩
        obtain ⟨rfl, hA⟩ := hcut
        have H := Lib.hid hA
        clear hA ZZ RR CQ DQ CR DR DM DA M1 M2 CC
        obtain ⟨⟨kx0, kx1, kx2⟩, _, _, _⟩ := three (held_at (g := gx) (x := x) H.out (by simp))
        go_wp2_with fail
        refine (CF.out _).mono ?_
        rintro e v5 ⟨rfl, hb⟩
        have H5 := Lib.hid (held_call H.out hb)
        clear hb
        clear kx0 kx1 kx2
        obtain ⟨⟨kx0, kx1, kx2⟩, _, _, _⟩ := three (held_at (g := gx) (x := x) H5.out (by simp))
        have lx : gx < v5.heap.size := held_lt H5.out (gx, x) (by simp)
        go_wp2_with fail
        refine (CG.out _).mono ?_
        rintro e v6 ⟨rfl, hb⟩
        have H6 := Lib.hid (held_call (held_new (z := f) H5.out) hb)
        clear hb lx
        clear kx0 kx1 kx2
        obtain ⟨gf, hgf⟩ : ∃ g, v5.heap.size = g := ⟨_, rfl⟩
        simp only [hgf] at H6 ⊢
        clear hgf
        obtain ⟨⟨kx0, kx1, kx2⟩, _, _, _⟩ := three (held_at (g := gx) (x := x) H6.out (by simp))
        obtain ⟨⟨kf0, kf1, kf2⟩, _, _, _⟩ := three (held_at (g := gf) (x := f) H6.out (by simp))
        have lx : gx < v6.heap.size := held_lt H6.out (gx, x) (by simp)
        have lf : gf < v6.heap.size := held_lt H6.out (gf, f) (by simp)
        go_wp2_with fail
        refine (DH.out _).mono ?_
        rintro e v7 ⟨rfl, hb⟩
        have H7 := Lib.hid (held_call (held_new (z := g) H6.out) hb)
        clear hb lx lf
        clear kx0 kx1 kx2 kf0 kf1 kf2
        obtain ⟨gg, hgg⟩ : ∃ g, v6.heap.size = g := ⟨_, rfl⟩
        simp only [hgg] at H7 ⊢
        clear hgg
        obtain ⟨⟨kx0, kx1, kx2⟩, _, _, _⟩ := three (held_at (g := gx) (x := x) H7.out (by simp))
        obtain ⟨⟨kg0, kg1, kg2⟩, _, _, _⟩ := three (held_at (g := gg) (x := g) H7.out (by simp))
        have lx : gx < v7.heap.size := held_lt H7.out (gx, x) (by simp)
        have lg : gg < v7.heap.size := held_lt H7.out (gg, g) (by simp)
        go_wp2_with fail
        refine (DK.out _).mono ?_
        rintro e v8 ⟨rfl, hb⟩
        have H8 := Lib.hid (held_call (held_new (z := h) H7.out) hb)
        clear hb lx lg
        clear kx0 kx1 kx2 kg0 kg1 kg2
        obtain ⟨gh, hgh⟩ : ∃ g, v7.heap.size = g := ⟨_, rfl⟩
        simp only [hgh] at H8 ⊢
        clear hgh
        have H9 := Lib.hid (held_new (z := k) H8.out)
        go_wp2_with fail
        obtain ⟨gk, hgk⟩ : ∃ g, v8.heap.size = g := ⟨_, rfl⟩
        simp only [hgk] at H9 ⊢
        obtain ⟨W9, hW9⟩ : ∃ W, v8.alloc (.cells #[.int .i64 k.n, .int .i64 k.d, .string k.t] 25) = W := ⟨_, rfl⟩
        rw [hW9] at H9 ⊢
        clear hgk hW9 H H5 H6 H7 H8
        have H := H9
        clear H9
        obtain ⟨⟨nk0, nk1⟩, ⟨nk2, nk3⟩⟩ := NK.out
        have wr1 : IntKind.i64.wrap (2 * k.n) = 2 * k.n := IntWalk.i64_in _ (by omega)
        have wr2 : IntKind.i64.wrap (0 - k.d) = -k.d := by rw [Int.zero_sub]; exact IntWalk.i64_in _ (by omega)
        clear CF CG DH DK NK nk0 nk1 nk2 nk3
        refine run_region (ops := (opsOf Try.f3 15)) (S := fun w' => Held w w' ((gk, k) :: (gh, h) :: (gg, g) :: (gf, f) :: (gz, z) :: [(gr, r), (gq, q), (gy, y), (gx, x)])) [(0, true), (1, true), (2, false), (3, true), (4, true), (5, true), (6, true), (7, false), (8, true), (9, true), (10, true), (11, true), (12, true), (13, true), (14, true), (15, true), (16, true), (17, true), (18, true), (19, true), (20, true), (21, true), (22, true), (23, true), (24, true), (25, true), (26, true), (27, true), (28, true), (29, true), (30, true), (31, true), (32, true), (33, true), (34, true), (35, true), (36, true), (37, true), (38, true), (39, true), (40, true), (41, true), (42, true), (43, true), (44, true), (45, true), (46, true), (47, true), (48, true), (49, true)] (by kernel_rfl) (by kernel_rfl) (by kernel_rfl) (by kernel_rfl) (by kernel_rfl) (fun _ _ _ _ _ h => h) (held_drew H.out) ?_
        have H := Lib.hid (held_drew H.out)
        refine run_item f (b := gf) (show opAt (opsOf Try.f3 15) 0 = some (some 94, .load 25 (.tmp 8), none) from by kernel_rfl) (by kernel_rfl) (by kernel_rfl) (by kernel_rfl) (List.Mem.tail _ (List.Mem.tail _ (List.Mem.tail _ (List.Mem.head _)))) ?_
        refine run_item x (b := gx) (show opAt (opsOf Try.f3 15) 1 = some (some 95, .load 25 (.tmp 3), none) from by kernel_rfl) (by kernel_rfl) (by kernel_rfl) (by kernel_rfl) (List.Mem.tail _ (List.Mem.tail _ (List.Mem.tail _ (List.Mem.tail _ (List.Mem.tail _ (List.Mem.tail _ (List.Mem.tail _ (List.Mem.tail _ (List.Mem.head _))))))))) ?_
        refine run_call (args := [.agg #[.int .i64 x.n, .int .i64 x.d, .string x.t]]) (show opAt (opsOf Try.f3 15) 2 = some (some 96, .call { callee := .value (.func 23), args := [(.tmp 95)].toArray, argTypes := [25].toArray }, none) from by kernel_rfl) (by kernel_rfl) (by kernel_rfl) (by kernel_rfl) (by kernel_rfl) ?_
        refine (DF.out _).mono ?_
        rintro en rw1 ⟨rfl, hb⟩
        refine ⟨_, rfl, held_call H.out hb, ?_⟩
        have H := Lib.hid (held_call H.out hb)
        clear hb
        refine run_same (v := .bool true) (p := .agg #[.int .i64 f.n, .int .i64 f.d, .string f.t]) (q := .agg #[.int .i64 f.n, .int .i64 f.d, .string f.t]) (show opAt (opsOf Try.f3 15) 3 = some (some 97, .binOp .eql 25 (.tmp 94) (.tmp 96) 25, none) from by kernel_rfl) (by kernel_rfl) (by kernel_rfl) (by kernel_rfl) (by kernel_rfl) (fun w' => eql_item rfl) ?_
        refine run_mov (v := .bool true) (show opAt (opsOf Try.f3 15) 4 = some (some 98, .move (.tmp 97), none) from by kernel_rfl) (by kernel_rfl) (by kernel_rfl) (by kernel_rfl) ?_
        refine run_item g (b := gg) (show opAt (opsOf Try.f3 15) 5 = some (some 99, .load 25 (.tmp 9), some (4, true)) from by kernel_rfl) (by kernel_rfl) (by kernel_rfl) (by kernel_rfl) (List.Mem.tail _ (List.Mem.tail _ (List.Mem.head _))) ?_
        refine run_item x (b := gx) (show opAt (opsOf Try.f3 15) 6 = some (some 100, .load 25 (.tmp 3), some (4, true)) from by kernel_rfl) (by kernel_rfl) (by kernel_rfl) (by kernel_rfl) (List.Mem.tail _ (List.Mem.tail _ (List.Mem.tail _ (List.Mem.tail _ (List.Mem.tail _ (List.Mem.tail _ (List.Mem.tail _ (List.Mem.tail _ (List.Mem.head _))))))))) ?_
        refine run_call (args := [.agg #[.int .i64 x.n, .int .i64 x.d, .string x.t]]) (show opAt (opsOf Try.f3 15) 7 = some (some 101, .call { callee := .value (.func 24), args := [(.tmp 100)].toArray, argTypes := [25].toArray }, some (4, true)) from by kernel_rfl) (by kernel_rfl) (by kernel_rfl) (by kernel_rfl) (by kernel_rfl) ?_
        refine (DG.out _).mono ?_
        rintro en rw2 ⟨rfl, hb⟩
        refine ⟨_, rfl, held_call H.out hb, ?_⟩
        have H := Lib.hid (held_call H.out hb)
        clear hb
        refine run_same (v := .bool true) (p := .agg #[.int .i64 g.n, .int .i64 g.d, .string g.t]) (q := .agg #[.int .i64 g.n, .int .i64 g.d, .string g.t]) (show opAt (opsOf Try.f3 15) 8 = some (some 102, .binOp .eql 25 (.tmp 99) (.tmp 101) 25, some (4, true)) from by kernel_rfl) (by kernel_rfl) (by kernel_rfl) (by kernel_rfl) (by kernel_rfl) (fun w' => eql_item rfl) ?_
        refine run_pick (b := true) (v := .bool true) (show opAt (opsOf Try.f3 15) 9 = some (some 103, .pick (.tmp 98) (.tmp 102) (.const (.bool false)), none) from by kernel_rfl) (by kernel_rfl) (by kernel_rfl) (by kernel_rfl) (by kernel_rfl) ?_
        refine run_mov (v := .bool true) (show opAt (opsOf Try.f3 15) 10 = some (some 104, .move (.tmp 103), none) from by kernel_rfl) (by kernel_rfl) (by kernel_rfl) (by kernel_rfl) ?_
        refine run_part (b := gh) rfl (by kernel_rfl) (show opAt (opsOf Try.f3 15) 11 = some (some 105, .fieldAddr 25 (.tmp 10) 1, some (10, true)) from by kernel_rfl) (by kernel_rfl) (by kernel_rfl) (by kernel_rfl) ?_
        refine run_den h (b := gh) (show opAt (opsOf Try.f3 15) 12 = some (some 106, .load 3 (.tmp 105), some (10, true)) from by kernel_rfl) (by kernel_rfl) (by kernel_rfl) (by kernel_rfl) (List.Mem.tail _ (List.Mem.head _)) ?_
        rcases HH.out with hz | ⟨hz, h0, h1⟩
        · clear HH
          refine run_cmp (k := .i64) (p := h.d) (q := 0) (b := true) (show opAt (opsOf Try.f3 15) 13 = some (some 107, .binOp .eql 3 (.tmp 106) (.const (.int .i64 0)) 3, some (10, true)) from by kernel_rfl) (by kernel_rfl) (by kernel_rfl) (by kernel_rfl) (by kernel_rfl) (congrArg some (beq_iff_eq.2 hz)) ?_
          refine run_mov (v := .bool true) (show opAt (opsOf Try.f3 15) 14 = some (some 108, .move (.tmp 107), some (10, true)) from by kernel_rfl) (by kernel_rfl) (by kernel_rfl) (by kernel_rfl) ?_
          refine run_skip (show opAt (opsOf Try.f3 15) 15 = some (some 109, .fieldAddr 25 (.tmp 10) 0, some (14, false)) from by kernel_rfl) (by kernel_rfl) (by kernel_rfl) ?_
          refine run_skip (show opAt (opsOf Try.f3 15) 16 = some (some 110, .load 3 (.tmp 109), some (14, false)) from by kernel_rfl) (by kernel_rfl) (by kernel_rfl) ?_
          refine run_skip (show opAt (opsOf Try.f3 15) 17 = some (some 111, .binOp .geq 3 (.tmp 110) (.const (.int .i64 0)) 3, some (14, false)) from by kernel_rfl) (by kernel_rfl) (by kernel_rfl) ?_
          refine run_skip (show opAt (opsOf Try.f3 15) 18 = some (some 112, .move (.tmp 111), some (14, false)) from by kernel_rfl) (by kernel_rfl) (by kernel_rfl) ?_
          refine run_skip (show opAt (opsOf Try.f3 15) 19 = some (some 113, .fieldAddr 25 (.tmp 10) 0, some (18, true)) from by kernel_rfl) (by kernel_rfl) (by kernel_rfl) ?_
          refine run_skip (show opAt (opsOf Try.f3 15) 20 = some (some 114, .load 3 (.tmp 113), some (18, true)) from by kernel_rfl) (by kernel_rfl) (by kernel_rfl) ?_
          refine run_skip (show opAt (opsOf Try.f3 15) 21 = some (some 115, .fieldAddr 25 (.tmp 10) 1, some (18, true)) from by kernel_rfl) (by kernel_rfl) (by kernel_rfl) ?_
          refine run_skip (show opAt (opsOf Try.f3 15) 22 = some (some 116, .load 3 (.tmp 115), some (18, true)) from by kernel_rfl) (by kernel_rfl) (by kernel_rfl) ?_
          refine run_skip (show opAt (opsOf Try.f3 15) 23 = some (some 117, .binOp .lss 3 (.tmp 114) (.tmp 116) 3, some (18, true)) from by kernel_rfl) (by kernel_rfl) (by kernel_rfl) ?_
          refine run_skip (show opAt (opsOf Try.f3 15) 24 = some (some 118, .pick (.tmp 112) (.tmp 117) (.const (.bool false)), some (14, false)) from by kernel_rfl) (by kernel_rfl) (by kernel_rfl) ?_
          refine run_pick (b := true) (v := .bool true) (show opAt (opsOf Try.f3 15) 25 = some (some 119, .pick (.tmp 108) (.const (.bool true)) (.tmp 118), some (10, true)) from by kernel_rfl) (by kernel_rfl) (by kernel_rfl) (by kernel_rfl) (by kernel_rfl) ?_
          refine run_pick (b := true) (v := .bool true) (show opAt (opsOf Try.f3 15) 26 = some (some 120, .pick (.tmp 104) (.tmp 119) (.const (.bool false)), none) from by kernel_rfl) (by kernel_rfl) (by kernel_rfl) (by kernel_rfl) (by kernel_rfl) ?_
          refine run_mov (v := .bool true) (show opAt (opsOf Try.f3 15) 27 = some (some 121, .move (.tmp 120), none) from by kernel_rfl) (by kernel_rfl) (by kernel_rfl) (by kernel_rfl) ?_
          refine run_part (b := gk) rfl (by kernel_rfl) (show opAt (opsOf Try.f3 15) 28 = some (some 122, .fieldAddr 25 (.tmp 11) 1, some (27, true)) from by kernel_rfl) (by kernel_rfl) (by kernel_rfl) (by kernel_rfl) ?_
          refine run_den k (b := gk) (show opAt (opsOf Try.f3 15) 29 = some (some 123, .load 3 (.tmp 122), some (27, true)) from by kernel_rfl) (by kernel_rfl) (by kernel_rfl) (by kernel_rfl) (List.Mem.head _) ?_
          rcases KK.out with kz | ⟨kz, k0, k1⟩
          · clear KK
            refine run_cmp (k := .i64) (p := k.d) (q := 0) (b := true) (show opAt (opsOf Try.f3 15) 30 = some (some 124, .binOp .eql 3 (.tmp 123) (.const (.int .i64 0)) 3, some (27, true)) from by kernel_rfl) (by kernel_rfl) (by kernel_rfl) (by kernel_rfl) (by kernel_rfl) (congrArg some (beq_iff_eq.2 kz)) ?_
            refine run_mov (v := .bool true) (show opAt (opsOf Try.f3 15) 31 = some (some 125, .move (.tmp 124), some (27, true)) from by kernel_rfl) (by kernel_rfl) (by kernel_rfl) (by kernel_rfl) ?_
            refine run_skip (show opAt (opsOf Try.f3 15) 32 = some (some 126, .fieldAddr 25 (.tmp 11) 0, some (31, false)) from by kernel_rfl) (by kernel_rfl) (by kernel_rfl) ?_
            refine run_skip (show opAt (opsOf Try.f3 15) 33 = some (some 127, .load 3 (.tmp 126), some (31, false)) from by kernel_rfl) (by kernel_rfl) (by kernel_rfl) ?_
            refine run_skip (show opAt (opsOf Try.f3 15) 34 = some (some 128, .binOp .mul 3 (.const (.int .i64 2)) (.tmp 127) 3, some (31, false)) from by kernel_rfl) (by kernel_rfl) (by kernel_rfl) ?_
            refine run_skip (show opAt (opsOf Try.f3 15) 35 = some (some 129, .fieldAddr 25 (.tmp 11) 1, some (31, false)) from by kernel_rfl) (by kernel_rfl) (by kernel_rfl) ?_
            refine run_skip (show opAt (opsOf Try.f3 15) 36 = some (some 130, .load 3 (.tmp 129), some (31, false)) from by kernel_rfl) (by kernel_rfl) (by kernel_rfl) ?_
            refine run_skip (show opAt (opsOf Try.f3 15) 37 = some (some 131, .unOp .neg 3 (.tmp 130), some (31, false)) from by kernel_rfl) (by kernel_rfl) (by kernel_rfl) ?_
            refine run_skip (show opAt (opsOf Try.f3 15) 38 = some (some 132, .binOp .geq 3 (.tmp 128) (.tmp 131) 3, some (31, false)) from by kernel_rfl) (by kernel_rfl) (by kernel_rfl) ?_
            refine run_skip (show opAt (opsOf Try.f3 15) 39 = some (some 133, .move (.tmp 132), some (31, false)) from by kernel_rfl) (by kernel_rfl) (by kernel_rfl) ?_
            refine run_skip (show opAt (opsOf Try.f3 15) 40 = some (some 134, .fieldAddr 25 (.tmp 11) 0, some (39, true)) from by kernel_rfl) (by kernel_rfl) (by kernel_rfl) ?_
            refine run_skip (show opAt (opsOf Try.f3 15) 41 = some (some 135, .load 3 (.tmp 134), some (39, true)) from by kernel_rfl) (by kernel_rfl) (by kernel_rfl) ?_
            refine run_skip (show opAt (opsOf Try.f3 15) 42 = some (some 136, .binOp .mul 3 (.const (.int .i64 2)) (.tmp 135) 3, some (39, true)) from by kernel_rfl) (by kernel_rfl) (by kernel_rfl) ?_
            refine run_skip (show opAt (opsOf Try.f3 15) 43 = some (some 137, .fieldAddr 25 (.tmp 11) 1, some (39, true)) from by kernel_rfl) (by kernel_rfl) (by kernel_rfl) ?_
            refine run_skip (show opAt (opsOf Try.f3 15) 44 = some (some 138, .load 3 (.tmp 137), some (39, true)) from by kernel_rfl) (by kernel_rfl) (by kernel_rfl) ?_
            refine run_skip (show opAt (opsOf Try.f3 15) 45 = some (some 139, .binOp .lss 3 (.tmp 136) (.tmp 138) 3, some (39, true)) from by kernel_rfl) (by kernel_rfl) (by kernel_rfl) ?_
            refine run_skip (show opAt (opsOf Try.f3 15) 46 = some (some 140, .pick (.tmp 133) (.tmp 139) (.const (.bool false)), some (31, false)) from by kernel_rfl) (by kernel_rfl) (by kernel_rfl) ?_
            refine run_pick (b := true) (v := .bool true) (show opAt (opsOf Try.f3 15) 47 = some (some 141, .pick (.tmp 125) (.const (.bool true)) (.tmp 140), some (27, true)) from by kernel_rfl) (by kernel_rfl) (by kernel_rfl) (by kernel_rfl) (by kernel_rfl) ?_
            refine run_pick (b := true) (v := .bool true) (show opAt (opsOf Try.f3 15) 48 = some (some 142, .pick (.tmp 121) (.tmp 141) (.const (.bool false)), none) from by kernel_rfl) (by kernel_rfl) (by kernel_rfl) (by kernel_rfl) (by kernel_rfl) ?_
            refine run_asg (v := .bool true) (show opAt (opsOf Try.f3 15) 49 = some (some 2, .assign (.tmp 142), none) from by kernel_rfl) (by kernel_rfl) (by kernel_rfl) (by kernel_rfl) ?_
            refine run_done ?_
            simp only [putAll, Act.put, List.setIfInBounds_toArray, List.set_cons_zero, List.set_cons_succ]
            go_wp2
            go_ret
            exact ⟨rfl, H.out.1⟩
          · clear KK
            refine run_cmp (k := .i64) (p := k.d) (q := 0) (b := false) (show opAt (opsOf Try.f3 15) 30 = some (some 124, .binOp .eql 3 (.tmp 123) (.const (.int .i64 0)) 3, some (27, true)) from by kernel_rfl) (by kernel_rfl) (by kernel_rfl) (by kernel_rfl) (by kernel_rfl) (congrArg some (beq_eq_false_iff_ne.2 kz)) ?_
            refine run_mov (v := .bool false) (show opAt (opsOf Try.f3 15) 31 = some (some 125, .move (.tmp 124), some (27, true)) from by kernel_rfl) (by kernel_rfl) (by kernel_rfl) (by kernel_rfl) ?_
            refine run_part (b := gk) rfl (by kernel_rfl) (show opAt (opsOf Try.f3 15) 32 = some (some 126, .fieldAddr 25 (.tmp 11) 0, some (31, false)) from by kernel_rfl) (by kernel_rfl) (by kernel_rfl) (by kernel_rfl) ?_
            refine run_num k (b := gk) (show opAt (opsOf Try.f3 15) 33 = some (some 127, .load 3 (.tmp 126), some (31, false)) from by kernel_rfl) (by kernel_rfl) (by kernel_rfl) (by kernel_rfl) (List.Mem.head _) ?_
            refine run_mul (k := .i64) (p := 2) (q := k.n) (z := 2 * k.n) (show opAt (opsOf Try.f3 15) 34 = some (some 128, .binOp .mul 3 (.const (.int .i64 2)) (.tmp 127) 3, some (31, false)) from by kernel_rfl) (by kernel_rfl) (by kernel_rfl) (by kernel_rfl) (by kernel_rfl) wr1 ?_
            refine run_part (b := gk) rfl (by kernel_rfl) (show opAt (opsOf Try.f3 15) 35 = some (some 129, .fieldAddr 25 (.tmp 11) 1, some (31, false)) from by kernel_rfl) (by kernel_rfl) (by kernel_rfl) (by kernel_rfl) ?_
            refine run_den k (b := gk) (show opAt (opsOf Try.f3 15) 36 = some (some 130, .load 3 (.tmp 129), some (31, false)) from by kernel_rfl) (by kernel_rfl) (by kernel_rfl) (by kernel_rfl) (List.Mem.head _) ?_
            refine run_neg (k := .i64) (p := k.d) (z := -k.d) (show opAt (opsOf Try.f3 15) 37 = some (some 131, .unOp .neg 3 (.tmp 130), some (31, false)) from by kernel_rfl) (by kernel_rfl) (by kernel_rfl) (by kernel_rfl) wr2 ?_
            refine run_cmp (k := .i64) (p := 2 * k.n) (q := -k.d) (b := true) (show opAt (opsOf Try.f3 15) 38 = some (some 132, .binOp .geq 3 (.tmp 128) (.tmp 131) 3, some (31, false)) from by kernel_rfl) (by kernel_rfl) (by kernel_rfl) (by kernel_rfl) (by kernel_rfl) (congrArg some (decide_eq_true (by omega))) ?_
            refine run_mov (v := .bool true) (show opAt (opsOf Try.f3 15) 39 = some (some 133, .move (.tmp 132), some (31, false)) from by kernel_rfl) (by kernel_rfl) (by kernel_rfl) (by kernel_rfl) ?_
            refine run_part (b := gk) rfl (by kernel_rfl) (show opAt (opsOf Try.f3 15) 40 = some (some 134, .fieldAddr 25 (.tmp 11) 0, some (39, true)) from by kernel_rfl) (by kernel_rfl) (by kernel_rfl) (by kernel_rfl) ?_
            refine run_num k (b := gk) (show opAt (opsOf Try.f3 15) 41 = some (some 135, .load 3 (.tmp 134), some (39, true)) from by kernel_rfl) (by kernel_rfl) (by kernel_rfl) (by kernel_rfl) (List.Mem.head _) ?_
            refine run_mul (k := .i64) (p := 2) (q := k.n) (z := 2 * k.n) (show opAt (opsOf Try.f3 15) 42 = some (some 136, .binOp .mul 3 (.const (.int .i64 2)) (.tmp 135) 3, some (39, true)) from by kernel_rfl) (by kernel_rfl) (by kernel_rfl) (by kernel_rfl) (by kernel_rfl) wr1 ?_
            refine run_part (b := gk) rfl (by kernel_rfl) (show opAt (opsOf Try.f3 15) 43 = some (some 137, .fieldAddr 25 (.tmp 11) 1, some (39, true)) from by kernel_rfl) (by kernel_rfl) (by kernel_rfl) (by kernel_rfl) ?_
            refine run_den k (b := gk) (show opAt (opsOf Try.f3 15) 44 = some (some 138, .load 3 (.tmp 137), some (39, true)) from by kernel_rfl) (by kernel_rfl) (by kernel_rfl) (by kernel_rfl) (List.Mem.head _) ?_
            refine run_cmp (k := .i64) (p := 2 * k.n) (q := k.d) (b := true) (show opAt (opsOf Try.f3 15) 45 = some (some 139, .binOp .lss 3 (.tmp 136) (.tmp 138) 3, some (39, true)) from by kernel_rfl) (by kernel_rfl) (by kernel_rfl) (by kernel_rfl) (by kernel_rfl) (congrArg some (decide_eq_true (by omega))) ?_
            refine run_pick (b := true) (v := .bool true) (show opAt (opsOf Try.f3 15) 46 = some (some 140, .pick (.tmp 133) (.tmp 139) (.const (.bool false)), some (31, false)) from by kernel_rfl) (by kernel_rfl) (by kernel_rfl) (by kernel_rfl) (by kernel_rfl) ?_
            refine run_pick (b := false) (v := .bool true) (show opAt (opsOf Try.f3 15) 47 = some (some 141, .pick (.tmp 125) (.const (.bool true)) (.tmp 140), some (27, true)) from by kernel_rfl) (by kernel_rfl) (by kernel_rfl) (by kernel_rfl) (by kernel_rfl) ?_
            refine run_pick (b := true) (v := .bool true) (show opAt (opsOf Try.f3 15) 48 = some (some 142, .pick (.tmp 121) (.tmp 141) (.const (.bool false)), none) from by kernel_rfl) (by kernel_rfl) (by kernel_rfl) (by kernel_rfl) (by kernel_rfl) ?_
            refine run_asg (v := .bool true) (show opAt (opsOf Try.f3 15) 49 = some (some 2, .assign (.tmp 142), none) from by kernel_rfl) (by kernel_rfl) (by kernel_rfl) (by kernel_rfl) ?_
            refine run_done ?_
            simp only [putAll, Act.put, List.setIfInBounds_toArray, List.set_cons_zero, List.set_cons_succ]
            go_wp2
            go_ret
            exact ⟨rfl, H.out.1⟩
        · clear HH
          refine run_cmp (k := .i64) (p := h.d) (q := 0) (b := false) (show opAt (opsOf Try.f3 15) 13 = some (some 107, .binOp .eql 3 (.tmp 106) (.const (.int .i64 0)) 3, some (10, true)) from by kernel_rfl) (by kernel_rfl) (by kernel_rfl) (by kernel_rfl) (by kernel_rfl) (congrArg some (beq_eq_false_iff_ne.2 hz)) ?_
          refine run_mov (v := .bool false) (show opAt (opsOf Try.f3 15) 14 = some (some 108, .move (.tmp 107), some (10, true)) from by kernel_rfl) (by kernel_rfl) (by kernel_rfl) (by kernel_rfl) ?_
          refine run_part (b := gh) rfl (by kernel_rfl) (show opAt (opsOf Try.f3 15) 15 = some (some 109, .fieldAddr 25 (.tmp 10) 0, some (14, false)) from by kernel_rfl) (by kernel_rfl) (by kernel_rfl) (by kernel_rfl) ?_
          refine run_num h (b := gh) (show opAt (opsOf Try.f3 15) 16 = some (some 110, .load 3 (.tmp 109), some (14, false)) from by kernel_rfl) (by kernel_rfl) (by kernel_rfl) (by kernel_rfl) (List.Mem.tail _ (List.Mem.head _)) ?_
          refine run_cmp (k := .i64) (p := h.n) (q := 0) (b := true) (show opAt (opsOf Try.f3 15) 17 = some (some 111, .binOp .geq 3 (.tmp 110) (.const (.int .i64 0)) 3, some (14, false)) from by kernel_rfl) (by kernel_rfl) (by kernel_rfl) (by kernel_rfl) (by kernel_rfl) (congrArg some (decide_eq_true (by omega))) ?_
          refine run_mov (v := .bool true) (show opAt (opsOf Try.f3 15) 18 = some (some 112, .move (.tmp 111), some (14, false)) from by kernel_rfl) (by kernel_rfl) (by kernel_rfl) (by kernel_rfl) ?_
          refine run_part (b := gh) rfl (by kernel_rfl) (show opAt (opsOf Try.f3 15) 19 = some (some 113, .fieldAddr 25 (.tmp 10) 0, some (18, true)) from by kernel_rfl) (by kernel_rfl) (by kernel_rfl) (by kernel_rfl) ?_
          refine run_num h (b := gh) (show opAt (opsOf Try.f3 15) 20 = some (some 114, .load 3 (.tmp 113), some (18, true)) from by kernel_rfl) (by kernel_rfl) (by kernel_rfl) (by kernel_rfl) (List.Mem.tail _ (List.Mem.head _)) ?_
          refine run_part (b := gh) rfl (by kernel_rfl) (show opAt (opsOf Try.f3 15) 21 = some (some 115, .fieldAddr 25 (.tmp 10) 1, some (18, true)) from by kernel_rfl) (by kernel_rfl) (by kernel_rfl) (by kernel_rfl) ?_
          refine run_den h (b := gh) (show opAt (opsOf Try.f3 15) 22 = some (some 116, .load 3 (.tmp 115), some (18, true)) from by kernel_rfl) (by kernel_rfl) (by kernel_rfl) (by kernel_rfl) (List.Mem.tail _ (List.Mem.head _)) ?_
          refine run_cmp (k := .i64) (p := h.n) (q := h.d) (b := true) (show opAt (opsOf Try.f3 15) 23 = some (some 117, .binOp .lss 3 (.tmp 114) (.tmp 116) 3, some (18, true)) from by kernel_rfl) (by kernel_rfl) (by kernel_rfl) (by kernel_rfl) (by kernel_rfl) (congrArg some (decide_eq_true (by omega))) ?_
          refine run_pick (b := true) (v := .bool true) (show opAt (opsOf Try.f3 15) 24 = some (some 118, .pick (.tmp 112) (.tmp 117) (.const (.bool false)), some (14, false)) from by kernel_rfl) (by kernel_rfl) (by kernel_rfl) (by kernel_rfl) (by kernel_rfl) ?_
          refine run_pick (b := false) (v := .bool true) (show opAt (opsOf Try.f3 15) 25 = some (some 119, .pick (.tmp 108) (.const (.bool true)) (.tmp 118), some (10, true)) from by kernel_rfl) (by kernel_rfl) (by kernel_rfl) (by kernel_rfl) (by kernel_rfl) ?_
          refine run_pick (b := true) (v := .bool true) (show opAt (opsOf Try.f3 15) 26 = some (some 120, .pick (.tmp 104) (.tmp 119) (.const (.bool false)), none) from by kernel_rfl) (by kernel_rfl) (by kernel_rfl) (by kernel_rfl) (by kernel_rfl) ?_
          refine run_mov (v := .bool true) (show opAt (opsOf Try.f3 15) 27 = some (some 121, .move (.tmp 120), none) from by kernel_rfl) (by kernel_rfl) (by kernel_rfl) (by kernel_rfl) ?_
          refine run_part (b := gk) rfl (by kernel_rfl) (show opAt (opsOf Try.f3 15) 28 = some (some 122, .fieldAddr 25 (.tmp 11) 1, some (27, true)) from by kernel_rfl) (by kernel_rfl) (by kernel_rfl) (by kernel_rfl) ?_
          refine run_den k (b := gk) (show opAt (opsOf Try.f3 15) 29 = some (some 123, .load 3 (.tmp 122), some (27, true)) from by kernel_rfl) (by kernel_rfl) (by kernel_rfl) (by kernel_rfl) (List.Mem.head _) ?_
          rcases KK.out with kz | ⟨kz, k0, k1⟩
          · clear KK
            refine run_cmp (k := .i64) (p := k.d) (q := 0) (b := true) (show opAt (opsOf Try.f3 15) 30 = some (some 124, .binOp .eql 3 (.tmp 123) (.const (.int .i64 0)) 3, some (27, true)) from by kernel_rfl) (by kernel_rfl) (by kernel_rfl) (by kernel_rfl) (by kernel_rfl) (congrArg some (beq_iff_eq.2 kz)) ?_
            refine run_mov (v := .bool true) (show opAt (opsOf Try.f3 15) 31 = some (some 125, .move (.tmp 124), some (27, true)) from by kernel_rfl) (by kernel_rfl) (by kernel_rfl) (by kernel_rfl) ?_
            refine run_skip (show opAt (opsOf Try.f3 15) 32 = some (some 126, .fieldAddr 25 (.tmp 11) 0, some (31, false)) from by kernel_rfl) (by kernel_rfl) (by kernel_rfl) ?_
            refine run_skip (show opAt (opsOf Try.f3 15) 33 = some (some 127, .load 3 (.tmp 126), some (31, false)) from by kernel_rfl) (by kernel_rfl) (by kernel_rfl) ?_
            refine run_skip (show opAt (opsOf Try.f3 15) 34 = some (some 128, .binOp .mul 3 (.const (.int .i64 2)) (.tmp 127) 3, some (31, false)) from by kernel_rfl) (by kernel_rfl) (by kernel_rfl) ?_
            refine run_skip (show opAt (opsOf Try.f3 15) 35 = some (some 129, .fieldAddr 25 (.tmp 11) 1, some (31, false)) from by kernel_rfl) (by kernel_rfl) (by kernel_rfl) ?_
            refine run_skip (show opAt (opsOf Try.f3 15) 36 = some (some 130, .load 3 (.tmp 129), some (31, false)) from by kernel_rfl) (by kernel_rfl) (by kernel_rfl) ?_
            refine run_skip (show opAt (opsOf Try.f3 15) 37 = some (some 131, .unOp .neg 3 (.tmp 130), some (31, false)) from by kernel_rfl) (by kernel_rfl) (by kernel_rfl) ?_
            refine run_skip (show opAt (opsOf Try.f3 15) 38 = some (some 132, .binOp .geq 3 (.tmp 128) (.tmp 131) 3, some (31, false)) from by kernel_rfl) (by kernel_rfl) (by kernel_rfl) ?_
            refine run_skip (show opAt (opsOf Try.f3 15) 39 = some (some 133, .move (.tmp 132), some (31, false)) from by kernel_rfl) (by kernel_rfl) (by kernel_rfl) ?_
            refine run_skip (show opAt (opsOf Try.f3 15) 40 = some (some 134, .fieldAddr 25 (.tmp 11) 0, some (39, true)) from by kernel_rfl) (by kernel_rfl) (by kernel_rfl) ?_
            refine run_skip (show opAt (opsOf Try.f3 15) 41 = some (some 135, .load 3 (.tmp 134), some (39, true)) from by kernel_rfl) (by kernel_rfl) (by kernel_rfl) ?_
            refine run_skip (show opAt (opsOf Try.f3 15) 42 = some (some 136, .binOp .mul 3 (.const (.int .i64 2)) (.tmp 135) 3, some (39, true)) from by kernel_rfl) (by kernel_rfl) (by kernel_rfl) ?_
            refine run_skip (show opAt (opsOf Try.f3 15) 43 = some (some 137, .fieldAddr 25 (.tmp 11) 1, some (39, true)) from by kernel_rfl) (by kernel_rfl) (by kernel_rfl) ?_
            refine run_skip (show opAt (opsOf Try.f3 15) 44 = some (some 138, .load 3 (.tmp 137), some (39, true)) from by kernel_rfl) (by kernel_rfl) (by kernel_rfl) ?_
            refine run_skip (show opAt (opsOf Try.f3 15) 45 = some (some 139, .binOp .lss 3 (.tmp 136) (.tmp 138) 3, some (39, true)) from by kernel_rfl) (by kernel_rfl) (by kernel_rfl) ?_
            refine run_skip (show opAt (opsOf Try.f3 15) 46 = some (some 140, .pick (.tmp 133) (.tmp 139) (.const (.bool false)), some (31, false)) from by kernel_rfl) (by kernel_rfl) (by kernel_rfl) ?_
            refine run_pick (b := true) (v := .bool true) (show opAt (opsOf Try.f3 15) 47 = some (some 141, .pick (.tmp 125) (.const (.bool true)) (.tmp 140), some (27, true)) from by kernel_rfl) (by kernel_rfl) (by kernel_rfl) (by kernel_rfl) (by kernel_rfl) ?_
            refine run_pick (b := true) (v := .bool true) (show opAt (opsOf Try.f3 15) 48 = some (some 142, .pick (.tmp 121) (.tmp 141) (.const (.bool false)), none) from by kernel_rfl) (by kernel_rfl) (by kernel_rfl) (by kernel_rfl) (by kernel_rfl) ?_
            refine run_asg (v := .bool true) (show opAt (opsOf Try.f3 15) 49 = some (some 2, .assign (.tmp 142), none) from by kernel_rfl) (by kernel_rfl) (by kernel_rfl) (by kernel_rfl) ?_
            refine run_done ?_
            simp only [putAll, Act.put, List.setIfInBounds_toArray, List.set_cons_zero, List.set_cons_succ]
            go_wp2
            go_ret
            exact ⟨rfl, H.out.1⟩
          · clear KK
            refine run_cmp (k := .i64) (p := k.d) (q := 0) (b := false) (show opAt (opsOf Try.f3 15) 30 = some (some 124, .binOp .eql 3 (.tmp 123) (.const (.int .i64 0)) 3, some (27, true)) from by kernel_rfl) (by kernel_rfl) (by kernel_rfl) (by kernel_rfl) (by kernel_rfl) (congrArg some (beq_eq_false_iff_ne.2 kz)) ?_
            refine run_mov (v := .bool false) (show opAt (opsOf Try.f3 15) 31 = some (some 125, .move (.tmp 124), some (27, true)) from by kernel_rfl) (by kernel_rfl) (by kernel_rfl) (by kernel_rfl) ?_
            refine run_part (b := gk) rfl (by kernel_rfl) (show opAt (opsOf Try.f3 15) 32 = some (some 126, .fieldAddr 25 (.tmp 11) 0, some (31, false)) from by kernel_rfl) (by kernel_rfl) (by kernel_rfl) (by kernel_rfl) ?_
            refine run_num k (b := gk) (show opAt (opsOf Try.f3 15) 33 = some (some 127, .load 3 (.tmp 126), some (31, false)) from by kernel_rfl) (by kernel_rfl) (by kernel_rfl) (by kernel_rfl) (List.Mem.head _) ?_
            refine run_mul (k := .i64) (p := 2) (q := k.n) (z := 2 * k.n) (show opAt (opsOf Try.f3 15) 34 = some (some 128, .binOp .mul 3 (.const (.int .i64 2)) (.tmp 127) 3, some (31, false)) from by kernel_rfl) (by kernel_rfl) (by kernel_rfl) (by kernel_rfl) (by kernel_rfl) wr1 ?_
            refine run_part (b := gk) rfl (by kernel_rfl) (show opAt (opsOf Try.f3 15) 35 = some (some 129, .fieldAddr 25 (.tmp 11) 1, some (31, false)) from by kernel_rfl) (by kernel_rfl) (by kernel_rfl) (by kernel_rfl) ?_
            refine run_den k (b := gk) (show opAt (opsOf Try.f3 15) 36 = some (some 130, .load 3 (.tmp 129), some (31, false)) from by kernel_rfl) (by kernel_rfl) (by kernel_rfl) (by kernel_rfl) (List.Mem.head _) ?_
            refine run_neg (k := .i64) (p := k.d) (z := -k.d) (show opAt (opsOf Try.f3 15) 37 = some (some 131, .unOp .neg 3 (.tmp 130), some (31, false)) from by kernel_rfl) (by kernel_rfl) (by kernel_rfl) (by kernel_rfl) wr2 ?_
            refine run_cmp (k := .i64) (p := 2 * k.n) (q := -k.d) (b := true) (show opAt (opsOf Try.f3 15) 38 = some (some 132, .binOp .geq 3 (.tmp 128) (.tmp 131) 3, some (31, false)) from by kernel_rfl) (by kernel_rfl) (by kernel_rfl) (by kernel_rfl) (by kernel_rfl) (congrArg some (decide_eq_true (by omega))) ?_
            refine run_mov (v := .bool true) (show opAt (opsOf Try.f3 15) 39 = some (some 133, .move (.tmp 132), some (31, false)) from by kernel_rfl) (by kernel_rfl) (by kernel_rfl) (by kernel_rfl) ?_
            refine run_part (b := gk) rfl (by kernel_rfl) (show opAt (opsOf Try.f3 15) 40 = some (some 134, .fieldAddr 25 (.tmp 11) 0, some (39, true)) from by kernel_rfl) (by kernel_rfl) (by kernel_rfl) (by kernel_rfl) ?_
            refine run_num k (b := gk) (show opAt (opsOf Try.f3 15) 41 = some (some 135, .load 3 (.tmp 134), some (39, true)) from by kernel_rfl) (by kernel_rfl) (by kernel_rfl) (by kernel_rfl) (List.Mem.head _) ?_
            refine run_mul (k := .i64) (p := 2) (q := k.n) (z := 2 * k.n) (show opAt (opsOf Try.f3 15) 42 = some (some 136, .binOp .mul 3 (.const (.int .i64 2)) (.tmp 135) 3, some (39, true)) from by kernel_rfl) (by kernel_rfl) (by kernel_rfl) (by kernel_rfl) (by kernel_rfl) wr1 ?_
            refine run_part (b := gk) rfl (by kernel_rfl) (show opAt (opsOf Try.f3 15) 43 = some (some 137, .fieldAddr 25 (.tmp 11) 1, some (39, true)) from by kernel_rfl) (by kernel_rfl) (by kernel_rfl) (by kernel_rfl) ?_
            refine run_den k (b := gk) (show opAt (opsOf Try.f3 15) 44 = some (some 138, .load 3 (.tmp 137), some (39, true)) from by kernel_rfl) (by kernel_rfl) (by kernel_rfl) (by kernel_rfl) (List.Mem.head _) ?_
            refine run_cmp (k := .i64) (p := 2 * k.n) (q := k.d) (b := true) (show opAt (opsOf Try.f3 15) 45 = some (some 139, .binOp .lss 3 (.tmp 136) (.tmp 138) 3, some (39, true)) from by kernel_rfl) (by kernel_rfl) (by kernel_rfl) (by kernel_rfl) (by kernel_rfl) (congrArg some (decide_eq_true (by omega))) ?_
            refine run_pick (b := true) (v := .bool true) (show opAt (opsOf Try.f3 15) 46 = some (some 140, .pick (.tmp 133) (.tmp 139) (.const (.bool false)), some (31, false)) from by kernel_rfl) (by kernel_rfl) (by kernel_rfl) (by kernel_rfl) (by kernel_rfl) ?_
            refine run_pick (b := false) (v := .bool true) (show opAt (opsOf Try.f3 15) 47 = some (some 141, .pick (.tmp 125) (.const (.bool true)) (.tmp 140), some (27, true)) from by kernel_rfl) (by kernel_rfl) (by kernel_rfl) (by kernel_rfl) (by kernel_rfl) ?_
            refine run_pick (b := true) (v := .bool true) (show opAt (opsOf Try.f3 15) 48 = some (some 142, .pick (.tmp 121) (.tmp 141) (.const (.bool false)), none) from by kernel_rfl) (by kernel_rfl) (by kernel_rfl) (by kernel_rfl) (by kernel_rfl) ?_
            refine run_asg (v := .bool true) (show opAt (opsOf Try.f3 15) 49 = some (some 2, .assign (.tmp 142), none) from by kernel_rfl) (by kernel_rfl) (by kernel_rfl) (by kernel_rfl) ?_
            refine run_done ?_
            simp only [putAll, Act.put, List.setIfInBounds_toArray, List.set_cons_zero, List.set_cons_succ]
            go_wp2
            go_ret
            exact ⟨rfl, H.out.1⟩

set_option maxRecDepth 100000 in
theorem lifted (os : Os) (started : os.Started) (H : Type) (enc : TypeId × Value → H) :
    ReturnsInHanded {} Try.checked os 3 .any (Rows.fnDivisionSpec.pre6 enc Try.prog Try.f3 Rows.fnDivisionRow.domain false) (Rows.fnDivisionSpec.post enc Try.prog Try.f3 false true false false) := by
  refine returnsInHanded_of_change (C := Try.checked) own started (by kernel_rfl) Try.func3
    (ChangeSpec.witness6 (enc := enc) (C := Try.checked) false ⟨#[], #[.slice none 0 0], []⟩ 8 (by kernel_rfl) (by kernel_rfl) (by kernel_rfl) (by kernel_rfl)) ?_
  intro W base args ds gs before hval0 hW hcnd _
  have hval : ∀ (j : Nat) t v, Try.f3.params[j]? = some t → args[j]? = some v → Value.okWide Try.prog W .any base t v := hval0
  have hW' := hW
  obtain ⟨p, q, hA0, hV, rfl, hfz, hnd⟩ := hW
  have hA : DataW.TrodAll enc Try.prog W 0 (fun _ => true) true Try.f3.params.toList args.toList ds p := hA0
  rw [Try.params3] at hA hval
  obtain ⟨v0, vs0, d0, ds0, p0, q0, hargs0, rfl, rfl, h0, r0⟩ := trodAll_cons hA
  obtain ⟨hnil, rfl, rfl⟩ := trodAll_nil r0
  have eargs : args.toList = [v0] := by rw [hargs0, hnil]
  obtain rfl : args = #[v0] := Array.toList_inj.1 eargs
  obtain ⟨rfl, rfl⟩ := trodVars_none hV
  have k0 := h0
  have lt0 : ∀ x ∈ p0, x.block < W.heap.size := by obtain ⟨m, hm⟩ := k0; exact DataW.trod_lt m _ _ _ hm
  clear hA0 eargs hargs0
  obtain ⟨a0, n0, cap0, rfl⟩ := okWide_slice Try.underlying22 (hval 0 22 v0 rfl rfl)
  have hs0 : CodeAt W.heap.size W a0 n0 := by
    obtain ⟨fuel, hf⟩ := h0
    exact bytes_inF hf
  clear hval0
  refine (walk a0 n0 cap0 W hs0).mono fun e W' ⟨he, bel⟩ => ?_
  subst he
  have kp0 := Below.trod laidOut (show Try.prog.readableRec 22 = true by kernel_rfl) (of_decide_eq_true (by kernel_rfl)) k0 bel lt0
  exact ⟨_, rfl, _, _, _, [], _, [], hW', trodAll_mk1 (shut_bool Try.underlying4 _), (trodAll_cons_mk kp0 trodAll_mk0), rfl, bel.frame _, fun h => by cases h⟩

theorem over : Rows.fnDivisionRow.holds Try.pinned (OpenSpec.ofChange Rows.fnDivisionSpec) :=
  OpenClaim.holds_of_wide 3 Try.f3 rfl rfl rfl rfl rfl rfl rfl ⟨rfl, rfl, rfl, rfl, rfl⟩ rfl rfl rfl rfl rfl (by kernel_rfl) Try.func3 (by kernel_rfl)
    (of_decide_eq_true (by kernel_rfl)) (by unfold Func.isWrapper; first | (rw [if_pos (by decide +kernel)]; kernel_rfl) | (rw [if_neg (by decide +kernel)]; exact ⟨rfl, rfl⟩))
    (fun os started H enc _ => lifted os started H enc)

theorem proved : Rows.FnDivisionSaid := over
end Go.Proofs.Ytmglolpiekbnpaa.fnDivision
