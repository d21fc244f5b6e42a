/- Called with any arguments (slices of bytes), the law FnNumbers returns true and leaves everything as it was. No condition. -/
import Derived.Test.YtjbddpcfbmjjpaaRows
import Derived.Test.YtjbddpcfbmjjpaaNumLaws
import Derived.Test.YtjbddpcfbmjjpaaNumImpl4
import Derived.Test.YtjbddpcfbmjjpaaNumSpec
import Derived.Test.YtjbddpcfbmjjpaaNumSpecSub
import Derived.Test.YtjbddpcfbmjjpaaDrawNum
import Derived.Test.YtjbddpcfbmjjpaaFresh
import Derived.Test.YtjbddpcfbmjjpaaHeld
import Derived.Deep.RegionHeld3
import Derived.Deep.RegionWith
import Derived.Deep.DeepCutAuto
import Derived.WalkKit
import Derived.ProofKit
import Derived.OpenShut
import Derived.ShutString
import Derived.ChangeOld
import Derived.Carry
import Derived.Below
namespace Go.Proofs.Ytjbddpcfbmjjpaa.fnNumbers
open Go.ChangeShapes Go.WideShapes Go.ChangeAt Go.RowKit
open Go.ChangeMaps (open_string shut_string)
set_option linter.unusedVariables false

theorem laidOut : laidOutB Try.prog = true := by kernel_rfl
theorem own : ownKnob Try.prog.godebug = none := by kernel_rfl

theorem split2 {a b : It} (h : a.d ≠ 0 → b.d ≠ 0 → a = b) : ((a.d == 0) = true) ∨ ((a.d == 0) = false ∧ (b.d == 0) = true) ∨ ((a.d == 0) = false ∧ (b.d == 0) = false ∧ a = b) := by
  by_cases h1 : a.d = 0
  · left; simp [h1]
  · by_cases h2 : b.d = 0
    · right; left; simp [h1, h2]
    · right; right; exact ⟨by simp [h1], by simp [h2], h h1 h2⟩
theorem split1 {a x : It} (h : a.d ≠ 0 → a = x) : ((a.d == 0) = true) ∨ ((a.d == 0) = false ∧ a = x) := by
  by_cases h1 : a.d = 0
  · left; simp [h1]
  · right; exact ⟨by simp [h1], h h1⟩
set_option maxHeartbeats 16000000 in
set_option maxRecDepth 100000 in
theorem walk (a0 : Option Addr) (n0 cap0 : Nat) (w : World) (hs0 : CodeAt w.heap.size w a0 n0) :
    Calls Try.prog 3 #[.slice a0 n0 cap0] w fun e w' => e = .returned (.bool true) ∧ Below w.heap.size w w' := by
  have S := Lib.hid hs0
  clear hs0
  by_cases hbig : 1048576 < (n0 : Int)
  · clear S
    go_enter Try.func3, Try.ntmps3
    go_wp2_with fail
    refine (bigCode a0 n0 cap0 w).mono ?_
    rintro e w' ⟨rfl, rfl⟩
    go_wp2
    go_ret
    exact ⟨rfl, Below.refl _ _⟩
  · have hn : n0 ≤ 1048576 := by omega
    go_enter Try.func3, Try.ntmps3
    go_wp2_with fail
    refine (bigCode a0 n0 cap0 w).mono ?_
    rintro e w' ⟨rfl, rfl⟩
    go_wp2_with fail
    refine (drawAddNumbers a0 n0 cap0 w S.out hn).mono ?_
    rintro e w1 ⟨⟨x, y, rfl, hx, hy⟩, hb⟩
    have B1 := Lib.hid hb
    have xS : Hid (x.t.size ≤ 9223372036854775807) := Lib.hid (by have := hx.2.2; omega)
    have yS : Hid (y.t.size ≤ 9223372036854775807) := Lib.hid (by have := hy.2.2; omega)
    have H2 := Lib.hid (held_pair (x := x) (y := y) hb)
    clear hb hx hy
    go_wp2_with fail
    refine (freshAny 11 (by omega) (by omega) a0 n0 cap0 _ ((S.out.below H2.out.1).mono H2.out.1.size) hn).mono ?_
    rintro e w2 ⟨⟨a', n', cap', rfl, hn', hc⟩, hb⟩
    have H3 := Lib.hid (held_call H2.out hb)
    have S3 := Lib.hid hc
    clear hb hc
    go_wp2_with fail
    refine (drawNegateNumber a' n' cap' w2 S3.out (by omega)).mono ?_
    rintro e w3 ⟨⟨z, rfl, hz⟩, hb⟩
    have zS : Hid (z.t.size ≤ 9223372036854775807) := Lib.hid (by have := hz.2.2; omega)
    have H4 := Lib.hid (held_new (z := z) (held_call H3.out hb))
    clear hb hz
    obtain ⟨p, hp⟩ : ∃ o_ : It, addI x y = o_ := ⟨_, rfl⟩
    obtain ⟨m, hm⟩ : ∃ o_ : It, mulI x y = o_ := ⟨_, rfl⟩
    obtain ⟨s, hs⟩ : ∃ o_ : It, subI x y = o_ := ⟨_, rfl⟩
    obtain ⟨r, hr⟩ : ∃ o_ : It, subI y x = o_ := ⟨_, rfl⟩
    obtain ⟨yz, hyz⟩ : ∃ o_ : It, addI y z = o_ := ⟨_, rfl⟩
    obtain ⟨xz, hxz⟩ : ∃ o_ : It, mulI x z = o_ := ⟨_, rfl⟩
    obtain ⟨q, hq⟩ : ∃ o_ : It, divI x y = o_ := ⟨_, rfl⟩
    obtain ⟨i, hi⟩ : ∃ o_ : It, negI x = o_ := ⟨_, rfl⟩
    obtain ⟨a, ha⟩ : ∃ o_ : It, addI p z = o_ := ⟨_, rfl⟩
    obtain ⟨b, hb⟩ : ∃ o_ : It, addI x yz = o_ := ⟨_, rfl⟩
    obtain ⟨c, hc⟩ : ∃ o_ : It, mulI x yz = o_ := ⟨_, rfl⟩
    obtain ⟨d, hd⟩ : ∃ o_ : It, addI m xz = o_ := ⟨_, rfl⟩
    obtain ⟨e1, he1⟩ : ∃ o_ : It, mulI q y = o_ := ⟨_, rfl⟩
    obtain ⟨n, hn_⟩ : ∃ o_ : It, negI i = o_ := ⟨_, rfl⟩
    have hp' : addI y x = p := by rw [← hp]; exact addI_comm y x
    have hm' : mulI y x = m := by rw [← hm]; exact mulI_comm y x
    have hs' : negI r = s := by rw [← hr, ← hs]; exact (sub_anti x y).symm
    have pS : Hid (p.t.size ≤ 9223372036854775807) := Lib.hid (by rw [← hp, addI_t]; decide)
    have mS : Hid (m.t.size ≤ 9223372036854775807) := Lib.hid (by rw [← hm, mulI_t]; decide)
    have yzS : Hid (yz.t.size ≤ 9223372036854775807) := Lib.hid (by rw [← hyz, addI_t]; decide)
    have xzS : Hid (xz.t.size ≤ 9223372036854775807) := Lib.hid (by rw [← hxz, mulI_t]; decide)
    have qS : Hid (q.t.size ≤ 9223372036854775807) := Lib.hid (by rw [← hq, divI_t]; decide)
    have iS : Hid (i.t.size ≤ 9223372036854775807) := Lib.hid (by rw [← hi, negI_t]; decide)
    have rS : Hid (r.t.size ≤ 9223372036854775807) := Lib.hid (by rw [← hr]; show (addI _ _).t.size ≤ _; rw [addI_t]; decide)
    have F1 := Lib.hid (show a.d ≠ 0 → b.d ≠ 0 → a = b by rw [← ha, ← hb, ← hp, ← hyz]; exact fun h k => add_assocI h k)
    have F2 := Lib.hid (show c.d ≠ 0 → d.d ≠ 0 → c = d by rw [← hc, ← hd, ← hm, ← hxz, ← hyz]; exact fun h k => distribI h k)
    have F3 := Lib.hid (show e1.d ≠ 0 → e1 = x by rw [← he1, ← hq]; exact fun h => mul_div h)
    have F4 := Lib.hid (show n.d ≠ 0 → n = x by rw [← hn_, ← hi]; exact fun h => neg_neg h)
    have KA := Lib.hid (split2 F1.out)
    have KC := Lib.hid (split2 F2.out)
    have KE := Lib.hid (split1 F3.out)
    have KN := Lib.hid (split1 F4.out)
    clear F1 F2 F3 F4
    have CP : Hid (∀ W, Calls Try.prog 18 #[.agg #[.int .i64 x.n, .int .i64 x.d, .string x.t], .agg #[.int .i64 y.n, .int .i64 y.d, .string y.t]] W fun e w' => e = .returned (.agg #[.int .i64 p.n, .int .i64 p.d, .string p.t]) ∧ Below W.heap.size W w') := Lib.hid (fun W => hp ▸ implAdd x y W xS.out yS.out)
    have DP : Hid (∀ W, Calls Try.prog 19 #[.agg #[.int .i64 y.n, .int .i64 y.d, .string y.t], .agg #[.int .i64 x.n, .int .i64 x.d, .string x.t]] W fun e w' => e = .returned (.agg #[.int .i64 p.n, .int .i64 p.d, .string p.t]) ∧ Below W.heap.size W w') := Lib.hid (fun W => hp' ▸ specAdd y x W yS.out xS.out)
    have EP : Hid (∀ W, Calls Try.prog 19 #[.agg #[.int .i64 x.n, .int .i64 x.d, .string x.t], .agg #[.int .i64 y.n, .int .i64 y.d, .string y.t]] W fun e w' => e = .returned (.agg #[.int .i64 p.n, .int .i64 p.d, .string p.t]) ∧ Below W.heap.size W w') := Lib.hid (fun W => hp ▸ specAdd x y W xS.out yS.out)
    have CM : Hid (∀ W, Calls Try.prog 20 #[.agg #[.int .i64 x.n, .int .i64 x.d, .string x.t], .agg #[.int .i64 y.n, .int .i64 y.d, .string y.t]] W fun e w' => e = .returned (.agg #[.int .i64 m.n, .int .i64 m.d, .string m.t]) ∧ Below W.heap.size W w') := Lib.hid (fun W => hm ▸ implMul x y W xS.out yS.out)
    have DM : Hid (∀ W, Calls Try.prog 21 #[.agg #[.int .i64 y.n, .int .i64 y.d, .string y.t], .agg #[.int .i64 x.n, .int .i64 x.d, .string x.t]] W fun e w' => e = .returned (.agg #[.int .i64 m.n, .int .i64 m.d, .string m.t]) ∧ Below W.heap.size W w') := Lib.hid (fun W => hm' ▸ specMul y x W yS.out xS.out)
    have EM : Hid (∀ W, Calls Try.prog 21 #[.agg #[.int .i64 x.n, .int .i64 x.d, .string x.t], .agg #[.int .i64 y.n, .int .i64 y.d, .string y.t]] W fun e w' => e = .returned (.agg #[.int .i64 m.n, .int .i64 m.d, .string m.t]) ∧ Below W.heap.size W w') := Lib.hid (fun W => hm ▸ specMul x y W xS.out yS.out)
    have CS : Hid (∀ W, Calls Try.prog 22 #[.agg #[.int .i64 x.n, .int .i64 x.d, .string x.t], .agg #[.int .i64 y.n, .int .i64 y.d, .string y.t]] W fun e w' => e = .returned (.agg #[.int .i64 s.n, .int .i64 s.d, .string s.t]) ∧ Below W.heap.size W w') := Lib.hid (fun W => hs ▸ implSub x y W xS.out yS.out)
    have DS : Hid (∀ W, Calls Try.prog 24 #[.agg #[.int .i64 y.n, .int .i64 y.d, .string y.t], .agg #[.int .i64 x.n, .int .i64 x.d, .string x.t]] W fun e w' => e = .returned (.agg #[.int .i64 r.n, .int .i64 r.d, .string r.t]) ∧ Below W.heap.size W w') := Lib.hid (fun W => hr ▸ specSub y x W yS.out xS.out)
    have NS : Hid (∀ W, Calls Try.prog 23 #[.agg #[.int .i64 r.n, .int .i64 r.d, .string r.t]] W fun e w' => e = .returned (.agg #[.int .i64 s.n, .int .i64 s.d, .string s.t]) ∧ Below W.heap.size W w') := Lib.hid (fun W => hs' ▸ specNeg r W rS.out)
    have CA : Hid (∀ W, Calls Try.prog 18 #[.agg #[.int .i64 p.n, .int .i64 p.d, .string p.t], .agg #[.int .i64 z.n, .int .i64 z.d, .string z.t]] W fun e w' => e = .returned (.agg #[.int .i64 a.n, .int .i64 a.d, .string a.t]) ∧ Below W.heap.size W w') := Lib.hid (fun W => ha ▸ implAdd p z W pS.out zS.out)
    have DY : Hid (∀ W, Calls Try.prog 19 #[.agg #[.int .i64 y.n, .int .i64 y.d, .string y.t], .agg #[.int .i64 z.n, .int .i64 z.d, .string z.t]] W fun e w' => e = .returned (.agg #[.int .i64 yz.n, .int .i64 yz.d, .string yz.t]) ∧ Below W.heap.size W w') := Lib.hid (fun W => hyz ▸ specAdd y z W yS.out zS.out)
    have CB : Hid (∀ W, Calls Try.prog 18 #[.agg #[.int .i64 x.n, .int .i64 x.d, .string x.t], .agg #[.int .i64 yz.n, .int .i64 yz.d, .string yz.t]] W fun e w' => e = .returned (.agg #[.int .i64 b.n, .int .i64 b.d, .string b.t]) ∧ Below W.heap.size W w') := Lib.hid (fun W => hb ▸ implAdd x yz W xS.out yzS.out)
    have CC : Hid (∀ W, Calls Try.prog 20 #[.agg #[.int .i64 x.n, .int .i64 x.d, .string x.t], .agg #[.int .i64 yz.n, .int .i64 yz.d, .string yz.t]] W fun e w' => e = .returned (.agg #[.int .i64 c.n, .int .i64 c.d, .string c.t]) ∧ Below W.heap.size W w') := Lib.hid (fun W => hc ▸ implMul x yz W xS.out yzS.out)
    have EX : Hid (∀ W, Calls Try.prog 21 #[.agg #[.int .i64 x.n, .int .i64 x.d, .string x.t], .agg #[.int .i64 z.n, .int .i64 z.d, .string z.t]] W fun e w' => e = .returned (.agg #[.int .i64 xz.n, .int .i64 xz.d, .string xz.t]) ∧ Below W.heap.size W w') := Lib.hid (fun W => hxz ▸ specMul x z W xS.out zS.out)
    have CD : Hid (∀ W, Calls Try.prog 18 #[.agg #[.int .i64 m.n, .int .i64 m.d, .string m.t], .agg #[.int .i64 xz.n, .int .i64 xz.d, .string xz.t]] W fun e w' => e = .returned (.agg #[.int .i64 d.n, .int .i64 d.d, .string d.t]) ∧ Below W.heap.size W w') := Lib.hid (fun W => hd ▸ implAdd m xz W mS.out xzS.out)
    have CQ : Hid (∀ W, Calls Try.prog 25 #[.agg #[.int .i64 x.n, .int .i64 x.d, .string x.t], .agg #[.int .i64 y.n, .int .i64 y.d, .string y.t]] W fun e w' => e = .returned (.agg #[.int .i64 q.n, .int .i64 q.d, .string q.t]) ∧ Below W.heap.size W w') := Lib.hid (fun W => hq ▸ specDiv x y W xS.out yS.out)
    have CE : Hid (∀ W, Calls Try.prog 20 #[.agg #[.int .i64 q.n, .int .i64 q.d, .string q.t], .agg #[.int .i64 y.n, .int .i64 y.d, .string y.t]] W fun e w' => e = .returned (.agg #[.int .i64 e1.n, .int .i64 e1.d, .string e1.t]) ∧ Below W.heap.size W w') := Lib.hid (fun W => he1 ▸ implMul q y W qS.out yS.out)
    have NI : Hid (∀ W, Calls Try.prog 26 #[.agg #[.int .i64 x.n, .int .i64 x.d, .string x.t]] W fun e w' => e = .returned (.agg #[.int .i64 i.n, .int .i64 i.d, .string i.t]) ∧ Below W.heap.size W w') := Lib.hid (fun W => hi ▸ implNeg x W xS.out)
    have NN : Hid (∀ W, Calls Try.prog 26 #[.agg #[.int .i64 i.n, .int .i64 i.d, .string i.t]] W fun e w' => e = .returned (.agg #[.int .i64 n.n, .int .i64 n.d, .string n.t]) ∧ Below W.heap.size W w') := Lib.hid (fun W => hn_ ▸ implNeg i W iS.out)
    clear hp hm hs hr hyz hxz hq hi ha hb hc hd he1 hn_ hp' hm' hs'
    go_wp2_with fail
    obtain ⟨W4, hW4⟩ : ∃ W, w3.alloc (.cells #[.int .i64 z.n, .int .i64 z.d, .string z.t] 25) = W := ⟨_, rfl⟩
    rw [hW4] at H4 ⊢
    have hsz : W4.heap.size = w3.heap.size + 1 := by rw [← hW4]; simp
    clear hW4 H2 H3
    obtain ⟨gy, hgy⟩ : ∃ g, w1.heap.size + 1 = g := ⟨_, rfl⟩
    simp only [hgy] at H4 ⊢
    obtain ⟨gx, hgx⟩ : ∃ g, w1.heap.size = g := ⟨_, rfl⟩
    simp only [hgx] at H4 ⊢
    obtain ⟨gz, hgz⟩ : ∃ g, w3.heap.size = g := ⟨_, rfl⟩
    simp only [hgz] at H4 ⊢
    clear hgx hgy hgz hsz B1 S S3
    have H := H4
    clear H4
    have BS := Lib.hid (Below.refl W4.heap.size W4)
    have hs0 := H.out.1.size
    go_region_held3 (fun w' => w'.cell? ⟨gx, 0, none⟩ = some (.int .i64 x.n) ∧ w'.cell? ⟨gx, 1, none⟩ = some (.int .i64 x.d) ∧ w'.cell? ⟨gx, 2, none⟩ = some (.string x.t) ∧ w'.cell? ⟨gy, 0, none⟩ = some (.int .i64 y.n) ∧ w'.cell? ⟨gy, 1, none⟩ = some (.int .i64 y.d) ∧ w'.cell? ⟨gy, 2, none⟩ = some (.string y.t) ∧ w'.cell? ⟨gz, 0, none⟩ = some (.int .i64 z.n) ∧ w'.cell? ⟨gz, 1, none⟩ = some (.int .i64 z.d) ∧ w'.cell? ⟨gz, 2, none⟩ = some (.string z.t)) (first | with_reducible exact (cat3 (held3 (x := x) H.out (by simp)) (cat3 (held3 (x := y) H.out (by simp)) (held3 (x := z) H.out (by simp)))) | with_reducible exact (cat3 (held3 (x := x) (held_drew H.out) (by simp)) (cat3 (held3 (x := y) (held_drew H.out) (by simp)) (held3 (x := z) (held_drew H.out) (by simp)))) | with_reducible exact (cat3 (held3 (x := x) (held_alloc H.out _) (by simp)) (cat3 (held3 (x := y) (held_alloc H.out _) (by simp)) (held3 (x := z) (held_alloc H.out _) (by simp)))) | with_reducible exact (cat3 (held3 (x := x) (held_drew (held_alloc H.out _)) (by simp)) (cat3 (held3 (x := y) (held_drew (held_alloc H.out _)) (by simp)) (held3 (x := z) (held_drew (held_alloc H.out _)) (by simp)))) | with_reducible exact (cat3 (held3 (x := x) (held_alloc (held_drew H.out) _) (by simp)) (cat3 (held3 (x := y) (held_alloc (held_drew H.out) _) (by simp)) (held3 (x := z) (held_alloc (held_drew H.out) _) (by simp)))) | exact (cat3 (held3 (x := x) (held_far H.out HB.out (by omega) (by omega)) (by simp)) (cat3 (held3 (x := y) (held_far H.out HB.out (by omega) (by omega)) (by simp)) (held3 (x := z) (held_far H.out HB.out (by omega) (by omega)) (by simp)))) | exact (cat3 (held3 (x := x) (held_drew (held_far H.out HB.out (by omega) (by omega))) (by simp)) (cat3 (held3 (x := y) (held_drew (held_far H.out HB.out (by omega) (by omega))) (by simp)) (held3 (x := z) (held_drew (held_far H.out HB.out (by omega) (by omega))) (by simp))))) (first
          | (go_at_call 18; refine (CP.out _).mono ?_; rintro e v1 ⟨rfl, hb⟩; have H := Lib.hid (held_step H.out (by first | with_reducible exact .same | with_reducible exact .drew | with_reducible exact .alloc _ | with_reducible exact .both _ | with_reducible exact .swap _) hb); have BS := Lib.hid (below_step BS.out (by first | with_reducible exact .same | with_reducible exact .drew | with_reducible exact .alloc _ | with_reducible exact .both _ | with_reducible exact .swap _) hb BS.out.size); have hs := BS.out.size; clear hb)
          | (go_at_call 19; refine (DP.out _).mono ?_; rintro e v2 ⟨rfl, hb⟩; have H := Lib.hid (held_step H.out (by first | with_reducible exact .same | with_reducible exact .drew | with_reducible exact .alloc _ | with_reducible exact .both _ | with_reducible exact .swap _) hb); have BS := Lib.hid (below_step BS.out (by first | with_reducible exact .same | with_reducible exact .drew | with_reducible exact .alloc _ | with_reducible exact .both _ | with_reducible exact .swap _) hb BS.out.size); have hs := BS.out.size; clear hb)
          | (go_at_call 20; refine (CM.out _).mono ?_; rintro e v3 ⟨rfl, hb⟩; have H := Lib.hid (held_step H.out (by first | with_reducible exact .same | with_reducible exact .drew | with_reducible exact .alloc _ | with_reducible exact .both _ | with_reducible exact .swap _) hb); have BS := Lib.hid (below_step BS.out (by first | with_reducible exact .same | with_reducible exact .drew | with_reducible exact .alloc _ | with_reducible exact .both _ | with_reducible exact .swap _) hb BS.out.size); have hs := BS.out.size; clear hb)
          | (go_at_call 21; refine (DM.out _).mono ?_; rintro e v4 ⟨rfl, hb⟩; have H := Lib.hid (held_step H.out (by first | with_reducible exact .same | with_reducible exact .drew | with_reducible exact .alloc _ | with_reducible exact .both _ | with_reducible exact .swap _) hb); have BS := Lib.hid (below_step BS.out (by first | with_reducible exact .same | with_reducible exact .drew | with_reducible exact .alloc _ | with_reducible exact .both _ | with_reducible exact .swap _) hb BS.out.size); have hs := BS.out.size; clear hb)
          | (go_at_call 22; refine (CS.out _).mono ?_; rintro e v5 ⟨rfl, hb⟩; have H := Lib.hid (held_step H.out (by first | with_reducible exact .same | with_reducible exact .drew | with_reducible exact .alloc _ | with_reducible exact .both _ | with_reducible exact .swap _) hb); have BS := Lib.hid (below_step BS.out (by first | with_reducible exact .same | with_reducible exact .drew | with_reducible exact .alloc _ | with_reducible exact .both _ | with_reducible exact .swap _) hb BS.out.size); have hs := BS.out.size; clear hb)
          | (go_at_call 24; refine (DS.out _).mono ?_; rintro e v6 ⟨rfl, hb⟩; have H := Lib.hid (held_step H.out (by first | with_reducible exact .same | with_reducible exact .drew | with_reducible exact .alloc _ | with_reducible exact .both _ | with_reducible exact .swap _) hb); have BS := Lib.hid (below_step BS.out (by first | with_reducible exact .same | with_reducible exact .drew | with_reducible exact .alloc _ | with_reducible exact .both _ | with_reducible exact .swap _) hb BS.out.size); have hs := BS.out.size; clear hb)
          | (go_at_call 23; refine (NS.out _).mono ?_; rintro e v7 ⟨rfl, hb⟩; have H := Lib.hid (held_step H.out (by first | with_reducible exact .same | with_reducible exact .drew | with_reducible exact .alloc _ | with_reducible exact .both _ | with_reducible exact .swap _) hb); have BS := Lib.hid (below_step BS.out (by first | with_reducible exact .same | with_reducible exact .drew | with_reducible exact .alloc _ | with_reducible exact .both _ | with_reducible exact .swap _) hb BS.out.size); have hs := BS.out.size; clear hb))
    clear BS hs hs0
    go_wp2_with fail
    have HB := Lib.hid (held_lt H.out)
    have hs0 := H.out.1.size
    go_wp2_with fail
    go_cut [6] (fun sv wx => ∃ g : Nat, sv = .pointer (some ⟨g, 0, none⟩) ∧ Held w wx ((g, a) :: [(gz, z), (gy, y), (gx, x)]))
    case first =>
      have BS := Lib.hid (Below.refl v7.heap.size v7)
      go_region_held3 (fun w' => w'.cell? ⟨gx, 0, none⟩ = some (.int .i64 x.n) ∧ w'.cell? ⟨gx, 1, none⟩ = some (.int .i64 x.d) ∧ w'.cell? ⟨gx, 2, none⟩ = some (.string x.t) ∧ w'.cell? ⟨gy, 0, none⟩ = some (.int .i64 y.n) ∧ w'.cell? ⟨gy, 1, none⟩ = some (.int .i64 y.d) ∧ w'.cell? ⟨gy, 2, none⟩ = some (.string y.t) ∧ w'.cell? ⟨gz, 0, none⟩ = some (.int .i64 z.n) ∧ w'.cell? ⟨gz, 1, none⟩ = some (.int .i64 z.d) ∧ w'.cell? ⟨gz, 2, none⟩ = some (.string z.t)) (first | with_reducible exact (cat3 (held3 (x := x) H.out (by simp)) (cat3 (held3 (x := y) H.out (by simp)) (held3 (x := z) H.out (by simp)))) | with_reducible exact (cat3 (held3 (x := x) (held_drew H.out) (by simp)) (cat3 (held3 (x := y) (held_drew H.out) (by simp)) (held3 (x := z) (held_drew H.out) (by simp)))) | with_reducible exact (cat3 (held3 (x := x) (held_alloc H.out _) (by simp)) (cat3 (held3 (x := y) (held_alloc H.out _) (by simp)) (held3 (x := z) (held_alloc H.out _) (by simp)))) | with_reducible exact (cat3 (held3 (x := x) (held_drew (held_alloc H.out _)) (by simp)) (cat3 (held3 (x := y) (held_drew (held_alloc H.out _)) (by simp)) (held3 (x := z) (held_drew (held_alloc H.out _)) (by simp)))) | with_reducible exact (cat3 (held3 (x := x) (held_alloc (held_drew H.out) _) (by simp)) (cat3 (held3 (x := y) (held_alloc (held_drew H.out) _) (by simp)) (held3 (x := z) (held_alloc (held_drew H.out) _) (by simp)))) | exact (cat3 (held3 (x := x) (held_far H.out HB.out (by omega) (by omega)) (by simp)) (cat3 (held3 (x := y) (held_far H.out HB.out (by omega) (by omega)) (by simp)) (held3 (x := z) (held_far H.out HB.out (by omega) (by omega)) (by simp)))) | exact (cat3 (held3 (x := x) (held_drew (held_far H.out HB.out (by omega) (by omega))) (by simp)) (cat3 (held3 (x := y) (held_drew (held_far H.out HB.out (by omega) (by omega))) (by simp)) (held3 (x := z) (held_drew (held_far H.out HB.out (by omega) (by omega))) (by simp))))) (first
          | (go_at_call 19; refine (EP.out _).mono ?_; rintro e r1 ⟨rfl, hb⟩; (first | have G := Lib.hid (blk_below (g := v7.heap.size) hb (blk_new _ _ (by simp))) | have G := Lib.hid (blk_below (g := v7.heap.size) hb (blk_drew (blk_new _ _ (by simp)))) | skip); have H := Lib.hid (held_step H.out (by first | with_reducible exact .same | with_reducible exact .drew | with_reducible exact .alloc _ | with_reducible exact .both _ | with_reducible exact .swap _) hb); have BS := Lib.hid (below_step BS.out (by first | with_reducible exact .same | with_reducible exact .drew | with_reducible exact .alloc _ | with_reducible exact .both _ | with_reducible exact .swap _) hb BS.out.size); have hs := BS.out.size; clear hb)
          | (go_at_call 18; refine (CA.out _).mono ?_; rintro e r2 ⟨rfl, hb⟩; (first | have G := Lib.hid (blk_below hb G.out) | have G := Lib.hid (blk_below hb (blk_drew G.out)) | have G := Lib.hid (blk_below (g := r1.heap.size) hb (blk_new _ _ (by simp))) | have G := Lib.hid (blk_below (g := r1.heap.size) hb (blk_drew (blk_new _ _ (by simp)))) | skip); have H := Lib.hid (held_step H.out (by first | with_reducible exact .same | with_reducible exact .drew | with_reducible exact .alloc _ | with_reducible exact .both _ | with_reducible exact .swap _) hb); have BS := Lib.hid (below_step BS.out (by first | with_reducible exact .same | with_reducible exact .drew | with_reducible exact .alloc _ | with_reducible exact .both _ | with_reducible exact .swap _) hb BS.out.size); have hs := BS.out.size; clear hb; (first | (have G6 := three G.out; obtain ⟨⟨c0, c1, c2⟩, f0, f1, f2⟩ := G6) | skip)))
      all_goals (go_wp2_with fail; go_meet; first | exact ⟨_, rfl, held_set H.out G.out HB.out (by omega) (by omega)⟩ | exact ⟨_, rfl, held_new H.out⟩)
    case rest =>
      obtain ⟨u1, rfl⟩ : ∃ u : World, u = wc := ⟨_, rfl⟩
      obtain ⟨ga, rfl, hA⟩ := hcut
      have H := Lib.hid hA
      clear hA HB hs0
      go_wp2_with fail
      have HB := Lib.hid (held_lt H.out)
      have hs0 := H.out.1.size
      go_wp2_with fail
      go_cut [7] (fun sv wx => ∃ g : Nat, sv = .pointer (some ⟨g, 0, none⟩) ∧ Held w wx ((g, b) :: (ga, a) :: [(gz, z), (gy, y), (gx, x)]))
      case first =>
        have BS := Lib.hid (Below.refl u1.heap.size u1)
        go_region_held3 (fun w' => w'.cell? ⟨gx, 0, none⟩ = some (.int .i64 x.n) ∧ w'.cell? ⟨gx, 1, none⟩ = some (.int .i64 x.d) ∧ w'.cell? ⟨gx, 2, none⟩ = some (.string x.t) ∧ w'.cell? ⟨gy, 0, none⟩ = some (.int .i64 y.n) ∧ w'.cell? ⟨gy, 1, none⟩ = some (.int .i64 y.d) ∧ w'.cell? ⟨gy, 2, none⟩ = some (.string y.t) ∧ w'.cell? ⟨gz, 0, none⟩ = some (.int .i64 z.n) ∧ w'.cell? ⟨gz, 1, none⟩ = some (.int .i64 z.d) ∧ w'.cell? ⟨gz, 2, none⟩ = some (.string z.t)) (first | with_reducible exact (cat3 (held3 (x := x) H.out (by simp)) (cat3 (held3 (x := y) H.out (by simp)) (held3 (x := z) H.out (by simp)))) | with_reducible exact (cat3 (held3 (x := x) (held_drew H.out) (by simp)) (cat3 (held3 (x := y) (held_drew H.out) (by simp)) (held3 (x := z) (held_drew H.out) (by simp)))) | with_reducible exact (cat3 (held3 (x := x) (held_alloc H.out _) (by simp)) (cat3 (held3 (x := y) (held_alloc H.out _) (by simp)) (held3 (x := z) (held_alloc H.out _) (by simp)))) | with_reducible exact (cat3 (held3 (x := x) (held_drew (held_alloc H.out _)) (by simp)) (cat3 (held3 (x := y) (held_drew (held_alloc H.out _)) (by simp)) (held3 (x := z) (held_drew (held_alloc H.out _)) (by simp)))) | with_reducible exact (cat3 (held3 (x := x) (held_alloc (held_drew H.out) _) (by simp)) (cat3 (held3 (x := y) (held_alloc (held_drew H.out) _) (by simp)) (held3 (x := z) (held_alloc (held_drew H.out) _) (by simp)))) | exact (cat3 (held3 (x := x) (held_far H.out HB.out (by omega) (by omega)) (by simp)) (cat3 (held3 (x := y) (held_far H.out HB.out (by omega) (by omega)) (by simp)) (held3 (x := z) (held_far H.out HB.out (by omega) (by omega)) (by simp)))) | exact (cat3 (held3 (x := x) (held_drew (held_far H.out HB.out (by omega) (by omega))) (by simp)) (cat3 (held3 (x := y) (held_drew (held_far H.out HB.out (by omega) (by omega))) (by simp)) (held3 (x := z) (held_drew (held_far H.out HB.out (by omega) (by omega))) (by simp))))) (first
            | (go_at_call 19; refine (DY.out _).mono ?_; rintro e r1 ⟨rfl, hb⟩; (first | have G := Lib.hid (blk_below (g := u1.heap.size) hb (blk_new _ _ (by simp))) | have G := Lib.hid (blk_below (g := u1.heap.size) hb (blk_drew (blk_new _ _ (by simp)))) | skip); have H := Lib.hid (held_step H.out (by first | with_reducible exact .same | with_reducible exact .drew | with_reducible exact .alloc _ | with_reducible exact .both _ | with_reducible exact .swap _) hb); have BS := Lib.hid (below_step BS.out (by first | with_reducible exact .same | with_reducible exact .drew | with_reducible exact .alloc _ | with_reducible exact .both _ | with_reducible exact .swap _) hb BS.out.size); have hs := BS.out.size; clear hb)
            | (go_at_call 18; refine (CB.out _).mono ?_; rintro e r2 ⟨rfl, hb⟩; (first | have G := Lib.hid (blk_below hb G.out) | have G := Lib.hid (blk_below hb (blk_drew G.out)) | have G := Lib.hid (blk_below (g := r1.heap.size) hb (blk_new _ _ (by simp))) | have G := Lib.hid (blk_below (g := r1.heap.size) hb (blk_drew (blk_new _ _ (by simp)))) | skip); have H := Lib.hid (held_step H.out (by first | with_reducible exact .same | with_reducible exact .drew | with_reducible exact .alloc _ | with_reducible exact .both _ | with_reducible exact .swap _) hb); have BS := Lib.hid (below_step BS.out (by first | with_reducible exact .same | with_reducible exact .drew | with_reducible exact .alloc _ | with_reducible exact .both _ | with_reducible exact .swap _) hb BS.out.size); have hs := BS.out.size; clear hb; (first | (have G6 := three G.out; obtain ⟨⟨c0, c1, c2⟩, f0, f1, f2⟩ := G6) | skip)))
        all_goals (go_wp2_with fail; go_meet; first | exact ⟨_, rfl, held_set H.out G.out HB.out (by omega) (by omega)⟩ | exact ⟨_, rfl, held_new H.out⟩)
      case rest =>
        obtain ⟨u2, rfl⟩ : ∃ u : World, u = wc := ⟨_, rfl⟩
        obtain ⟨gb, rfl, hA⟩ := hcut
        have H := Lib.hid hA
        clear hA HB hs0
        go_wp2_with fail
        have HB := Lib.hid (held_lt H.out)
        have hs0 := H.out.1.size
        go_wp2_with fail
        go_cut [8] (fun sv wx => ∃ g : Nat, sv = .pointer (some ⟨g, 0, none⟩) ∧ Held w wx ((g, c) :: (gb, b) :: (ga, a) :: [(gz, z), (gy, y), (gx, x)]))
        case first =>
          have BS := Lib.hid (Below.refl u2.heap.size u2)
          go_region_held3 (fun w' => w'.cell? ⟨gx, 0, none⟩ = some (.int .i64 x.n) ∧ w'.cell? ⟨gx, 1, none⟩ = some (.int .i64 x.d) ∧ w'.cell? ⟨gx, 2, none⟩ = some (.string x.t) ∧ w'.cell? ⟨gy, 0, none⟩ = some (.int .i64 y.n) ∧ w'.cell? ⟨gy, 1, none⟩ = some (.int .i64 y.d) ∧ w'.cell? ⟨gy, 2, none⟩ = some (.string y.t) ∧ w'.cell? ⟨gz, 0, none⟩ = some (.int .i64 z.n) ∧ w'.cell? ⟨gz, 1, none⟩ = some (.int .i64 z.d) ∧ w'.cell? ⟨gz, 2, none⟩ = some (.string z.t)) (first | with_reducible exact (cat3 (held3 (x := x) H.out (by simp)) (cat3 (held3 (x := y) H.out (by simp)) (held3 (x := z) H.out (by simp)))) | with_reducible exact (cat3 (held3 (x := x) (held_drew H.out) (by simp)) (cat3 (held3 (x := y) (held_drew H.out) (by simp)) (held3 (x := z) (held_drew H.out) (by simp)))) | with_reducible exact (cat3 (held3 (x := x) (held_alloc H.out _) (by simp)) (cat3 (held3 (x := y) (held_alloc H.out _) (by simp)) (held3 (x := z) (held_alloc H.out _) (by simp)))) | with_reducible exact (cat3 (held3 (x := x) (held_drew (held_alloc H.out _)) (by simp)) (cat3 (held3 (x := y) (held_drew (held_alloc H.out _)) (by simp)) (held3 (x := z) (held_drew (held_alloc H.out _)) (by simp)))) | with_reducible exact (cat3 (held3 (x := x) (held_alloc (held_drew H.out) _) (by simp)) (cat3 (held3 (x := y) (held_alloc (held_drew H.out) _) (by simp)) (held3 (x := z) (held_alloc (held_drew H.out) _) (by simp)))) | exact (cat3 (held3 (x := x) (held_far H.out HB.out (by omega) (by omega)) (by simp)) (cat3 (held3 (x := y) (held_far H.out HB.out (by omega) (by omega)) (by simp)) (held3 (x := z) (held_far H.out HB.out (by omega) (by omega)) (by simp)))) | exact (cat3 (held3 (x := x) (held_drew (held_far H.out HB.out (by omega) (by omega))) (by simp)) (cat3 (held3 (x := y) (held_drew (held_far H.out HB.out (by omega) (by omega))) (by simp)) (held3 (x := z) (held_drew (held_far H.out HB.out (by omega) (by omega))) (by simp))))) (first
              | (go_at_call 19; refine (DY.out _).mono ?_; rintro e r1 ⟨rfl, hb⟩; (first | have G := Lib.hid (blk_below (g := u2.heap.size) hb (blk_new _ _ (by simp))) | have G := Lib.hid (blk_below (g := u2.heap.size) hb (blk_drew (blk_new _ _ (by simp)))) | skip); have H := Lib.hid (held_step H.out (by first | with_reducible exact .same | with_reducible exact .drew | with_reducible exact .alloc _ | with_reducible exact .both _ | with_reducible exact .swap _) hb); have BS := Lib.hid (below_step BS.out (by first | with_reducible exact .same | with_reducible exact .drew | with_reducible exact .alloc _ | with_reducible exact .both _ | with_reducible exact .swap _) hb BS.out.size); have hs := BS.out.size; clear hb)
              | (go_at_call 20; refine (CC.out _).mono ?_; rintro e r2 ⟨rfl, hb⟩; (first | have G := Lib.hid (blk_below hb G.out) | have G := Lib.hid (blk_below hb (blk_drew G.out)) | have G := Lib.hid (blk_below (g := r1.heap.size) hb (blk_new _ _ (by simp))) | have G := Lib.hid (blk_below (g := r1.heap.size) hb (blk_drew (blk_new _ _ (by simp)))) | skip); have H := Lib.hid (held_step H.out (by first | with_reducible exact .same | with_reducible exact .drew | with_reducible exact .alloc _ | with_reducible exact .both _ | with_reducible exact .swap _) hb); have BS := Lib.hid (below_step BS.out (by first | with_reducible exact .same | with_reducible exact .drew | with_reducible exact .alloc _ | with_reducible exact .both _ | with_reducible exact .swap _) hb BS.out.size); have hs := BS.out.size; clear hb; (first | (have G6 := three G.out; obtain ⟨⟨c0, c1, c2⟩, f0, f1, f2⟩ := G6) | skip)))
          all_goals (go_wp2_with fail; go_meet; first | exact ⟨_, rfl, held_set H.out G.out HB.out (by omega) (by omega)⟩ | exact ⟨_, rfl, held_new H.out⟩)
        case rest =>
          obtain ⟨u3, rfl⟩ : ∃ u : World, u = wc := ⟨_, rfl⟩
          obtain ⟨gc, rfl, hA⟩ := hcut
          have H := Lib.hid hA
          clear hA HB hs0
          go_wp2_with fail
          have HB := Lib.hid (held_lt H.out)
          have hs0 := H.out.1.size
          go_wp2_with fail
          go_cut [9] (fun sv wx => ∃ g : Nat, sv = .pointer (some ⟨g, 0, none⟩) ∧ Held w wx ((g, d) :: (gc, c) :: (gb, b) :: (ga, a) :: [(gz, z), (gy, y), (gx, x)]))
          case first =>
            have BS := Lib.hid (Below.refl u3.heap.size u3)
            go_region_held3 (fun w' => w'.cell? ⟨gx, 0, none⟩ = some (.int .i64 x.n) ∧ w'.cell? ⟨gx, 1, none⟩ = some (.int .i64 x.d) ∧ w'.cell? ⟨gx, 2, none⟩ = some (.string x.t) ∧ w'.cell? ⟨gy, 0, none⟩ = some (.int .i64 y.n) ∧ w'.cell? ⟨gy, 1, none⟩ = some (.int .i64 y.d) ∧ w'.cell? ⟨gy, 2, none⟩ = some (.string y.t) ∧ w'.cell? ⟨gz, 0, none⟩ = some (.int .i64 z.n) ∧ w'.cell? ⟨gz, 1, none⟩ = some (.int .i64 z.d) ∧ w'.cell? ⟨gz, 2, none⟩ = some (.string z.t)) (first | with_reducible exact (cat3 (held3 (x := x) H.out (by simp)) (cat3 (held3 (x := y) H.out (by simp)) (held3 (x := z) H.out (by simp)))) | with_reducible exact (cat3 (held3 (x := x) (held_drew H.out) (by simp)) (cat3 (held3 (x := y) (held_drew H.out) (by simp)) (held3 (x := z) (held_drew H.out) (by simp)))) | with_reducible exact (cat3 (held3 (x := x) (held_alloc H.out _) (by simp)) (cat3 (held3 (x := y) (held_alloc H.out _) (by simp)) (held3 (x := z) (held_alloc H.out _) (by simp)))) | with_reducible exact (cat3 (held3 (x := x) (held_drew (held_alloc H.out _)) (by simp)) (cat3 (held3 (x := y) (held_drew (held_alloc H.out _)) (by simp)) (held3 (x := z) (held_drew (held_alloc H.out _)) (by simp)))) | with_reducible exact (cat3 (held3 (x := x) (held_alloc (held_drew H.out) _) (by simp)) (cat3 (held3 (x := y) (held_alloc (held_drew H.out) _) (by simp)) (held3 (x := z) (held_alloc (held_drew H.out) _) (by simp)))) | exact (cat3 (held3 (x := x) (held_far H.out HB.out (by omega) (by omega)) (by simp)) (cat3 (held3 (x := y) (held_far H.out HB.out (by omega) (by omega)) (by simp)) (held3 (x := z) (held_far H.out HB.out (by omega) (by omega)) (by simp)))) | exact (cat3 (held3 (x := x) (held_drew (held_far H.out HB.out (by omega) (by omega))) (by simp)) (cat3 (held3 (x := y) (held_drew (held_far H.out HB.out (by omega) (by omega))) (by simp)) (held3 (x := z) (held_drew (held_far H.out HB.out (by omega) (by omega))) (by simp))))) (first
                | (go_at_call_of 21 (Value.int IntKind.i64 y.n); refine (EM.out _).mono ?_; rintro e r1 ⟨rfl, hb⟩; (first | have G := Lib.hid (blk_below (g := u3.heap.size) hb (blk_new _ _ (by simp))) | have G := Lib.hid (blk_below (g := u3.heap.size) hb (blk_drew (blk_new _ _ (by simp)))) | skip); have H := Lib.hid (held_step H.out (by first | with_reducible exact .same | with_reducible exact .drew | with_reducible exact .alloc _ | with_reducible exact .both _ | with_reducible exact .swap _) hb); have BS := Lib.hid (below_step BS.out (by first | with_reducible exact .same | with_reducible exact .drew | with_reducible exact .alloc _ | with_reducible exact .both _ | with_reducible exact .swap _) hb BS.out.size); have hs := BS.out.size; clear hb)
                | (go_at_call_of 21 (Value.int IntKind.i64 z.n); refine (EX.out _).mono ?_; rintro e r2 ⟨rfl, hb⟩; (first | have G := Lib.hid (blk_below hb G.out) | have G := Lib.hid (blk_below hb (blk_drew G.out)) | have G := Lib.hid (blk_below (g := r1.heap.size) hb (blk_new _ _ (by simp))) | have G := Lib.hid (blk_below (g := r1.heap.size) hb (blk_drew (blk_new _ _ (by simp)))) | skip); have H := Lib.hid (held_step H.out (by first | with_reducible exact .same | with_reducible exact .drew | with_reducible exact .alloc _ | with_reducible exact .both _ | with_reducible exact .swap _) hb); have BS := Lib.hid (below_step BS.out (by first | with_reducible exact .same | with_reducible exact .drew | with_reducible exact .alloc _ | with_reducible exact .both _ | with_reducible exact .swap _) hb BS.out.size); have hs := BS.out.size; clear hb)
                | (go_at_call 18; refine (CD.out _).mono ?_; rintro e r3 ⟨rfl, hb⟩; (first | have G := Lib.hid (blk_below hb G.out) | have G := Lib.hid (blk_below hb (blk_drew G.out)) | have G := Lib.hid (blk_below (g := r2.heap.size) hb (blk_new _ _ (by simp))) | have G := Lib.hid (blk_below (g := r2.heap.size) hb (blk_drew (blk_new _ _ (by simp)))) | skip); have H := Lib.hid (held_step H.out (by first | with_reducible exact .same | with_reducible exact .drew | with_reducible exact .alloc _ | with_reducible exact .both _ | with_reducible exact .swap _) hb); have BS := Lib.hid (below_step BS.out (by first | with_reducible exact .same | with_reducible exact .drew | with_reducible exact .alloc _ | with_reducible exact .both _ | with_reducible exact .swap _) hb BS.out.size); have hs := BS.out.size; clear hb; (first | (have G6 := three G.out; obtain ⟨⟨c0, c1, c2⟩, f0, f1, f2⟩ := G6) | skip)))
            all_goals (go_wp2_with fail; go_meet; first | exact ⟨_, rfl, held_set H.out G.out HB.out (by omega) (by omega)⟩ | exact ⟨_, rfl, held_new H.out⟩)
          case rest =>
            obtain ⟨u4, rfl⟩ : ∃ u : World, u = wc := ⟨_, rfl⟩
            obtain ⟨gd, rfl, hA⟩ := hcut
            have H := Lib.hid hA
            clear hA HB hs0
            go_wp2_with fail
            have HB := Lib.hid (held_lt H.out)
            have hs0 := H.out.1.size
            go_wp2_with fail
            go_cut [10] (fun sv wx => ∃ g : Nat, sv = .pointer (some ⟨g, 0, none⟩) ∧ Held w wx ((g, e1) :: (gd, d) :: (gc, c) :: (gb, b) :: (ga, a) :: [(gz, z), (gy, y), (gx, x)]))
            case first =>
              have BS := Lib.hid (Below.refl u4.heap.size u4)
              go_region_held3 (fun w' => w'.cell? ⟨gx, 0, none⟩ = some (.int .i64 x.n) ∧ w'.cell? ⟨gx, 1, none⟩ = some (.int .i64 x.d) ∧ w'.cell? ⟨gx, 2, none⟩ = some (.string x.t) ∧ w'.cell? ⟨gy, 0, none⟩ = some (.int .i64 y.n) ∧ w'.cell? ⟨gy, 1, none⟩ = some (.int .i64 y.d) ∧ w'.cell? ⟨gy, 2, none⟩ = some (.string y.t) ∧ w'.cell? ⟨gz, 0, none⟩ = some (.int .i64 z.n) ∧ w'.cell? ⟨gz, 1, none⟩ = some (.int .i64 z.d) ∧ w'.cell? ⟨gz, 2, none⟩ = some (.string z.t)) (first | with_reducible exact (cat3 (held3 (x := x) H.out (by simp)) (cat3 (held3 (x := y) H.out (by simp)) (held3 (x := z) H.out (by simp)))) | with_reducible exact (cat3 (held3 (x := x) (held_drew H.out) (by simp)) (cat3 (held3 (x := y) (held_drew H.out) (by simp)) (held3 (x := z) (held_drew H.out) (by simp)))) | with_reducible exact (cat3 (held3 (x := x) (held_alloc H.out _) (by simp)) (cat3 (held3 (x := y) (held_alloc H.out _) (by simp)) (held3 (x := z) (held_alloc H.out _) (by simp)))) | with_reducible exact (cat3 (held3 (x := x) (held_drew (held_alloc H.out _)) (by simp)) (cat3 (held3 (x := y) (held_drew (held_alloc H.out _)) (by simp)) (held3 (x := z) (held_drew (held_alloc H.out _)) (by simp)))) | with_reducible exact (cat3 (held3 (x := x) (held_alloc (held_drew H.out) _) (by simp)) (cat3 (held3 (x := y) (held_alloc (held_drew H.out) _) (by simp)) (held3 (x := z) (held_alloc (held_drew H.out) _) (by simp)))) | exact (cat3 (held3 (x := x) (held_far H.out HB.out (by omega) (by omega)) (by simp)) (cat3 (held3 (x := y) (held_far H.out HB.out (by omega) (by omega)) (by simp)) (held3 (x := z) (held_far H.out HB.out (by omega) (by omega)) (by simp)))) | exact (cat3 (held3 (x := x) (held_drew (held_far H.out HB.out (by omega) (by omega))) (by simp)) (cat3 (held3 (x := y) (held_drew (held_far H.out HB.out (by omega) (by omega))) (by simp)) (held3 (x := z) (held_drew (held_far H.out HB.out (by omega) (by omega))) (by simp))))) (first
                  | (go_at_call 25; refine (CQ.out _).mono ?_; rintro e r1 ⟨rfl, hb⟩; (first | have G := Lib.hid (blk_below (g := u4.heap.size) hb (blk_new _ _ (by simp))) | have G := Lib.hid (blk_below (g := u4.heap.size) hb (blk_drew (blk_new _ _ (by simp)))) | skip); have H := Lib.hid (held_step H.out (by first | with_reducible exact .same | with_reducible exact .drew | with_reducible exact .alloc _ | with_reducible exact .both _ | with_reducible exact .swap _) hb); have BS := Lib.hid (below_step BS.out (by first | with_reducible exact .same | with_reducible exact .drew | with_reducible exact .alloc _ | with_reducible exact .both _ | with_reducible exact .swap _) hb BS.out.size); have hs := BS.out.size; clear hb)
                  | (go_at_call 20; refine (CE.out _).mono ?_; rintro e r2 ⟨rfl, hb⟩; (first | have G := Lib.hid (blk_below hb G.out) | have G := Lib.hid (blk_below hb (blk_drew G.out)) | have G := Lib.hid (blk_below (g := r1.heap.size) hb (blk_new _ _ (by simp))) | have G := Lib.hid (blk_below (g := r1.heap.size) hb (blk_drew (blk_new _ _ (by simp)))) | skip); have H := Lib.hid (held_step H.out (by first | with_reducible exact .same | with_reducible exact .drew | with_reducible exact .alloc _ | with_reducible exact .both _ | with_reducible exact .swap _) hb); have BS := Lib.hid (below_step BS.out (by first | with_reducible exact .same | with_reducible exact .drew | with_reducible exact .alloc _ | with_reducible exact .both _ | with_reducible exact .swap _) hb BS.out.size); have hs := BS.out.size; clear hb; (first | (have G6 := three G.out; obtain ⟨⟨c0, c1, c2⟩, f0, f1, f2⟩ := G6) | skip)))
              all_goals (go_wp2_with fail; go_meet; first | exact ⟨_, rfl, held_set H.out G.out HB.out (by omega) (by omega)⟩ | exact ⟨_, rfl, held_new H.out⟩)
            case rest =>
              obtain ⟨u5, rfl⟩ : ∃ u : World, u = wc := ⟨_, rfl⟩
              obtain ⟨ge1, rfl, hA⟩ := hcut
              have H := Lib.hid hA
              clear hA HB hs0
              obtain ⟨⟨x0, x1, x2⟩, _, _, _⟩ := three (held_at (g := gx) (x := x) H.out (by simp))
              go_wp2_with fail
              refine (NI.out _).mono ?_
              rintro e v1 ⟨rfl, hb⟩
              have H6 := Lib.hid (held_call H.out hb)
              clear hb x0 x1 x2
              go_wp2_with fail
              refine (NN.out _).mono ?_
              rintro e v2 ⟨rfl, hb⟩
              have H7 := Lib.hid (held_call H6.out hb)
              clear hb H6
              have l1 : ga < v2.heap.size := held_lt H7.out (ga, a) (by simp)
              have l2 : gb < v2.heap.size := held_lt H7.out (gb, b) (by simp)
              have l3 : gc < v2.heap.size := held_lt H7.out (gc, c) (by simp)
              have l4 : gd < v2.heap.size := held_lt H7.out (gd, d) (by simp)
              have l5 : ge1 < v2.heap.size := held_lt H7.out (ge1, e1) (by simp)
              have l6 : gx < v2.heap.size := held_lt H7.out (gx, x) (by simp)
              obtain ⟨⟨k0, k1, k2⟩, _, _, _⟩ := three (held_at (g := ga) (x := a) H7.out (by simp))
              obtain ⟨⟨k3, k4, k5⟩, _, _, _⟩ := three (held_at (g := gb) (x := b) H7.out (by simp))
              obtain ⟨⟨k6, k7, k8⟩, _, _, _⟩ := three (held_at (g := gc) (x := c) H7.out (by simp))
              obtain ⟨⟨k9, j0, j1⟩, _, _, _⟩ := three (held_at (g := gd) (x := d) H7.out (by simp))
              obtain ⟨⟨j2, j3, j4⟩, _, _, _⟩ := three (held_at (g := ge1) (x := e1) H7.out (by simp))
              obtain ⟨⟨x0, x1, x2⟩, _, _, _⟩ := three (held_at (g := gx) (x := x) H7.out (by simp))
              have B7 := Lib.hid (H7.out.1.alloc H7.out.1.size (.cells #[.int .i64 n.n, .int .i64 n.d, .string n.t] 25))
              clear CP DP EP CM DM EM CS DS NS CA DY CB CC EX CD CQ CE NI NN pS mS yzS xzS qS iS rS xS yS zS H H7
              rcases KA.out with za | ⟨za, zb⟩ | ⟨za, zb, rfl⟩
              all_goals rcases KC.out with zc | ⟨zc, zd⟩ | ⟨zc, zd, rfl⟩
              all_goals rcases KE.out with ze | ⟨ze, rfl⟩
              all_goals rcases KN.out with zn | ⟨zn, rfl⟩
              all_goals
                clear KA KC KE KN
                go_wp2
                go_ret
                exact ⟨rfl, B7.out⟩

set_option maxRecDepth 100000 in
theorem lifted (os : Os) (started : os.Started) (H : Type) (enc : TypeId × Value → H) :
    ReturnsInHanded {} Try.checked os 3 .any (Rows.fnNumbersSpec.pre6 enc Try.prog Try.f3 Rows.fnNumbersRow.domain false) (Rows.fnNumbersSpec.post enc Try.prog Try.f3 false true false false) := by
  refine returnsInHanded_of_change (C := Try.checked) own started (by kernel_rfl) Try.func3
    (ChangeSpec.witness6 (enc := enc) (C := Try.checked) false ⟨#[], #[.slice none 0 0], []⟩ 8 (by kernel_rfl) (by kernel_rfl) (by kernel_rfl) (by kernel_rfl)) ?_
  intro W base args ds gs before hval0 hW hcnd _
  have hval : ∀ (j : Nat) t v, Try.f3.params[j]? = some t → args[j]? = some v → Value.okWide Try.prog W .any base t v := hval0
  have hW' := hW
  obtain ⟨p, q, hA0, hV, rfl, hfz, hnd⟩ := hW
  have hA : DataW.TrodAll enc Try.prog W 0 (fun _ => true) true Try.f3.params.toList args.toList ds p := hA0
  rw [Try.params3] at hA hval
  obtain ⟨v0, vs0, d0, ds0, p0, q0, hargs0, rfl, rfl, h0, r0⟩ := trodAll_cons hA
  obtain ⟨hnil, rfl, rfl⟩ := trodAll_nil r0
  have eargs : args.toList = [v0] := by rw [hargs0, hnil]
  obtain rfl : args = #[v0] := Array.toList_inj.1 eargs
  obtain ⟨rfl, rfl⟩ := trodVars_none hV
  have k0 := h0
  have lt0 : ∀ x ∈ p0, x.block < W.heap.size := by obtain ⟨m, hm⟩ := k0; exact DataW.trod_lt m _ _ _ hm
  clear hA0 eargs hargs0
  obtain ⟨a0, n0, cap0, rfl⟩ := okWide_slice Try.underlying22 (hval 0 22 v0 rfl rfl)
  have hs0 : CodeAt W.heap.size W a0 n0 := by
    obtain ⟨fuel, hf⟩ := h0
    exact bytes_inF hf
  clear hval0
  refine (walk a0 n0 cap0 W hs0).mono fun e W' ⟨he, bel⟩ => ?_
  subst he
  have kp0 := Below.trod laidOut (show Try.prog.readableRec 22 = true by kernel_rfl) (of_decide_eq_true (by kernel_rfl)) k0 bel lt0
  exact ⟨_, rfl, _, _, _, [], _, [], hW', trodAll_mk1 (shut_bool Try.underlying4 _), (trodAll_cons_mk kp0 trodAll_mk0), rfl, bel.frame _, fun h => by cases h⟩

theorem over : Rows.fnNumbersRow.holds Try.pinned (OpenSpec.ofChange Rows.fnNumbersSpec) :=
  OpenClaim.holds_of_wide 3 Try.f3 rfl rfl rfl rfl rfl rfl rfl ⟨rfl, rfl, rfl, rfl, rfl⟩ rfl rfl rfl rfl rfl (by kernel_rfl) Try.func3 (by kernel_rfl)
    (of_decide_eq_true (by kernel_rfl)) (by unfold Func.isWrapper; first | (rw [if_pos (by decide +kernel)]; kernel_rfl) | (rw [if_neg (by decide +kernel)]; exact ⟨rfl, rfl⟩))
    (fun os started H enc _ => lifted os started H enc)

theorem proved : Rows.FnNumbersSaid := over
end Go.Proofs.Ytjbddpcfbmjjpaa.fnNumbers
