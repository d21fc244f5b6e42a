/- Called with any arguments (slices of bytes), the law FnNumberTexts returns true and leaves everything as it was. Condition: the listed package-level variables read as the program's own initialisers lay them (the card ties them). -/
import Derived.Test.YtmglolpiekbnpaaDoorRows
import Derived.Test.YtmglolpiekbnpaaDoorCards
import Derived.Test.YtmglolpiekbnpaaDoorTie
import Derived.Test.YtmglolpiekbnpaaDoorLaid
import Derived.Test.YtmglolpiekbnpaaDoorNumTexts
import Derived.Test.YtmglolpiekbnpaaDoorNumPrs
import Derived.Test.YtmglolpiekbnpaaDoorNumPrsS
import Derived.Test.YtmglolpiekbnpaaDoorNumPow
import Derived.Test.YtmglolpiekbnpaaDoorNumPowS
import Derived.Test.YtmglolpiekbnpaaDoorNumSpec
import Derived.Test.YtmglolpiekbnpaaDoorNumSpecSub
import Derived.Test.YtmglolpiekbnpaaDoorNumCmp
import Derived.Test.YtmglolpiekbnpaaDoorDrawNum
import Derived.Test.YtmglolpiekbnpaaDoorDrawPow
import Derived.Test.YtmglolpiekbnpaaDoorFresh
import Derived.Test.YtmglolpiekbnpaaDoorHeld
import Derived.Test.YtmglolpiekbnpaaDoorReg
import Derived.Test.YtmglolpiekbnpaaDoorRegB
import Derived.Deep.RegionHeld3
import Derived.Deep.RegionWith
import Derived.Deep.DeepCutAuto
import Derived.WalkKit
import Derived.ProofKit
import Derived.OpenShut
import Derived.ShutString
import Derived.ChangeOld
import Derived.Carry
import Derived.Below
import Derived.LaidMore
import Derived.Deep.DeepHandedRow
import Derived.Stop.Joined
import Derived.SevenTiedAt
namespace Go.Proofs.YtmglolpiekbnpaaDoor.fnNumberTexts
open Go.ChangeShapes Go.WideShapes Go.ChangeAt Go.RowKit
open Go.ChangeMaps (open_string shut_string)
set_option linter.unusedVariables false

theorem laidOut : laidOutB Tryd.prog = true := by kernel_rfl
theorem own : ownKnob Tryd.prog.godebug = none := by kernel_rfl

set_option maxHeartbeats 16000000 in
set_option maxRecDepth 100000 in
theorem walk (a0 : Option Addr) (n0 cap0 : Nat) (w : World) (hs0 : CodeAt w.heap.size w a0 n0) (tab : Lib.TabIs Tryd.prog w "internal/strconv.uint64pow10" .u64 Lib.pow10Tab) (errs : (∃ tp p, w.var? Tryd.prog "strconv.ErrSyntax" = some #[.iface tp p]) ∧ (∃ tp p, w.var? Tryd.prog "strconv.ErrRange" = some #[.iface tp p])) (hsh : w.ShapedOpen Tryd.prog) :
    Calls Tryd.prog 3 #[.slice a0 n0 cap0] w fun e w' => e = .returned (.bool true) ∧ Below w.heap.size w w' := by
  have hm : MetN w := ⟨tab, errs, MaxMet.of hsh⟩
  have M := Lib.hid hm
  have S := Lib.hid hs0
  clear hs0 tab errs hsh hm
  by_cases hbig : 1048576 < (n0 : Int)
  · clear S
    go_enter Tryd.func3, Tryd.ntmps3
    go_wp2_with fail
    refine (bigCode a0 n0 cap0 w).mono ?_
    rintro e w' ⟨rfl, rfl⟩
    go_wp2
    go_ret
    exact ⟨rfl, Below.refl _ _⟩
  · have hn : n0 ≤ 1048576 := by omega
    go_enter Tryd.func3, Tryd.ntmps3
    go_wp2_with fail
    refine (bigCode a0 n0 cap0 w).mono ?_
    rintro e w' ⟨rfl, rfl⟩
    go_wp2_with fail
    refine (drawFormatNumber a0 n0 cap0 w S.out hn).mono ?_
    rintro e w1 ⟨⟨x, rfl, hx⟩, hb⟩
    have xS : x.t.size ≤ 9223372036854775807 := by have := hx.2.2; omega
    obtain ⟨s, hsx⟩ : ∃ s, txI x = s := ⟨_, rfl⟩
    have sS : s.size ≤ 1048576 := hsx ▸ txt_small x
    have RD := Lib.hid (hsx ▸ txt_read x)
    have FI : Hid (∀ W, MetN W → Calls Tryd.prog 6 #[.agg #[.int .i64 x.n, .int .i64 x.d, .string x.t]] W fun e w' => e = .returned (.string s) ∧ Below W.heap.size W w') := Lib.hid (fun W hW => hsx ▸ implTxI x.n x.d x.t W xS hW.1)
    have FS : Hid (∀ W, Calls Tryd.prog 8 #[.agg #[.int .i64 x.n, .int .i64 x.d, .string x.t]] W fun e w' => e = .returned (.string s) ∧ Below W.heap.size W w') := Lib.hid (fun W => hsx ▸ specTxI x.n x.d x.t W xS)
    obtain ⟨z, hz⟩ : ∃ z, prsI s = z := ⟨_, rfl⟩
    obtain ⟨y, is⟩ := z
    have PI : Hid (∀ W, MetN W → Calls Tryd.prog 7 #[.string s] W fun e w' => e = .returned (.tuple #[.agg #[.int .i64 y.n, .int .i64 y.d, .string y.t], .bool is]) ∧ Below W.heap.size W w') := Lib.hid (fun W hW => by have h := implPrs s W sS hW; rw [hz] at h; exact h)
    rw [hz] at RD
    have H0 : Held w w1 [] := ⟨hb, fun q hq => by cases hq⟩
    have H1 := Lib.hid (held_new (z := x) H0)
    clear hx hb hsx sS xS hz H0
    go_wp2_with fail
    refine (FI.out _ (M.out.below H1.out.1)).mono ?_
    rintro e w2 ⟨rfl, hb⟩
    have H2 := Lib.hid (held_call H1.out hb)
    clear hb H1 FI
    obtain ⟨gx, hgx⟩ : ∃ g, w1.heap.size = g := ⟨_, rfl⟩
    simp only [hgx] at H2 ⊢
    clear hgx
    go_wp2_with fail
    refine (PI.out _ (M.out.below H2.out.1)).mono ?_
    rintro e w3 ⟨rfl, hb⟩
    have H3 := Lib.hid (held_new (z := y) (held_call H2.out hb))
    clear hb H2 PI
    go_upto_region 6 with (fail)
    obtain ⟨gy, hgy⟩ : ∃ g, w3.heap.size = g := ⟨_, rfl⟩
    simp only [hgy] at H3 ⊢
    obtain ⟨W4, hW4⟩ : ∃ W, w3.alloc (.cells #[.int .i64 y.n, .int .i64 y.d, .string y.t] 25) = W := ⟨_, rfl⟩
    rw [hW4] at H3 ⊢
    clear hgy hW4
    go_cut [44] (fun sv wx => sv = .bool false ∧ Below w.heap.size w wx)
    case first =>
      rcases RD.out with ⟨se, hp⟩ | ⟨se, hp⟩
      · simp only [Prod.mk.injEq] at hp
        obtain ⟨hy, rfl⟩ := hp
        subst se
        clear hy RD
        obtain ⟨⟨kx0, kx1, kx2⟩, _, _, _⟩ := three (held_at (g := gx) (x := x) H3.out (by simp))
        go_wp2_with fail
        refine (FS.out _).mono ?_
        rintro e w4 ⟨rfl, hb⟩
        have H4 := Lib.hid (held_call H3.out hb)
        clear hb H3 kx0 kx1 kx2
        go_wp2_with fail
        go_meet
        exact ⟨rfl, H4.out.1⟩
      · simp only [Prod.mk.injEq] at hp
        obtain ⟨hy, rfl⟩ := hp
        subst hy
        have he := empty_of (t := s) (fun h => se (empty_of_size h))
        clear RD se
        obtain ⟨⟨ky0, ky1, ky2⟩, _, _, _⟩ := three (held_at (g := gx) (x := y) H3.out (by simp))
        go_wp2_with fail
        refine (FS.out _).mono ?_
        rintro e w4 ⟨rfl, hb⟩
        have H4 := Lib.hid (held_call H3.out hb)
        clear hb H3 ky0 ky1 ky2
        obtain ⟨⟨kx0, kx1, kx2⟩, _, _, _⟩ := three (held_at (g := gx) (x := y) H4.out (by simp))
        obtain ⟨⟨ky0, ky1, ky2⟩, _, _, _⟩ := three (held_at (g := gy) (x := y) H4.out (by simp))
        go_wp2_with fail
        go_meet
        exact ⟨rfl, H4.out.1⟩
    case rest =>
      obtain ⟨u0, rfl⟩ : ∃ u : World, u = wc := ⟨_, rfl⟩
      obtain ⟨rfl, hA⟩ := hcut
      have B0 := Lib.hid hA
      clear hA RD FS H3 M
      go_wp2_with fail
      refine (drawPowerOf a0 n0 cap0 _ ((S.out.below B0.out).mono B0.out.size) hn).mono ?_
      rintro e w5 ⟨⟨bb, ee, rfl, hx, hy⟩, hb⟩
      have bbS : Hid (bb.t.size ≤ 9223372036854775807) := Lib.hid (by have := hx.2.2; omega)
      have eeS : Hid (ee.t.size ≤ 9223372036854775807) := Lib.hid (by have := hy.2.2; omega)
      have H2 := Lib.hid (held_pair (x := bb) (y := ee) (below_then B0.out hb))
      clear hb hx hy B0
      obtain ⟨one, hone_⟩ : ∃ o_ : It, oneI = o_ := ⟨_, rfl⟩
      obtain ⟨pp, hpp_⟩ : ∃ o_ : It, powI bb ee = o_ := ⟨_, rfl⟩
      obtain ⟨qq, hqq_⟩ : ∃ o_ : It, mulI pp bb = o_ := ⟨_, rfl⟩
      obtain ⟨en, hen_⟩ : ∃ o_ : It, addI ee one = o_ := ⟨_, rfl⟩
      obtain ⟨rr, hrr_⟩ : ∃ o_ : It, powI bb en = o_ := ⟨_, rfl⟩
      have oneS : Hid (one.t.size ≤ 9223372036854775807) := Lib.hid (by rw [← hone_]; exact one_small)
      have ppS : Hid (pp.t.size ≤ 9223372036854775807) := Lib.hid (by rw [← hpp_]; rw [powI_t]; decide)
      have enS : Hid (en.t.size ≤ 9223372036854775807) := Lib.hid (by rw [← hen_, addI_t]; decide)
      have PW := Lib.hid (split_pow (q := qq) (r := rr) (e := ee) (by rw [← hqq_, ← hrr_, ← hpp_, ← hen_, ← hone_]; exact fun h0 h1 h2 => pow_next h0 h1 h2))
      have ON : Hid (∀ W, Calls Tryd.prog 14 #[.int .i64 1] W fun e w' => e = .returned (.agg #[.int .i64 one.n, .int .i64 one.d, .string one.t]) ∧ Below W.heap.size W w') := Lib.hid (fun W => hone_ ▸ numOne W)
      have PI : Hid (∀ W, Calls Tryd.prog 10 #[.agg #[.int .i64 bb.n, .int .i64 bb.d, .string bb.t], .agg #[.int .i64 ee.n, .int .i64 ee.d, .string ee.t]] W fun e w' => e = .returned (.agg #[.int .i64 pp.n, .int .i64 pp.d, .string pp.t]) ∧ Below W.heap.size W w') := Lib.hid (fun W => hpp_ ▸ implPow bb ee W bbS.out eeS.out)
      have PB : Hid (∀ W, Calls Tryd.prog 12 #[.agg #[.int .i64 bb.n, .int .i64 bb.d, .string bb.t], .agg #[.int .i64 ee.n, .int .i64 ee.d, .string ee.t]] W fun e w' => e = .returned (.agg #[.int .i64 pp.n, .int .i64 pp.d, .string pp.t]) ∧ Below W.heap.size W w') := Lib.hid (fun W => hpp_ ▸ specPow bb ee W bbS.out eeS.out)
      have MB : Hid (∀ W, Calls Tryd.prog 11 #[.agg #[.int .i64 pp.n, .int .i64 pp.d, .string pp.t], .agg #[.int .i64 bb.n, .int .i64 bb.d, .string bb.t]] W fun e w' => e = .returned (.agg #[.int .i64 qq.n, .int .i64 qq.d, .string qq.t]) ∧ Below W.heap.size W w') := Lib.hid (fun W => hqq_ ▸ specMul pp bb W ppS.out bbS.out)
      have AE : Hid (∀ W, Calls Tryd.prog 13 #[.agg #[.int .i64 ee.n, .int .i64 ee.d, .string ee.t], .agg #[.int .i64 one.n, .int .i64 one.d, .string one.t]] W fun e w' => e = .returned (.agg #[.int .i64 en.n, .int .i64 en.d, .string en.t]) ∧ Below W.heap.size W w') := Lib.hid (fun W => hen_ ▸ specAdd ee one W eeS.out oneS.out)
      have PE : Hid (∀ W, Calls Tryd.prog 12 #[.agg #[.int .i64 bb.n, .int .i64 bb.d, .string bb.t], .agg #[.int .i64 en.n, .int .i64 en.d, .string en.t]] W fun e w' => e = .returned (.agg #[.int .i64 rr.n, .int .i64 rr.d, .string rr.t]) ∧ Below W.heap.size W w') := Lib.hid (fun W => hrr_ ▸ specPow bb en W bbS.out enS.out)
      clear hone_ hpp_ hqq_ hen_ hrr_ bbS eeS oneS ppS enS
      go_wp2_with fail
      refine (PI.out _).mono ?_
      rintro e v1 ⟨rfl, hb⟩
      have H3 := Lib.hid (held_new (z := pp) (held_call H2.out hb))
      clear hb H2 PI
      obtain ⟨ge, hge⟩ : ∃ g, w5.heap.size + 1 = g := ⟨_, rfl⟩
      simp only [hge] at H3 ⊢
      obtain ⟨gb, hgb⟩ : ∃ g, w5.heap.size = g := ⟨_, rfl⟩
      simp only [hgb] at H3 ⊢
      clear hge hgb
      go_wp2_with fail
      obtain ⟨gp, hgp⟩ : ∃ g, v1.heap.size = g := ⟨_, rfl⟩
      simp only [hgp] at H3 ⊢
      obtain ⟨W5, hW5⟩ : ∃ W, v1.alloc (.cells #[.int .i64 pp.n, .int .i64 pp.d, .string pp.t] 25) = W := ⟨_, rfl⟩
      rw [hW5] at H3 ⊢
      clear hgp hW5
      have H := H3
      clear H3
      have HB := Lib.hid (held_lt H.out)
      have hs0 := H.out.1.size
      go_wp2_with fail
      go_cut [10] (fun sv wx => ∃ g : Nat, sv = .pointer (some ⟨g, 0, none⟩) ∧ Held w wx ((g, qq) :: [(gp, pp), (ge, ee), (gb, bb)]))
      case first =>
        have BS := Lib.hid (Below.refl W5.heap.size W5)
        go_region_held3 (fun w' => w'.cell? ⟨gb, 0, none⟩ = some (.int .i64 bb.n) ∧ w'.cell? ⟨gb, 1, none⟩ = some (.int .i64 bb.d) ∧ w'.cell? ⟨gb, 2, none⟩ = some (.string bb.t) ∧ w'.cell? ⟨ge, 0, none⟩ = some (.int .i64 ee.n) ∧ w'.cell? ⟨ge, 1, none⟩ = some (.int .i64 ee.d) ∧ w'.cell? ⟨ge, 2, none⟩ = some (.string ee.t)) (first | with_reducible exact (cat3 (held3 (x := bb) H.out (by simp)) (held3 (x := ee) H.out (by simp))) | with_reducible exact (cat3 (held3 (x := bb) (held_drew H.out) (by simp)) (held3 (x := ee) (held_drew H.out) (by simp))) | with_reducible exact (cat3 (held3 (x := bb) (held_alloc H.out _) (by simp)) (held3 (x := ee) (held_alloc H.out _) (by simp))) | with_reducible exact (cat3 (held3 (x := bb) (held_drew (held_alloc H.out _)) (by simp)) (held3 (x := ee) (held_drew (held_alloc H.out _)) (by simp))) | with_reducible exact (cat3 (held3 (x := bb) (held_alloc (held_drew H.out) _) (by simp)) (held3 (x := ee) (held_alloc (held_drew H.out) _) (by simp))) | exact (cat3 (held3 (x := bb) (held_far H.out HB.out (by omega) (by omega)) (by simp)) (held3 (x := ee) (held_far H.out HB.out (by omega) (by omega)) (by simp))) | exact (cat3 (held3 (x := bb) (held_drew (held_far H.out HB.out (by omega) (by omega))) (by simp)) (held3 (x := ee) (held_drew (held_far H.out HB.out (by omega) (by omega))) (by simp)))) (first
            | (go_at_call 12; refine (PB.out _).mono ?_; rintro e r1 ⟨rfl, hb⟩; (first | have G := Lib.hid (blk_below (g := W5.heap.size) hb (blk_new _ _ (by simp))) | have G := Lib.hid (blk_below (g := W5.heap.size) hb (blk_drew (blk_new _ _ (by simp)))) | skip); have H := Lib.hid (held_step H.out (by first | with_reducible exact .same | with_reducible exact .drew | with_reducible exact .alloc _ | with_reducible exact .both _ | with_reducible exact .swap _) hb); have BS := Lib.hid (below_step BS.out (by first | with_reducible exact .same | with_reducible exact .drew | with_reducible exact .alloc _ | with_reducible exact .both _ | with_reducible exact .swap _) hb BS.out.size); have hs := BS.out.size; clear hb)
            | (go_at_call 11; refine (MB.out _).mono ?_; rintro e r2 ⟨rfl, hb⟩; (first | have G := Lib.hid (blk_below hb G.out) | have G := Lib.hid (blk_below hb (blk_drew G.out)) | have G := Lib.hid (blk_below (g := r1.heap.size) hb (blk_new _ _ (by simp))) | have G := Lib.hid (blk_below (g := r1.heap.size) hb (blk_drew (blk_new _ _ (by simp)))) | skip); have H := Lib.hid (held_step H.out (by first | with_reducible exact .same | with_reducible exact .drew | with_reducible exact .alloc _ | with_reducible exact .both _ | with_reducible exact .swap _) hb); have BS := Lib.hid (below_step BS.out (by first | with_reducible exact .same | with_reducible exact .drew | with_reducible exact .alloc _ | with_reducible exact .both _ | with_reducible exact .swap _) hb BS.out.size); have hs := BS.out.size; clear hb; (first | (have G6 := three G.out; obtain ⟨⟨c0, c1, c2⟩, f0, f1, f2⟩ := G6) | skip)))
        all_goals (go_wp2_with fail; go_meet; first | exact ⟨_, rfl, held_set H.out G.out HB.out (by omega) (by omega)⟩ | exact ⟨_, rfl, held_new H.out⟩)
      case rest =>
        obtain ⟨u1, rfl⟩ : ∃ u : World, u = wc := ⟨_, rfl⟩
        obtain ⟨gqq, rfl, hA⟩ := hcut
        have H := Lib.hid hA
        clear hA HB hs0
        have HB := Lib.hid (held_lt H.out)
        have hs0 := H.out.1.size
        go_wp2_with fail
        go_cut [11] (fun sv wx => ∃ g : Nat, sv = .pointer (some ⟨g, 0, none⟩) ∧ Held w wx ((g, rr) :: (gqq, qq) :: [(gp, pp), (ge, ee), (gb, bb)]))
        case first =>
          have BS := Lib.hid (Below.refl u1.heap.size u1)
          go_region_held3 (fun w' => w'.cell? ⟨gb, 0, none⟩ = some (.int .i64 bb.n) ∧ w'.cell? ⟨gb, 1, none⟩ = some (.int .i64 bb.d) ∧ w'.cell? ⟨gb, 2, none⟩ = some (.string bb.t) ∧ w'.cell? ⟨ge, 0, none⟩ = some (.int .i64 ee.n) ∧ w'.cell? ⟨ge, 1, none⟩ = some (.int .i64 ee.d) ∧ w'.cell? ⟨ge, 2, none⟩ = some (.string ee.t)) (first | with_reducible exact (cat3 (held3 (x := bb) H.out (by simp)) (held3 (x := ee) H.out (by simp))) | with_reducible exact (cat3 (held3 (x := bb) (held_drew H.out) (by simp)) (held3 (x := ee) (held_drew H.out) (by simp))) | with_reducible exact (cat3 (held3 (x := bb) (held_alloc H.out _) (by simp)) (held3 (x := ee) (held_alloc H.out _) (by simp))) | with_reducible exact (cat3 (held3 (x := bb) (held_drew (held_alloc H.out _)) (by simp)) (held3 (x := ee) (held_drew (held_alloc H.out _)) (by simp))) | with_reducible exact (cat3 (held3 (x := bb) (held_alloc (held_drew H.out) _) (by simp)) (held3 (x := ee) (held_alloc (held_drew H.out) _) (by simp))) | exact (cat3 (held3 (x := bb) (held_far H.out HB.out (by omega) (by omega)) (by simp)) (held3 (x := ee) (held_far H.out HB.out (by omega) (by omega)) (by simp))) | exact (cat3 (held3 (x := bb) (held_drew (held_far H.out HB.out (by omega) (by omega))) (by simp)) (held3 (x := ee) (held_drew (held_far H.out HB.out (by omega) (by omega))) (by simp)))) (first
              | (go_at_call 14; refine (ON.out _).mono ?_; rintro e r1 ⟨rfl, hb⟩; (first | have G := Lib.hid (blk_below (g := u1.heap.size) hb (blk_new _ _ (by simp))) | have G := Lib.hid (blk_below (g := u1.heap.size) hb (blk_drew (blk_new _ _ (by simp)))) | skip); have H := Lib.hid (held_step H.out (by first | with_reducible exact .same | with_reducible exact .drew | with_reducible exact .alloc _ | with_reducible exact .both _ | with_reducible exact .swap _) hb); have BS := Lib.hid (below_step BS.out (by first | with_reducible exact .same | with_reducible exact .drew | with_reducible exact .alloc _ | with_reducible exact .both _ | with_reducible exact .swap _) hb BS.out.size); have hs := BS.out.size; clear hb)
              | (go_at_call 13; refine (AE.out _).mono ?_; rintro e r2 ⟨rfl, hb⟩; (first | have G := Lib.hid (blk_below hb G.out) | have G := Lib.hid (blk_below hb (blk_drew G.out)) | have G := Lib.hid (blk_below (g := r1.heap.size) hb (blk_new _ _ (by simp))) | have G := Lib.hid (blk_below (g := r1.heap.size) hb (blk_drew (blk_new _ _ (by simp)))) | skip); have H := Lib.hid (held_step H.out (by first | with_reducible exact .same | with_reducible exact .drew | with_reducible exact .alloc _ | with_reducible exact .both _ | with_reducible exact .swap _) hb); have BS := Lib.hid (below_step BS.out (by first | with_reducible exact .same | with_reducible exact .drew | with_reducible exact .alloc _ | with_reducible exact .both _ | with_reducible exact .swap _) hb BS.out.size); have hs := BS.out.size; clear hb)
              | (go_at_call 12; refine (PE.out _).mono ?_; rintro e r3 ⟨rfl, hb⟩; (first | have G := Lib.hid (blk_below hb G.out) | have G := Lib.hid (blk_below hb (blk_drew G.out)) | have G := Lib.hid (blk_below (g := r2.heap.size) hb (blk_new _ _ (by simp))) | have G := Lib.hid (blk_below (g := r2.heap.size) hb (blk_drew (blk_new _ _ (by simp)))) | skip); have H := Lib.hid (held_step H.out (by first | with_reducible exact .same | with_reducible exact .drew | with_reducible exact .alloc _ | with_reducible exact .both _ | with_reducible exact .swap _) hb); have BS := Lib.hid (below_step BS.out (by first | with_reducible exact .same | with_reducible exact .drew | with_reducible exact .alloc _ | with_reducible exact .both _ | with_reducible exact .swap _) hb BS.out.size); have hs := BS.out.size; clear hb; (first | (have G6 := three G.out; obtain ⟨⟨c0, c1, c2⟩, f0, f1, f2⟩ := G6) | skip)))
          all_goals (go_wp2_with fail; go_meet; first | exact ⟨_, rfl, held_set H.out G.out HB.out (by omega) (by omega)⟩ | exact ⟨_, rfl, held_new H.out⟩)
        case rest =>
          obtain ⟨u2, rfl⟩ : ∃ u : World, u = wc := ⟨_, rfl⟩
          obtain ⟨grr, rfl, hA⟩ := hcut
          have H := Lib.hid hA
          clear hA HB hs0
          clear ON MB AE PE
          go_wp2_with fail
          refine (drawCompareNumbers a0 n0 cap0 _ ((S.out.below H.out.1).mono H.out.1.size) hn).mono ?_
          rintro e w6 ⟨⟨uu, vv, rfl, hx, hy⟩, hb⟩
          have uuS : uu.t.size ≤ 9223372036854775807 := by have := hx.2.2; omega
          have vvS : vv.t.size ≤ 9223372036854775807 := by have := hy.2.2; omega
          obtain ⟨cc, hcc⟩ : ∃ o_ : Int, cmpI uu vv = o_ := ⟨_, rfl⟩
          obtain ⟨dd, hdd⟩ : ∃ o_ : Int, cmpI vv uu = o_ := ⟨_, rfl⟩
          have CI : Hid (∀ W, Calls Tryd.prog 16 #[.agg #[.int .i64 uu.n, .int .i64 uu.d, .string uu.t], .agg #[.int .i64 vv.n, .int .i64 vv.d, .string vv.t]] W fun e w' => e = .returned (.int .i64 cc) ∧ Below W.heap.size W w') := Lib.hid (fun W => hcc ▸ implCmp uu vv W uuS vvS)
          have CS : Hid (∀ W, Calls Tryd.prog 17 #[.agg #[.int .i64 vv.n, .int .i64 vv.d, .string vv.t], .agg #[.int .i64 uu.n, .int .i64 uu.d, .string uu.t]] W fun e w' => e = .returned (.int .i64 dd) ∧ Below W.heap.size W w') := Lib.hid (fun W => hdd ▸ specCmp vv uu W vvS uuS)
          have CM := Lib.hid (split_cmp (c := cc) (d := dd) (by rw [← hcc, ← hdd]; exact cmp_anti uu vv))
          have wd : IntKind.i64.wrap (0 - dd) = -dd := by rw [Int.zero_sub]; exact IntWalk.i64_in _ (by have := cmp_in vv uu; rw [hdd] at this; omega)
          have H6 := Lib.hid (held_two (x := uu) (y := vv) (held_call H.out hb))
          have WD := Lib.hid wd
          clear hb hx hy hcc hdd uuS vvS H S wd
          go_wp2_with fail
          refine (CI.out _).mono ?_
          rintro e w7 ⟨rfl, hb⟩
          have H7 := Lib.hid (held_call H6.out hb)
          clear hb H6 CI
          obtain ⟨gv, hgv⟩ : ∃ g, w6.heap.size + 1 = g := ⟨_, rfl⟩
          simp only [hgv] at H7 ⊢
          obtain ⟨gu, hgu⟩ : ∃ g, w6.heap.size = g := ⟨_, rfl⟩
          simp only [hgu] at H7 ⊢
          clear hgv hgu
          obtain ⟨⟨kuu0, kuu1, kuu2⟩, _, _, _⟩ := three (held_at (g := gu) (x := uu) H7.out (by simp))
          obtain ⟨⟨kvv0, kvv1, kvv2⟩, _, _, _⟩ := three (held_at (g := gv) (x := vv) H7.out (by simp))
          go_wp2_with fail
          refine (CS.out _).mono ?_
          rintro e w8 ⟨rfl, hb⟩
          have H := Lib.hid (held_call H7.out hb)
          clear kuu0 kuu1 kuu2 kvv0 kvv1 kvv2
          clear hb H7 CS
          go_wp2_with fail
          have wd := WD.out
          clear WD
          refine run_region (ops := (opsOf Tryd.f3 15)) (S := fun w' => Held w w' ((gv, vv) :: (gu, uu) :: (grr, rr) :: (gqq, qq) :: [(gp, pp), (ge, ee), (gb, bb)])) [(0, true), (1, true), (2, true), (3, false), (4, true), (5, true), (6, true), (7, true), (8, true), (9, true), (10, true), (11, true), (12, true), (13, true), (14, true), (15, true), (16, true), (17, true), (18, true), (19, true), (20, true), (21, true), (22, true), (23, true), (24, true), (25, true), (26, true), (27, true), (28, true), (29, true), (30, true), (31, true), (32, true), (33, true), (34, true), (35, true), (36, true), (37, true), (38, true), (39, true)] (by kernel_rfl) (by kernel_rfl) (by kernel_rfl) (by kernel_rfl) (by kernel_rfl) (fun _ _ _ _ _ h => h) (held_drew H.out) ?_
          have H := Lib.hid (held_drew H.out)
          refine run_item pp (b := gp) (show opAt (opsOf Tryd.f3 15) 0 = some (some 74, .load 25 (.tmp 9), none) from by kernel_rfl) (by kernel_rfl) (by kernel_rfl) (by kernel_rfl) (List.Mem.tail _ (List.Mem.tail _ (List.Mem.tail _ (List.Mem.tail _ (List.Mem.head _))))) ?_
          refine run_item bb (b := gb) (show opAt (opsOf Tryd.f3 15) 1 = some (some 75, .load 25 (.tmp 7), none) from by kernel_rfl) (by kernel_rfl) (by kernel_rfl) (by kernel_rfl) (List.Mem.tail _ (List.Mem.tail _ (List.Mem.tail _ (List.Mem.tail _ (List.Mem.tail _ (List.Mem.tail _ (List.Mem.head _))))))) ?_
          refine run_item ee (b := ge) (show opAt (opsOf Tryd.f3 15) 2 = some (some 76, .load 25 (.tmp 8), none) from by kernel_rfl) (by kernel_rfl) (by kernel_rfl) (by kernel_rfl) (List.Mem.tail _ (List.Mem.tail _ (List.Mem.tail _ (List.Mem.tail _ (List.Mem.tail _ (List.Mem.head _)))))) ?_
          refine run_call (args := [.agg #[.int .i64 bb.n, .int .i64 bb.d, .string bb.t], .agg #[.int .i64 ee.n, .int .i64 ee.d, .string ee.t]]) (show opAt (opsOf Tryd.f3 15) 3 = some (some 77, .call { callee := .value (.func 12), args := [(.tmp 75), (.tmp 76)].toArray, argTypes := [25, 25].toArray }, none) from by kernel_rfl) (by kernel_rfl) (by kernel_rfl) (by kernel_rfl) (by kernel_rfl) ?_
          refine (PB.out _).mono ?_
          rintro en rw1 ⟨rfl, hb⟩
          refine ⟨_, rfl, held_call H.out hb, ?_⟩
          have H := Lib.hid (held_call H.out hb)
          clear hb
          refine run_same (v := .bool true) (p := .agg #[.int .i64 pp.n, .int .i64 pp.d, .string pp.t]) (q := .agg #[.int .i64 pp.n, .int .i64 pp.d, .string pp.t]) (show opAt (opsOf Tryd.f3 15) 4 = some (some 78, .binOp .eql 25 (.tmp 74) (.tmp 77) 25, none) from by kernel_rfl) (by kernel_rfl) (by kernel_rfl) (by kernel_rfl) (by kernel_rfl) (fun w' => eql_item rfl) ?_
          refine run_mov (v := .bool true) (show opAt (opsOf Tryd.f3 15) 5 = some (some 79, .move (.tmp 78), none) from by kernel_rfl) (by kernel_rfl) (by kernel_rfl) (by kernel_rfl) ?_
          refine run_part (b := gqq) rfl (by kernel_rfl) (show opAt (opsOf Tryd.f3 15) 6 = some (some 80, .fieldAddr 25 (.tmp 10) 1, some (5, true)) from by kernel_rfl) (by kernel_rfl) (by kernel_rfl) (by kernel_rfl) ?_
          refine run_den qq (b := gqq) (show opAt (opsOf Tryd.f3 15) 7 = some (some 81, .load 3 (.tmp 80), some (5, true)) from by kernel_rfl) (by kernel_rfl) (by kernel_rfl) (by kernel_rfl) (List.Mem.tail _ (List.Mem.tail _ (List.Mem.tail _ (List.Mem.head _)))) ?_
          rcases PW.out with tq | ⟨tq, tr⟩ | ⟨tq, tr, te0⟩ | ⟨tq, tr, te0, tqr⟩
          · clear PW
            refine run_cmp (k := .i64) (p := qq.d) (q := 0) (b := true) (show opAt (opsOf Tryd.f3 15) 8 = some (some 82, .binOp .eql 3 (.tmp 81) (.const (.int .i64 0)) 3, some (5, true)) from by kernel_rfl) (by kernel_rfl) (by kernel_rfl) (by kernel_rfl) (by kernel_rfl) (congrArg some (beq_iff_eq.2 tq)) ?_
            refine run_mov (v := .bool true) (show opAt (opsOf Tryd.f3 15) 9 = some (some 83, .move (.tmp 82), some (5, true)) from by kernel_rfl) (by kernel_rfl) (by kernel_rfl) (by kernel_rfl) ?_
            refine run_skip (show opAt (opsOf Tryd.f3 15) 10 = some (some 84, .fieldAddr 25 (.tmp 11) 1, some (9, false)) from by kernel_rfl) (by kernel_rfl) (by kernel_rfl) ?_
            refine run_skip (show opAt (opsOf Tryd.f3 15) 11 = some (some 85, .load 3 (.tmp 84), some (9, false)) from by kernel_rfl) (by kernel_rfl) (by kernel_rfl) ?_
            refine run_skip (show opAt (opsOf Tryd.f3 15) 12 = some (some 86, .binOp .eql 3 (.tmp 85) (.const (.int .i64 0)) 3, some (9, false)) from by kernel_rfl) (by kernel_rfl) (by kernel_rfl) ?_
            refine run_pick (b := true) (v := .bool true) (show opAt (opsOf Tryd.f3 15) 13 = some (some 87, .pick (.tmp 83) (.const (.bool true)) (.tmp 86), some (5, true)) from by kernel_rfl) (by kernel_rfl) (by kernel_rfl) (by kernel_rfl) (by kernel_rfl) ?_
            refine run_mov (v := .bool true) (show opAt (opsOf Tryd.f3 15) 14 = some (some 88, .move (.tmp 87), some (5, true)) from by kernel_rfl) (by kernel_rfl) (by kernel_rfl) (by kernel_rfl) ?_
            refine run_skip (show opAt (opsOf Tryd.f3 15) 15 = some (some 89, .fieldAddr 25 (.tmp 8) 0, some (14, false)) from by kernel_rfl) (by kernel_rfl) (by kernel_rfl) ?_
            refine run_skip (show opAt (opsOf Tryd.f3 15) 16 = some (some 90, .load 3 (.tmp 89), some (14, false)) from by kernel_rfl) (by kernel_rfl) (by kernel_rfl) ?_
            refine run_skip (show opAt (opsOf Tryd.f3 15) 17 = some (some 91, .binOp .lss 3 (.tmp 90) (.const (.int .i64 0)) 3, some (14, false)) from by kernel_rfl) (by kernel_rfl) (by kernel_rfl) ?_
            refine run_pick (b := true) (v := .bool true) (show opAt (opsOf Tryd.f3 15) 18 = some (some 92, .pick (.tmp 88) (.const (.bool true)) (.tmp 91), some (5, true)) from by kernel_rfl) (by kernel_rfl) (by kernel_rfl) (by kernel_rfl) (by kernel_rfl) ?_
            refine run_mov (v := .bool true) (show opAt (opsOf Tryd.f3 15) 19 = some (some 93, .move (.tmp 92), some (5, true)) from by kernel_rfl) (by kernel_rfl) (by kernel_rfl) (by kernel_rfl) ?_
            refine run_skip (show opAt (opsOf Tryd.f3 15) 20 = some (some 94, .load 25 (.tmp 10), some (19, false)) from by kernel_rfl) (by kernel_rfl) (by kernel_rfl) ?_
            refine run_skip (show opAt (opsOf Tryd.f3 15) 21 = some (some 95, .load 25 (.tmp 11), some (19, false)) from by kernel_rfl) (by kernel_rfl) (by kernel_rfl) ?_
            refine run_skip (show opAt (opsOf Tryd.f3 15) 22 = some (some 96, .binOp .eql 25 (.tmp 94) (.tmp 95) 25, some (19, false)) from by kernel_rfl) (by kernel_rfl) (by kernel_rfl) ?_
            refine run_pick (b := true) (v := .bool true) (show opAt (opsOf Tryd.f3 15) 23 = some (some 97, .pick (.tmp 93) (.const (.bool true)) (.tmp 96), some (5, true)) from by kernel_rfl) (by kernel_rfl) (by kernel_rfl) (by kernel_rfl) (by kernel_rfl) ?_
            refine run_pick (b := true) (v := .bool true) (show opAt (opsOf Tryd.f3 15) 24 = some (some 98, .pick (.tmp 79) (.tmp 97) (.const (.bool false)), none) from by kernel_rfl) (by kernel_rfl) (by kernel_rfl) (by kernel_rfl) (by kernel_rfl) ?_
            refine run_mov (v := .bool true) (show opAt (opsOf Tryd.f3 15) 25 = some (some 99, .move (.tmp 98), none) from by kernel_rfl) (by kernel_rfl) (by kernel_rfl) (by kernel_rfl) ?_
            refine run_mov (v := .int .i64 cc) (show opAt (opsOf Tryd.f3 15) 26 = some (some 100, .move (.tmp 14), some (25, true)) from by kernel_rfl) (by kernel_rfl) (by kernel_rfl) (by kernel_rfl) ?_
            rcases CM.out with ⟨tc, td⟩ | ⟨tc, td, te⟩ | ⟨tc, te⟩
            · clear CM
              refine run_cmp (k := .i64) (p := cc) (q := 2) (b := true) (show opAt (opsOf Tryd.f3 15) 27 = some (some 101, .binOp .eql 3 (.tmp 100) (.const (.int .i64 2)) 3, some (25, true)) from by kernel_rfl) (by kernel_rfl) (by kernel_rfl) (by kernel_rfl) (by kernel_rfl) (congrArg some (beq_iff_eq.2 tc)) ?_
              refine run_mov (v := .bool true) (show opAt (opsOf Tryd.f3 15) 28 = some (some 102, .move (.tmp 101), some (25, true)) from by kernel_rfl) (by kernel_rfl) (by kernel_rfl) (by kernel_rfl) ?_
              refine run_mov (v := .int .i64 dd) (show opAt (opsOf Tryd.f3 15) 29 = some (some 103, .move (.tmp 15), some (28, true)) from by kernel_rfl) (by kernel_rfl) (by kernel_rfl) (by kernel_rfl) ?_
              refine run_cmp (k := .i64) (p := dd) (q := 2) (b := true) (show opAt (opsOf Tryd.f3 15) 30 = some (some 104, .binOp .eql 3 (.tmp 103) (.const (.int .i64 2)) 3, some (28, true)) from by kernel_rfl) (by kernel_rfl) (by kernel_rfl) (by kernel_rfl) (by kernel_rfl) (congrArg some (beq_iff_eq.2 td)) ?_
              refine run_pick (b := true) (v := .bool true) (show opAt (opsOf Tryd.f3 15) 31 = some (some 105, .pick (.tmp 102) (.tmp 104) (.const (.bool false)), some (25, true)) from by kernel_rfl) (by kernel_rfl) (by kernel_rfl) (by kernel_rfl) (by kernel_rfl) ?_
              refine run_mov (v := .bool true) (show opAt (opsOf Tryd.f3 15) 32 = some (some 106, .move (.tmp 105), some (25, true)) from by kernel_rfl) (by kernel_rfl) (by kernel_rfl) (by kernel_rfl) ?_
              refine run_skip (show opAt (opsOf Tryd.f3 15) 33 = some (some 107, .move (.tmp 14), some (32, false)) from by kernel_rfl) (by kernel_rfl) (by kernel_rfl) ?_
              refine run_skip (show opAt (opsOf Tryd.f3 15) 34 = some (some 108, .move (.tmp 15), some (32, false)) from by kernel_rfl) (by kernel_rfl) (by kernel_rfl) ?_
              refine run_skip (show opAt (opsOf Tryd.f3 15) 35 = some (some 109, .unOp .neg 3 (.tmp 108), some (32, false)) from by kernel_rfl) (by kernel_rfl) (by kernel_rfl) ?_
              refine run_skip (show opAt (opsOf Tryd.f3 15) 36 = some (some 110, .binOp .eql 3 (.tmp 107) (.tmp 109) 3, some (32, false)) from by kernel_rfl) (by kernel_rfl) (by kernel_rfl) ?_
              refine run_pick (b := true) (v := .bool true) (show opAt (opsOf Tryd.f3 15) 37 = some (some 111, .pick (.tmp 106) (.const (.bool true)) (.tmp 110), some (25, true)) from by kernel_rfl) (by kernel_rfl) (by kernel_rfl) (by kernel_rfl) (by kernel_rfl) ?_
              refine run_pick (b := true) (v := .bool true) (show opAt (opsOf Tryd.f3 15) 38 = some (some 112, .pick (.tmp 99) (.tmp 111) (.const (.bool false)), none) from by kernel_rfl) (by kernel_rfl) (by kernel_rfl) (by kernel_rfl) (by kernel_rfl) ?_
              refine run_asg (v := .bool true) (show opAt (opsOf Tryd.f3 15) 39 = some (some 2, .assign (.tmp 112), none) from by kernel_rfl) (by kernel_rfl) (by kernel_rfl) (by kernel_rfl) ?_
              refine run_done ?_
              simp only [putAll, Act.put, List.setIfInBounds_toArray, List.set_cons_zero, List.set_cons_succ]
              go_wp2
              go_ret
              exact ⟨rfl, H.out.1⟩
            · clear CM
              refine run_cmp (k := .i64) (p := cc) (q := 2) (b := true) (show opAt (opsOf Tryd.f3 15) 27 = some (some 101, .binOp .eql 3 (.tmp 100) (.const (.int .i64 2)) 3, some (25, true)) from by kernel_rfl) (by kernel_rfl) (by kernel_rfl) (by kernel_rfl) (by kernel_rfl) (congrArg some (beq_iff_eq.2 tc)) ?_
              refine run_mov (v := .bool true) (show opAt (opsOf Tryd.f3 15) 28 = some (some 102, .move (.tmp 101), some (25, true)) from by kernel_rfl) (by kernel_rfl) (by kernel_rfl) (by kernel_rfl) ?_
              refine run_mov (v := .int .i64 dd) (show opAt (opsOf Tryd.f3 15) 29 = some (some 103, .move (.tmp 15), some (28, true)) from by kernel_rfl) (by kernel_rfl) (by kernel_rfl) (by kernel_rfl) ?_
              refine run_cmp (k := .i64) (p := dd) (q := 2) (b := false) (show opAt (opsOf Tryd.f3 15) 30 = some (some 104, .binOp .eql 3 (.tmp 103) (.const (.int .i64 2)) 3, some (28, true)) from by kernel_rfl) (by kernel_rfl) (by kernel_rfl) (by kernel_rfl) (by kernel_rfl) (congrArg some (beq_eq_false_iff_ne.2 td)) ?_
              refine run_pick (b := true) (v := .bool false) (show opAt (opsOf Tryd.f3 15) 31 = some (some 105, .pick (.tmp 102) (.tmp 104) (.const (.bool false)), some (25, true)) from by kernel_rfl) (by kernel_rfl) (by kernel_rfl) (by kernel_rfl) (by kernel_rfl) ?_
              refine run_mov (v := .bool false) (show opAt (opsOf Tryd.f3 15) 32 = some (some 106, .move (.tmp 105), some (25, true)) from by kernel_rfl) (by kernel_rfl) (by kernel_rfl) (by kernel_rfl) ?_
              refine run_mov (v := .int .i64 cc) (show opAt (opsOf Tryd.f3 15) 33 = some (some 107, .move (.tmp 14), some (32, false)) from by kernel_rfl) (by kernel_rfl) (by kernel_rfl) (by kernel_rfl) ?_
              refine run_mov (v := .int .i64 dd) (show opAt (opsOf Tryd.f3 15) 34 = some (some 108, .move (.tmp 15), some (32, false)) from by kernel_rfl) (by kernel_rfl) (by kernel_rfl) (by kernel_rfl) ?_
              refine run_neg (k := .i64) (p := dd) (z := -dd) (show opAt (opsOf Tryd.f3 15) 35 = some (some 109, .unOp .neg 3 (.tmp 108), some (32, false)) from by kernel_rfl) (by kernel_rfl) (by kernel_rfl) (by kernel_rfl) wd ?_
              refine run_cmp (k := .i64) (p := cc) (q := -dd) (b := true) (show opAt (opsOf Tryd.f3 15) 36 = some (some 110, .binOp .eql 3 (.tmp 107) (.tmp 109) 3, some (32, false)) from by kernel_rfl) (by kernel_rfl) (by kernel_rfl) (by kernel_rfl) (by kernel_rfl) (congrArg some (beq_iff_eq.2 te)) ?_
              refine run_pick (b := false) (v := .bool true) (show opAt (opsOf Tryd.f3 15) 37 = some (some 111, .pick (.tmp 106) (.const (.bool true)) (.tmp 110), some (25, true)) from by kernel_rfl) (by kernel_rfl) (by kernel_rfl) (by kernel_rfl) (by kernel_rfl) ?_
              refine run_pick (b := true) (v := .bool true) (show opAt (opsOf Tryd.f3 15) 38 = some (some 112, .pick (.tmp 99) (.tmp 111) (.const (.bool false)), none) from by kernel_rfl) (by kernel_rfl) (by kernel_rfl) (by kernel_rfl) (by kernel_rfl) ?_
              refine run_asg (v := .bool true) (show opAt (opsOf Tryd.f3 15) 39 = some (some 2, .assign (.tmp 112), none) from by kernel_rfl) (by kernel_rfl) (by kernel_rfl) (by kernel_rfl) ?_
              refine run_done ?_
              simp only [putAll, Act.put, List.setIfInBounds_toArray, List.set_cons_zero, List.set_cons_succ]
              go_wp2
              go_ret
              exact ⟨rfl, H.out.1⟩
            · clear CM
              refine run_cmp (k := .i64) (p := cc) (q := 2) (b := false) (show opAt (opsOf Tryd.f3 15) 27 = some (some 101, .binOp .eql 3 (.tmp 100) (.const (.int .i64 2)) 3, some (25, true)) from by kernel_rfl) (by kernel_rfl) (by kernel_rfl) (by kernel_rfl) (by kernel_rfl) (congrArg some (beq_eq_false_iff_ne.2 tc)) ?_
              refine run_mov (v := .bool false) (show opAt (opsOf Tryd.f3 15) 28 = some (some 102, .move (.tmp 101), some (25, true)) from by kernel_rfl) (by kernel_rfl) (by kernel_rfl) (by kernel_rfl) ?_
              refine run_skip (show opAt (opsOf Tryd.f3 15) 29 = some (some 103, .move (.tmp 15), some (28, true)) from by kernel_rfl) (by kernel_rfl) (by kernel_rfl) ?_
              refine run_skip (show opAt (opsOf Tryd.f3 15) 30 = some (some 104, .binOp .eql 3 (.tmp 103) (.const (.int .i64 2)) 3, some (28, true)) from by kernel_rfl) (by kernel_rfl) (by kernel_rfl) ?_
              refine run_pick (b := false) (v := .bool false) (show opAt (opsOf Tryd.f3 15) 31 = some (some 105, .pick (.tmp 102) (.tmp 104) (.const (.bool false)), some (25, true)) from by kernel_rfl) (by kernel_rfl) (by kernel_rfl) (by kernel_rfl) (by kernel_rfl) ?_
              refine run_mov (v := .bool false) (show opAt (opsOf Tryd.f3 15) 32 = some (some 106, .move (.tmp 105), some (25, true)) from by kernel_rfl) (by kernel_rfl) (by kernel_rfl) (by kernel_rfl) ?_
              refine run_mov (v := .int .i64 cc) (show opAt (opsOf Tryd.f3 15) 33 = some (some 107, .move (.tmp 14), some (32, false)) from by kernel_rfl) (by kernel_rfl) (by kernel_rfl) (by kernel_rfl) ?_
              refine run_mov (v := .int .i64 dd) (show opAt (opsOf Tryd.f3 15) 34 = some (some 108, .move (.tmp 15), some (32, false)) from by kernel_rfl) (by kernel_rfl) (by kernel_rfl) (by kernel_rfl) ?_
              refine run_neg (k := .i64) (p := dd) (z := -dd) (show opAt (opsOf Tryd.f3 15) 35 = some (some 109, .unOp .neg 3 (.tmp 108), some (32, false)) from by kernel_rfl) (by kernel_rfl) (by kernel_rfl) (by kernel_rfl) wd ?_
              refine run_cmp (k := .i64) (p := cc) (q := -dd) (b := true) (show opAt (opsOf Tryd.f3 15) 36 = some (some 110, .binOp .eql 3 (.tmp 107) (.tmp 109) 3, some (32, false)) from by kernel_rfl) (by kernel_rfl) (by kernel_rfl) (by kernel_rfl) (by kernel_rfl) (congrArg some (beq_iff_eq.2 te)) ?_
              refine run_pick (b := false) (v := .bool true) (show opAt (opsOf Tryd.f3 15) 37 = some (some 111, .pick (.tmp 106) (.const (.bool true)) (.tmp 110), some (25, true)) from by kernel_rfl) (by kernel_rfl) (by kernel_rfl) (by kernel_rfl) (by kernel_rfl) ?_
              refine run_pick (b := true) (v := .bool true) (show opAt (opsOf Tryd.f3 15) 38 = some (some 112, .pick (.tmp 99) (.tmp 111) (.const (.bool false)), none) from by kernel_rfl) (by kernel_rfl) (by kernel_rfl) (by kernel_rfl) (by kernel_rfl) ?_
              refine run_asg (v := .bool true) (show opAt (opsOf Tryd.f3 15) 39 = some (some 2, .assign (.tmp 112), none) from by kernel_rfl) (by kernel_rfl) (by kernel_rfl) (by kernel_rfl) ?_
              refine run_done ?_
              simp only [putAll, Act.put, List.setIfInBounds_toArray, List.set_cons_zero, List.set_cons_succ]
              go_wp2
              go_ret
              exact ⟨rfl, H.out.1⟩
          · clear PW
            refine run_cmp (k := .i64) (p := qq.d) (q := 0) (b := false) (show opAt (opsOf Tryd.f3 15) 8 = some (some 82, .binOp .eql 3 (.tmp 81) (.const (.int .i64 0)) 3, some (5, true)) from by kernel_rfl) (by kernel_rfl) (by kernel_rfl) (by kernel_rfl) (by kernel_rfl) (congrArg some (beq_eq_false_iff_ne.2 tq)) ?_
            refine run_mov (v := .bool false) (show opAt (opsOf Tryd.f3 15) 9 = some (some 83, .move (.tmp 82), some (5, true)) from by kernel_rfl) (by kernel_rfl) (by kernel_rfl) (by kernel_rfl) ?_
            refine run_part (b := grr) rfl (by kernel_rfl) (show opAt (opsOf Tryd.f3 15) 10 = some (some 84, .fieldAddr 25 (.tmp 11) 1, some (9, false)) from by kernel_rfl) (by kernel_rfl) (by kernel_rfl) (by kernel_rfl) ?_
            refine run_den rr (b := grr) (show opAt (opsOf Tryd.f3 15) 11 = some (some 85, .load 3 (.tmp 84), some (9, false)) from by kernel_rfl) (by kernel_rfl) (by kernel_rfl) (by kernel_rfl) (List.Mem.tail _ (List.Mem.tail _ (List.Mem.head _))) ?_
            refine run_cmp (k := .i64) (p := rr.d) (q := 0) (b := true) (show opAt (opsOf Tryd.f3 15) 12 = some (some 86, .binOp .eql 3 (.tmp 85) (.const (.int .i64 0)) 3, some (9, false)) from by kernel_rfl) (by kernel_rfl) (by kernel_rfl) (by kernel_rfl) (by kernel_rfl) (congrArg some (beq_iff_eq.2 tr)) ?_
            refine run_pick (b := false) (v := .bool true) (show opAt (opsOf Tryd.f3 15) 13 = some (some 87, .pick (.tmp 83) (.const (.bool true)) (.tmp 86), some (5, true)) from by kernel_rfl) (by kernel_rfl) (by kernel_rfl) (by kernel_rfl) (by kernel_rfl) ?_
            refine run_mov (v := .bool true) (show opAt (opsOf Tryd.f3 15) 14 = some (some 88, .move (.tmp 87), some (5, true)) from by kernel_rfl) (by kernel_rfl) (by kernel_rfl) (by kernel_rfl) ?_
            refine run_skip (show opAt (opsOf Tryd.f3 15) 15 = some (some 89, .fieldAddr 25 (.tmp 8) 0, some (14, false)) from by kernel_rfl) (by kernel_rfl) (by kernel_rfl) ?_
            refine run_skip (show opAt (opsOf Tryd.f3 15) 16 = some (some 90, .load 3 (.tmp 89), some (14, false)) from by kernel_rfl) (by kernel_rfl) (by kernel_rfl) ?_
            refine run_skip (show opAt (opsOf Tryd.f3 15) 17 = some (some 91, .binOp .lss 3 (.tmp 90) (.const (.int .i64 0)) 3, some (14, false)) from by kernel_rfl) (by kernel_rfl) (by kernel_rfl) ?_
            refine run_pick (b := true) (v := .bool true) (show opAt (opsOf Tryd.f3 15) 18 = some (some 92, .pick (.tmp 88) (.const (.bool true)) (.tmp 91), some (5, true)) from by kernel_rfl) (by kernel_rfl) (by kernel_rfl) (by kernel_rfl) (by kernel_rfl) ?_
            refine run_mov (v := .bool true) (show opAt (opsOf Tryd.f3 15) 19 = some (some 93, .move (.tmp 92), some (5, true)) from by kernel_rfl) (by kernel_rfl) (by kernel_rfl) (by kernel_rfl) ?_
            refine run_skip (show opAt (opsOf Tryd.f3 15) 20 = some (some 94, .load 25 (.tmp 10), some (19, false)) from by kernel_rfl) (by kernel_rfl) (by kernel_rfl) ?_
            refine run_skip (show opAt (opsOf Tryd.f3 15) 21 = some (some 95, .load 25 (.tmp 11), some (19, false)) from by kernel_rfl) (by kernel_rfl) (by kernel_rfl) ?_
            refine run_skip (show opAt (opsOf Tryd.f3 15) 22 = some (some 96, .binOp .eql 25 (.tmp 94) (.tmp 95) 25, some (19, false)) from by kernel_rfl) (by kernel_rfl) (by kernel_rfl) ?_
            refine run_pick (b := true) (v := .bool true) (show opAt (opsOf Tryd.f3 15) 23 = some (some 97, .pick (.tmp 93) (.const (.bool true)) (.tmp 96), some (5, true)) from by kernel_rfl) (by kernel_rfl) (by kernel_rfl) (by kernel_rfl) (by kernel_rfl) ?_
            refine run_pick (b := true) (v := .bool true) (show opAt (opsOf Tryd.f3 15) 24 = some (some 98, .pick (.tmp 79) (.tmp 97) (.const (.bool false)), none) from by kernel_rfl) (by kernel_rfl) (by kernel_rfl) (by kernel_rfl) (by kernel_rfl) ?_
            refine run_mov (v := .bool true) (show opAt (opsOf Tryd.f3 15) 25 = some (some 99, .move (.tmp 98), none) from by kernel_rfl) (by kernel_rfl) (by kernel_rfl) (by kernel_rfl) ?_
            refine run_mov (v := .int .i64 cc) (show opAt (opsOf Tryd.f3 15) 26 = some (some 100, .move (.tmp 14), some (25, true)) from by kernel_rfl) (by kernel_rfl) (by kernel_rfl) (by kernel_rfl) ?_
            rcases CM.out with ⟨tc, td⟩ | ⟨tc, td, te⟩ | ⟨tc, te⟩
            · clear CM
              refine run_cmp (k := .i64) (p := cc) (q := 2) (b := true) (show opAt (opsOf Tryd.f3 15) 27 = some (some 101, .binOp .eql 3 (.tmp 100) (.const (.int .i64 2)) 3, some (25, true)) from by kernel_rfl) (by kernel_rfl) (by kernel_rfl) (by kernel_rfl) (by kernel_rfl) (congrArg some (beq_iff_eq.2 tc)) ?_
              refine run_mov (v := .bool true) (show opAt (opsOf Tryd.f3 15) 28 = some (some 102, .move (.tmp 101), some (25, true)) from by kernel_rfl) (by kernel_rfl) (by kernel_rfl) (by kernel_rfl) ?_
              refine run_mov (v := .int .i64 dd) (show opAt (opsOf Tryd.f3 15) 29 = some (some 103, .move (.tmp 15), some (28, true)) from by kernel_rfl) (by kernel_rfl) (by kernel_rfl) (by kernel_rfl) ?_
              refine run_cmp (k := .i64) (p := dd) (q := 2) (b := true) (show opAt (opsOf Tryd.f3 15) 30 = some (some 104, .binOp .eql 3 (.tmp 103) (.const (.int .i64 2)) 3, some (28, true)) from by kernel_rfl) (by kernel_rfl) (by kernel_rfl) (by kernel_rfl) (by kernel_rfl) (congrArg some (beq_iff_eq.2 td)) ?_
              refine run_pick (b := true) (v := .bool true) (show opAt (opsOf Tryd.f3 15) 31 = some (some 105, .pick (.tmp 102) (.tmp 104) (.const (.bool false)), some (25, true)) from by kernel_rfl) (by kernel_rfl) (by kernel_rfl) (by kernel_rfl) (by kernel_rfl) ?_
              refine run_mov (v := .bool true) (show opAt (opsOf Tryd.f3 15) 32 = some (some 106, .move (.tmp 105), some (25, true)) from by kernel_rfl) (by kernel_rfl) (by kernel_rfl) (by kernel_rfl) ?_
              refine run_skip (show opAt (opsOf Tryd.f3 15) 33 = some (some 107, .move (.tmp 14), some (32, false)) from by kernel_rfl) (by kernel_rfl) (by kernel_rfl) ?_
              refine run_skip (show opAt (opsOf Tryd.f3 15) 34 = some (some 108, .move (.tmp 15), some (32, false)) from by kernel_rfl) (by kernel_rfl) (by kernel_rfl) ?_
              refine run_skip (show opAt (opsOf Tryd.f3 15) 35 = some (some 109, .unOp .neg 3 (.tmp 108), some (32, false)) from by kernel_rfl) (by kernel_rfl) (by kernel_rfl) ?_
              refine run_skip (show opAt (opsOf Tryd.f3 15) 36 = some (some 110, .binOp .eql 3 (.tmp 107) (.tmp 109) 3, some (32, false)) from by kernel_rfl) (by kernel_rfl) (by kernel_rfl) ?_
              refine run_pick (b := true) (v := .bool true) (show opAt (opsOf Tryd.f3 15) 37 = some (some 111, .pick (.tmp 106) (.const (.bool true)) (.tmp 110), some (25, true)) from by kernel_rfl) (by kernel_rfl) (by kernel_rfl) (by kernel_rfl) (by kernel_rfl) ?_
              refine run_pick (b := true) (v := .bool true) (show opAt (opsOf Tryd.f3 15) 38 = some (some 112, .pick (.tmp 99) (.tmp 111) (.const (.bool false)), none) from by kernel_rfl) (by kernel_rfl) (by kernel_rfl) (by kernel_rfl) (by kernel_rfl) ?_
              refine run_asg (v := .bool true) (show opAt (opsOf Tryd.f3 15) 39 = some (some 2, .assign (.tmp 112), none) from by kernel_rfl) (by kernel_rfl) (by kernel_rfl) (by kernel_rfl) ?_
              refine run_done ?_
              simp only [putAll, Act.put, List.setIfInBounds_toArray, List.set_cons_zero, List.set_cons_succ]
              go_wp2
              go_ret
              exact ⟨rfl, H.out.1⟩
            · clear CM
              refine run_cmp (k := .i64) (p := cc) (q := 2) (b := true) (show opAt (opsOf Tryd.f3 15) 27 = some (some 101, .binOp .eql 3 (.tmp 100) (.const (.int .i64 2)) 3, some (25, true)) from by kernel_rfl) (by kernel_rfl) (by kernel_rfl) (by kernel_rfl) (by kernel_rfl) (congrArg some (beq_iff_eq.2 tc)) ?_
              refine run_mov (v := .bool true) (show opAt (opsOf Tryd.f3 15) 28 = some (some 102, .move (.tmp 101), some (25, true)) from by kernel_rfl) (by kernel_rfl) (by kernel_rfl) (by kernel_rfl) ?_
              refine run_mov (v := .int .i64 dd) (show opAt (opsOf Tryd.f3 15) 29 = some (some 103, .move (.tmp 15), some (28, true)) from by kernel_rfl) (by kernel_rfl) (by kernel_rfl) (by kernel_rfl) ?_
              refine run_cmp (k := .i64) (p := dd) (q := 2) (b := false) (show opAt (opsOf Tryd.f3 15) 30 = some (some 104, .binOp .eql 3 (.tmp 103) (.const (.int .i64 2)) 3, some (28, true)) from by kernel_rfl) (by kernel_rfl) (by kernel_rfl) (by kernel_rfl) (by kernel_rfl) (congrArg some (beq_eq_false_iff_ne.2 td)) ?_
              refine run_pick (b := true) (v := .bool false) (show opAt (opsOf Tryd.f3 15) 31 = some (some 105, .pick (.tmp 102) (.tmp 104) (.const (.bool false)), some (25, true)) from by kernel_rfl) (by kernel_rfl) (by kernel_rfl) (by kernel_rfl) (by kernel_rfl) ?_
              refine run_mov (v := .bool false) (show opAt (opsOf Tryd.f3 15) 32 = some (some 106, .move (.tmp 105), some (25, true)) from by kernel_rfl) (by kernel_rfl) (by kernel_rfl) (by kernel_rfl) ?_
              refine run_mov (v := .int .i64 cc) (show opAt (opsOf Tryd.f3 15) 33 = some (some 107, .move (.tmp 14), some (32, false)) from by kernel_rfl) (by kernel_rfl) (by kernel_rfl) (by kernel_rfl) ?_
              refine run_mov (v := .int .i64 dd) (show opAt (opsOf Tryd.f3 15) 34 = some (some 108, .move (.tmp 15), some (32, false)) from by kernel_rfl) (by kernel_rfl) (by kernel_rfl) (by kernel_rfl) ?_
              refine run_neg (k := .i64) (p := dd) (z := -dd) (show opAt (opsOf Tryd.f3 15) 35 = some (some 109, .unOp .neg 3 (.tmp 108), some (32, false)) from by kernel_rfl) (by kernel_rfl) (by kernel_rfl) (by kernel_rfl) wd ?_
              refine run_cmp (k := .i64) (p := cc) (q := -dd) (b := true) (show opAt (opsOf Tryd.f3 15) 36 = some (some 110, .binOp .eql 3 (.tmp 107) (.tmp 109) 3, some (32, false)) from by kernel_rfl) (by kernel_rfl) (by kernel_rfl) (by kernel_rfl) (by kernel_rfl) (congrArg some (beq_iff_eq.2 te)) ?_
              refine run_pick (b := false) (v := .bool true) (show opAt (opsOf Tryd.f3 15) 37 = some (some 111, .pick (.tmp 106) (.const (.bool true)) (.tmp 110), some (25, true)) from by kernel_rfl) (by kernel_rfl) (by kernel_rfl) (by kernel_rfl) (by kernel_rfl) ?_
              refine run_pick (b := true) (v := .bool true) (show opAt (opsOf Tryd.f3 15) 38 = some (some 112, .pick (.tmp 99) (.tmp 111) (.const (.bool false)), none) from by kernel_rfl) (by kernel_rfl) (by kernel_rfl) (by kernel_rfl) (by kernel_rfl) ?_
              refine run_asg (v := .bool true) (show opAt (opsOf Tryd.f3 15) 39 = some (some 2, .assign (.tmp 112), none) from by kernel_rfl) (by kernel_rfl) (by kernel_rfl) (by kernel_rfl) ?_
              refine run_done ?_
              simp only [putAll, Act.put, List.setIfInBounds_toArray, List.set_cons_zero, List.set_cons_succ]
              go_wp2
              go_ret
              exact ⟨rfl, H.out.1⟩
            · clear CM
              refine run_cmp (k := .i64) (p := cc) (q := 2) (b := false) (show opAt (opsOf Tryd.f3 15) 27 = some (some 101, .binOp .eql 3 (.tmp 100) (.const (.int .i64 2)) 3, some (25, true)) from by kernel_rfl) (by kernel_rfl) (by kernel_rfl) (by kernel_rfl) (by kernel_rfl) (congrArg some (beq_eq_false_iff_ne.2 tc)) ?_
              refine run_mov (v := .bool false) (show opAt (opsOf Tryd.f3 15) 28 = some (some 102, .move (.tmp 101), some (25, true)) from by kernel_rfl) (by kernel_rfl) (by kernel_rfl) (by kernel_rfl) ?_
              refine run_skip (show opAt (opsOf Tryd.f3 15) 29 = some (some 103, .move (.tmp 15), some (28, true)) from by kernel_rfl) (by kernel_rfl) (by kernel_rfl) ?_
              refine run_skip (show opAt (opsOf Tryd.f3 15) 30 = some (some 104, .binOp .eql 3 (.tmp 103) (.const (.int .i64 2)) 3, some (28, true)) from by kernel_rfl) (by kernel_rfl) (by kernel_rfl) ?_
              refine run_pick (b := false) (v := .bool false) (show opAt (opsOf Tryd.f3 15) 31 = some (some 105, .pick (.tmp 102) (.tmp 104) (.const (.bool false)), some (25, true)) from by kernel_rfl) (by kernel_rfl) (by kernel_rfl) (by kernel_rfl) (by kernel_rfl) ?_
              refine run_mov (v := .bool false) (show opAt (opsOf Tryd.f3 15) 32 = some (some 106, .move (.tmp 105), some (25, true)) from by kernel_rfl) (by kernel_rfl) (by kernel_rfl) (by kernel_rfl) ?_
              refine run_mov (v := .int .i64 cc) (show opAt (opsOf Tryd.f3 15) 33 = some (some 107, .move (.tmp 14), some (32, false)) from by kernel_rfl) (by kernel_rfl) (by kernel_rfl) (by kernel_rfl) ?_
              refine run_mov (v := .int .i64 dd) (show opAt (opsOf Tryd.f3 15) 34 = some (some 108, .move (.tmp 15), some (32, false)) from by kernel_rfl) (by kernel_rfl) (by kernel_rfl) (by kernel_rfl) ?_
              refine run_neg (k := .i64) (p := dd) (z := -dd) (show opAt (opsOf Tryd.f3 15) 35 = some (some 109, .unOp .neg 3 (.tmp 108), some (32, false)) from by kernel_rfl) (by kernel_rfl) (by kernel_rfl) (by kernel_rfl) wd ?_
              refine run_cmp (k := .i64) (p := cc) (q := -dd) (b := true) (show opAt (opsOf Tryd.f3 15) 36 = some (some 110, .binOp .eql 3 (.tmp 107) (.tmp 109) 3, some (32, false)) from by kernel_rfl) (by kernel_rfl) (by kernel_rfl) (by kernel_rfl) (by kernel_rfl) (congrArg some (beq_iff_eq.2 te)) ?_
              refine run_pick (b := false) (v := .bool true) (show opAt (opsOf Tryd.f3 15) 37 = some (some 111, .pick (.tmp 106) (.const (.bool true)) (.tmp 110), some (25, true)) from by kernel_rfl) (by kernel_rfl) (by kernel_rfl) (by kernel_rfl) (by kernel_rfl) ?_
              refine run_pick (b := true) (v := .bool true) (show opAt (opsOf Tryd.f3 15) 38 = some (some 112, .pick (.tmp 99) (.tmp 111) (.const (.bool false)), none) from by kernel_rfl) (by kernel_rfl) (by kernel_rfl) (by kernel_rfl) (by kernel_rfl) ?_
              refine run_asg (v := .bool true) (show opAt (opsOf Tryd.f3 15) 39 = some (some 2, .assign (.tmp 112), none) from by kernel_rfl) (by kernel_rfl) (by kernel_rfl) (by kernel_rfl) ?_
              refine run_done ?_
              simp only [putAll, Act.put, List.setIfInBounds_toArray, List.set_cons_zero, List.set_cons_succ]
              go_wp2
              go_ret
              exact ⟨rfl, H.out.1⟩
          · clear PW
            refine run_cmp (k := .i64) (p := qq.d) (q := 0) (b := false) (show opAt (opsOf Tryd.f3 15) 8 = some (some 82, .binOp .eql 3 (.tmp 81) (.const (.int .i64 0)) 3, some (5, true)) from by kernel_rfl) (by kernel_rfl) (by kernel_rfl) (by kernel_rfl) (by kernel_rfl) (congrArg some (beq_eq_false_iff_ne.2 tq)) ?_
            refine run_mov (v := .bool false) (show opAt (opsOf Tryd.f3 15) 9 = some (some 83, .move (.tmp 82), some (5, true)) from by kernel_rfl) (by kernel_rfl) (by kernel_rfl) (by kernel_rfl) ?_
            refine run_part (b := grr) rfl (by kernel_rfl) (show opAt (opsOf Tryd.f3 15) 10 = some (some 84, .fieldAddr 25 (.tmp 11) 1, some (9, false)) from by kernel_rfl) (by kernel_rfl) (by kernel_rfl) (by kernel_rfl) ?_
            refine run_den rr (b := grr) (show opAt (opsOf Tryd.f3 15) 11 = some (some 85, .load 3 (.tmp 84), some (9, false)) from by kernel_rfl) (by kernel_rfl) (by kernel_rfl) (by kernel_rfl) (List.Mem.tail _ (List.Mem.tail _ (List.Mem.head _))) ?_
            refine run_cmp (k := .i64) (p := rr.d) (q := 0) (b := false) (show opAt (opsOf Tryd.f3 15) 12 = some (some 86, .binOp .eql 3 (.tmp 85) (.const (.int .i64 0)) 3, some (9, false)) from by kernel_rfl) (by kernel_rfl) (by kernel_rfl) (by kernel_rfl) (by kernel_rfl) (congrArg some (beq_eq_false_iff_ne.2 tr)) ?_
            refine run_pick (b := false) (v := .bool false) (show opAt (opsOf Tryd.f3 15) 13 = some (some 87, .pick (.tmp 83) (.const (.bool true)) (.tmp 86), some (5, true)) from by kernel_rfl) (by kernel_rfl) (by kernel_rfl) (by kernel_rfl) (by kernel_rfl) ?_
            refine run_mov (v := .bool false) (show opAt (opsOf Tryd.f3 15) 14 = some (some 88, .move (.tmp 87), some (5, true)) from by kernel_rfl) (by kernel_rfl) (by kernel_rfl) (by kernel_rfl) ?_
            refine run_part (b := ge) rfl (by kernel_rfl) (show opAt (opsOf Tryd.f3 15) 15 = some (some 89, .fieldAddr 25 (.tmp 8) 0, some (14, false)) from by kernel_rfl) (by kernel_rfl) (by kernel_rfl) (by kernel_rfl) ?_
            refine run_num ee (b := ge) (show opAt (opsOf Tryd.f3 15) 16 = some (some 90, .load 3 (.tmp 89), some (14, false)) from by kernel_rfl) (by kernel_rfl) (by kernel_rfl) (by kernel_rfl) (List.Mem.tail _ (List.Mem.tail _ (List.Mem.tail _ (List.Mem.tail _ (List.Mem.tail _ (List.Mem.head _)))))) ?_
            refine run_cmp (k := .i64) (p := ee.n) (q := 0) (b := true) (show opAt (opsOf Tryd.f3 15) 17 = some (some 91, .binOp .lss 3 (.tmp 90) (.const (.int .i64 0)) 3, some (14, false)) from by kernel_rfl) (by kernel_rfl) (by kernel_rfl) (by kernel_rfl) (by kernel_rfl) (congrArg some (decide_eq_true (by omega))) ?_
            refine run_pick (b := false) (v := .bool true) (show opAt (opsOf Tryd.f3 15) 18 = some (some 92, .pick (.tmp 88) (.const (.bool true)) (.tmp 91), some (5, true)) from by kernel_rfl) (by kernel_rfl) (by kernel_rfl) (by kernel_rfl) (by kernel_rfl) ?_
            refine run_mov (v := .bool true) (show opAt (opsOf Tryd.f3 15) 19 = some (some 93, .move (.tmp 92), some (5, true)) from by kernel_rfl) (by kernel_rfl) (by kernel_rfl) (by kernel_rfl) ?_
            refine run_skip (show opAt (opsOf Tryd.f3 15) 20 = some (some 94, .load 25 (.tmp 10), some (19, false)) from by kernel_rfl) (by kernel_rfl) (by kernel_rfl) ?_
            refine run_skip (show opAt (opsOf Tryd.f3 15) 21 = some (some 95, .load 25 (.tmp 11), some (19, false)) from by kernel_rfl) (by kernel_rfl) (by kernel_rfl) ?_
            refine run_skip (show opAt (opsOf Tryd.f3 15) 22 = some (some 96, .binOp .eql 25 (.tmp 94) (.tmp 95) 25, some (19, false)) from by kernel_rfl) (by kernel_rfl) (by kernel_rfl) ?_
            refine run_pick (b := true) (v := .bool true) (show opAt (opsOf Tryd.f3 15) 23 = some (some 97, .pick (.tmp 93) (.const (.bool true)) (.tmp 96), some (5, true)) from by kernel_rfl) (by kernel_rfl) (by kernel_rfl) (by kernel_rfl) (by kernel_rfl) ?_
            refine run_pick (b := true) (v := .bool true) (show opAt (opsOf Tryd.f3 15) 24 = some (some 98, .pick (.tmp 79) (.tmp 97) (.const (.bool false)), none) from by kernel_rfl) (by kernel_rfl) (by kernel_rfl) (by kernel_rfl) (by kernel_rfl) ?_
            refine run_mov (v := .bool true) (show opAt (opsOf Tryd.f3 15) 25 = some (some 99, .move (.tmp 98), none) from by kernel_rfl) (by kernel_rfl) (by kernel_rfl) (by kernel_rfl) ?_
            refine run_mov (v := .int .i64 cc) (show opAt (opsOf Tryd.f3 15) 26 = some (some 100, .move (.tmp 14), some (25, true)) from by kernel_rfl) (by kernel_rfl) (by kernel_rfl) (by kernel_rfl) ?_
            rcases CM.out with ⟨tc, td⟩ | ⟨tc, td, te⟩ | ⟨tc, te⟩
            · clear CM
              refine run_cmp (k := .i64) (p := cc) (q := 2) (b := true) (show opAt (opsOf Tryd.f3 15) 27 = some (some 101, .binOp .eql 3 (.tmp 100) (.const (.int .i64 2)) 3, some (25, true)) from by kernel_rfl) (by kernel_rfl) (by kernel_rfl) (by kernel_rfl) (by kernel_rfl) (congrArg some (beq_iff_eq.2 tc)) ?_
              refine run_mov (v := .bool true) (show opAt (opsOf Tryd.f3 15) 28 = some (some 102, .move (.tmp 101), some (25, true)) from by kernel_rfl) (by kernel_rfl) (by kernel_rfl) (by kernel_rfl) ?_
              refine run_mov (v := .int .i64 dd) (show opAt (opsOf Tryd.f3 15) 29 = some (some 103, .move (.tmp 15), some (28, true)) from by kernel_rfl) (by kernel_rfl) (by kernel_rfl) (by kernel_rfl) ?_
              refine run_cmp (k := .i64) (p := dd) (q := 2) (b := true) (show opAt (opsOf Tryd.f3 15) 30 = some (some 104, .binOp .eql 3 (.tmp 103) (.const (.int .i64 2)) 3, some (28, true)) from by kernel_rfl) (by kernel_rfl) (by kernel_rfl) (by kernel_rfl) (by kernel_rfl) (congrArg some (beq_iff_eq.2 td)) ?_
              refine run_pick (b := true) (v := .bool true) (show opAt (opsOf Tryd.f3 15) 31 = some (some 105, .pick (.tmp 102) (.tmp 104) (.const (.bool false)), some (25, true)) from by kernel_rfl) (by kernel_rfl) (by kernel_rfl) (by kernel_rfl) (by kernel_rfl) ?_
              refine run_mov (v := .bool true) (show opAt (opsOf Tryd.f3 15) 32 = some (some 106, .move (.tmp 105), some (25, true)) from by kernel_rfl) (by kernel_rfl) (by kernel_rfl) (by kernel_rfl) ?_
              refine run_skip (show opAt (opsOf Tryd.f3 15) 33 = some (some 107, .move (.tmp 14), some (32, false)) from by kernel_rfl) (by kernel_rfl) (by kernel_rfl) ?_
              refine run_skip (show opAt (opsOf Tryd.f3 15) 34 = some (some 108, .move (.tmp 15), some (32, false)) from by kernel_rfl) (by kernel_rfl) (by kernel_rfl) ?_
              refine run_skip (show opAt (opsOf Tryd.f3 15) 35 = some (some 109, .unOp .neg 3 (.tmp 108), some (32, false)) from by kernel_rfl) (by kernel_rfl) (by kernel_rfl) ?_
              refine run_skip (show opAt (opsOf Tryd.f3 15) 36 = some (some 110, .binOp .eql 3 (.tmp 107) (.tmp 109) 3, some (32, false)) from by kernel_rfl) (by kernel_rfl) (by kernel_rfl) ?_
              refine run_pick (b := true) (v := .bool true) (show opAt (opsOf Tryd.f3 15) 37 = some (some 111, .pick (.tmp 106) (.const (.bool true)) (.tmp 110), some (25, true)) from by kernel_rfl) (by kernel_rfl) (by kernel_rfl) (by kernel_rfl) (by kernel_rfl) ?_
              refine run_pick (b := true) (v := .bool true) (show opAt (opsOf Tryd.f3 15) 38 = some (some 112, .pick (.tmp 99) (.tmp 111) (.const (.bool false)), none) from by kernel_rfl) (by kernel_rfl) (by kernel_rfl) (by kernel_rfl) (by kernel_rfl) ?_
              refine run_asg (v := .bool true) (show opAt (opsOf Tryd.f3 15) 39 = some (some 2, .assign (.tmp 112), none) from by kernel_rfl) (by kernel_rfl) (by kernel_rfl) (by kernel_rfl) ?_
              refine run_done ?_
              simp only [putAll, Act.put, List.setIfInBounds_toArray, List.set_cons_zero, List.set_cons_succ]
              go_wp2
              go_ret
              exact ⟨rfl, H.out.1⟩
            · clear CM
              refine run_cmp (k := .i64) (p := cc) (q := 2) (b := true) (show opAt (opsOf Tryd.f3 15) 27 = some (some 101, .binOp .eql 3 (.tmp 100) (.const (.int .i64 2)) 3, some (25, true)) from by kernel_rfl) (by kernel_rfl) (by kernel_rfl) (by kernel_rfl) (by kernel_rfl) (congrArg some (beq_iff_eq.2 tc)) ?_
              refine run_mov (v := .bool true) (show opAt (opsOf Tryd.f3 15) 28 = some (some 102, .move (.tmp 101), some (25, true)) from by kernel_rfl) (by kernel_rfl) (by kernel_rfl) (by kernel_rfl) ?_
              refine run_mov (v := .int .i64 dd) (show opAt (opsOf Tryd.f3 15) 29 = some (some 103, .move (.tmp 15), some (28, true)) from by kernel_rfl) (by kernel_rfl) (by kernel_rfl) (by kernel_rfl) ?_
              refine run_cmp (k := .i64) (p := dd) (q := 2) (b := false) (show opAt (opsOf Tryd.f3 15) 30 = some (some 104, .binOp .eql 3 (.tmp 103) (.const (.int .i64 2)) 3, some (28, true)) from by kernel_rfl) (by kernel_rfl) (by kernel_rfl) (by kernel_rfl) (by kernel_rfl) (congrArg some (beq_eq_false_iff_ne.2 td)) ?_
              refine run_pick (b := true) (v := .bool false) (show opAt (opsOf Tryd.f3 15) 31 = some (some 105, .pick (.tmp 102) (.tmp 104) (.const (.bool false)), some (25, true)) from by kernel_rfl) (by kernel_rfl) (by kernel_rfl) (by kernel_rfl) (by kernel_rfl) ?_
              refine run_mov (v := .bool false) (show opAt (opsOf Tryd.f3 15) 32 = some (some 106, .move (.tmp 105), some (25, true)) from by kernel_rfl) (by kernel_rfl) (by kernel_rfl) (by kernel_rfl) ?_
              refine run_mov (v := .int .i64 cc) (show opAt (opsOf Tryd.f3 15) 33 = some (some 107, .move (.tmp 14), some (32, false)) from by kernel_rfl) (by kernel_rfl) (by kernel_rfl) (by kernel_rfl) ?_
              refine run_mov (v := .int .i64 dd) (show opAt (opsOf Tryd.f3 15) 34 = some (some 108, .move (.tmp 15), some (32, false)) from by kernel_rfl) (by kernel_rfl) (by kernel_rfl) (by kernel_rfl) ?_
              refine run_neg (k := .i64) (p := dd) (z := -dd) (show opAt (opsOf Tryd.f3 15) 35 = some (some 109, .unOp .neg 3 (.tmp 108), some (32, false)) from by kernel_rfl) (by kernel_rfl) (by kernel_rfl) (by kernel_rfl) wd ?_
              refine run_cmp (k := .i64) (p := cc) (q := -dd) (b := true) (show opAt (opsOf Tryd.f3 15) 36 = some (some 110, .binOp .eql 3 (.tmp 107) (.tmp 109) 3, some (32, false)) from by kernel_rfl) (by kernel_rfl) (by kernel_rfl) (by kernel_rfl) (by kernel_rfl) (congrArg some (beq_iff_eq.2 te)) ?_
              refine run_pick (b := false) (v := .bool true) (show opAt (opsOf Tryd.f3 15) 37 = some (some 111, .pick (.tmp 106) (.const (.bool true)) (.tmp 110), some (25, true)) from by kernel_rfl) (by kernel_rfl) (by kernel_rfl) (by kernel_rfl) (by kernel_rfl) ?_
              refine run_pick (b := true) (v := .bool true) (show opAt (opsOf Tryd.f3 15) 38 = some (some 112, .pick (.tmp 99) (.tmp 111) (.const (.bool false)), none) from by kernel_rfl) (by kernel_rfl) (by kernel_rfl) (by kernel_rfl) (by kernel_rfl) ?_
              refine run_asg (v := .bool true) (show opAt (opsOf Tryd.f3 15) 39 = some (some 2, .assign (.tmp 112), none) from by kernel_rfl) (by kernel_rfl) (by kernel_rfl) (by kernel_rfl) ?_
              refine run_done ?_
              simp only [putAll, Act.put, List.setIfInBounds_toArray, List.set_cons_zero, List.set_cons_succ]
              go_wp2
              go_ret
              exact ⟨rfl, H.out.1⟩
            · clear CM
              refine run_cmp (k := .i64) (p := cc) (q := 2) (b := false) (show opAt (opsOf Tryd.f3 15) 27 = some (some 101, .binOp .eql 3 (.tmp 100) (.const (.int .i64 2)) 3, some (25, true)) from by kernel_rfl) (by kernel_rfl) (by kernel_rfl) (by kernel_rfl) (by kernel_rfl) (congrArg some (beq_eq_false_iff_ne.2 tc)) ?_
              refine run_mov (v := .bool false) (show opAt (opsOf Tryd.f3 15) 28 = some (some 102, .move (.tmp 101), some (25, true)) from by kernel_rfl) (by kernel_rfl) (by kernel_rfl) (by kernel_rfl) ?_
              refine run_skip (show opAt (opsOf Tryd.f3 15) 29 = some (some 103, .move (.tmp 15), some (28, true)) from by kernel_rfl) (by kernel_rfl) (by kernel_rfl) ?_
              refine run_skip (show opAt (opsOf Tryd.f3 15) 30 = some (some 104, .binOp .eql 3 (.tmp 103) (.const (.int .i64 2)) 3, some (28, true)) from by kernel_rfl) (by kernel_rfl) (by kernel_rfl) ?_
              refine run_pick (b := false) (v := .bool false) (show opAt (opsOf Tryd.f3 15) 31 = some (some 105, .pick (.tmp 102) (.tmp 104) (.const (.bool false)), some (25, true)) from by kernel_rfl) (by kernel_rfl) (by kernel_rfl) (by kernel_rfl) (by kernel_rfl) ?_
              refine run_mov (v := .bool false) (show opAt (opsOf Tryd.f3 15) 32 = some (some 106, .move (.tmp 105), some (25, true)) from by kernel_rfl) (by kernel_rfl) (by kernel_rfl) (by kernel_rfl) ?_
              refine run_mov (v := .int .i64 cc) (show opAt (opsOf Tryd.f3 15) 33 = some (some 107, .move (.tmp 14), some (32, false)) from by kernel_rfl) (by kernel_rfl) (by kernel_rfl) (by kernel_rfl) ?_
              refine run_mov (v := .int .i64 dd) (show opAt (opsOf Tryd.f3 15) 34 = some (some 108, .move (.tmp 15), some (32, false)) from by kernel_rfl) (by kernel_rfl) (by kernel_rfl) (by kernel_rfl) ?_
              refine run_neg (k := .i64) (p := dd) (z := -dd) (show opAt (opsOf Tryd.f3 15) 35 = some (some 109, .unOp .neg 3 (.tmp 108), some (32, false)) from by kernel_rfl) (by kernel_rfl) (by kernel_rfl) (by kernel_rfl) wd ?_
              refine run_cmp (k := .i64) (p := cc) (q := -dd) (b := true) (show opAt (opsOf Tryd.f3 15) 36 = some (some 110, .binOp .eql 3 (.tmp 107) (.tmp 109) 3, some (32, false)) from by kernel_rfl) (by kernel_rfl) (by kernel_rfl) (by kernel_rfl) (by kernel_rfl) (congrArg some (beq_iff_eq.2 te)) ?_
              refine run_pick (b := false) (v := .bool true) (show opAt (opsOf Tryd.f3 15) 37 = some (some 111, .pick (.tmp 106) (.const (.bool true)) (.tmp 110), some (25, true)) from by kernel_rfl) (by kernel_rfl) (by kernel_rfl) (by kernel_rfl) (by kernel_rfl) ?_
              refine run_pick (b := true) (v := .bool true) (show opAt (opsOf Tryd.f3 15) 38 = some (some 112, .pick (.tmp 99) (.tmp 111) (.const (.bool false)), none) from by kernel_rfl) (by kernel_rfl) (by kernel_rfl) (by kernel_rfl) (by kernel_rfl) ?_
              refine run_asg (v := .bool true) (show opAt (opsOf Tryd.f3 15) 39 = some (some 2, .assign (.tmp 112), none) from by kernel_rfl) (by kernel_rfl) (by kernel_rfl) (by kernel_rfl) ?_
              refine run_done ?_
              simp only [putAll, Act.put, List.setIfInBounds_toArray, List.set_cons_zero, List.set_cons_succ]
              go_wp2
              go_ret
              exact ⟨rfl, H.out.1⟩
          · have tqr := Lib.hid tqr
            clear PW
            refine run_cmp (k := .i64) (p := qq.d) (q := 0) (b := false) (show opAt (opsOf Tryd.f3 15) 8 = some (some 82, .binOp .eql 3 (.tmp 81) (.const (.int .i64 0)) 3, some (5, true)) from by kernel_rfl) (by kernel_rfl) (by kernel_rfl) (by kernel_rfl) (by kernel_rfl) (congrArg some (beq_eq_false_iff_ne.2 tq)) ?_
            refine run_mov (v := .bool false) (show opAt (opsOf Tryd.f3 15) 9 = some (some 83, .move (.tmp 82), some (5, true)) from by kernel_rfl) (by kernel_rfl) (by kernel_rfl) (by kernel_rfl) ?_
            refine run_part (b := grr) rfl (by kernel_rfl) (show opAt (opsOf Tryd.f3 15) 10 = some (some 84, .fieldAddr 25 (.tmp 11) 1, some (9, false)) from by kernel_rfl) (by kernel_rfl) (by kernel_rfl) (by kernel_rfl) ?_
            refine run_den rr (b := grr) (show opAt (opsOf Tryd.f3 15) 11 = some (some 85, .load 3 (.tmp 84), some (9, false)) from by kernel_rfl) (by kernel_rfl) (by kernel_rfl) (by kernel_rfl) (List.Mem.tail _ (List.Mem.tail _ (List.Mem.head _))) ?_
            refine run_cmp (k := .i64) (p := rr.d) (q := 0) (b := false) (show opAt (opsOf Tryd.f3 15) 12 = some (some 86, .binOp .eql 3 (.tmp 85) (.const (.int .i64 0)) 3, some (9, false)) from by kernel_rfl) (by kernel_rfl) (by kernel_rfl) (by kernel_rfl) (by kernel_rfl) (congrArg some (beq_eq_false_iff_ne.2 tr)) ?_
            refine run_pick (b := false) (v := .bool false) (show opAt (opsOf Tryd.f3 15) 13 = some (some 87, .pick (.tmp 83) (.const (.bool true)) (.tmp 86), some (5, true)) from by kernel_rfl) (by kernel_rfl) (by kernel_rfl) (by kernel_rfl) (by kernel_rfl) ?_
            refine run_mov (v := .bool false) (show opAt (opsOf Tryd.f3 15) 14 = some (some 88, .move (.tmp 87), some (5, true)) from by kernel_rfl) (by kernel_rfl) (by kernel_rfl) (by kernel_rfl) ?_
            refine run_part (b := ge) rfl (by kernel_rfl) (show opAt (opsOf Tryd.f3 15) 15 = some (some 89, .fieldAddr 25 (.tmp 8) 0, some (14, false)) from by kernel_rfl) (by kernel_rfl) (by kernel_rfl) (by kernel_rfl) ?_
            refine run_num ee (b := ge) (show opAt (opsOf Tryd.f3 15) 16 = some (some 90, .load 3 (.tmp 89), some (14, false)) from by kernel_rfl) (by kernel_rfl) (by kernel_rfl) (by kernel_rfl) (List.Mem.tail _ (List.Mem.tail _ (List.Mem.tail _ (List.Mem.tail _ (List.Mem.tail _ (List.Mem.head _)))))) ?_
            refine run_cmp (k := .i64) (p := ee.n) (q := 0) (b := false) (show opAt (opsOf Tryd.f3 15) 17 = some (some 91, .binOp .lss 3 (.tmp 90) (.const (.int .i64 0)) 3, some (14, false)) from by kernel_rfl) (by kernel_rfl) (by kernel_rfl) (by kernel_rfl) (by kernel_rfl) (congrArg some (decide_eq_false (by omega))) ?_
            refine run_pick (b := false) (v := .bool false) (show opAt (opsOf Tryd.f3 15) 18 = some (some 92, .pick (.tmp 88) (.const (.bool true)) (.tmp 91), some (5, true)) from by kernel_rfl) (by kernel_rfl) (by kernel_rfl) (by kernel_rfl) (by kernel_rfl) ?_
            refine run_mov (v := .bool false) (show opAt (opsOf Tryd.f3 15) 19 = some (some 93, .move (.tmp 92), some (5, true)) from by kernel_rfl) (by kernel_rfl) (by kernel_rfl) (by kernel_rfl) ?_
            refine run_item qq (b := gqq) (show opAt (opsOf Tryd.f3 15) 20 = some (some 94, .load 25 (.tmp 10), some (19, false)) from by kernel_rfl) (by kernel_rfl) (by kernel_rfl) (by kernel_rfl) (List.Mem.tail _ (List.Mem.tail _ (List.Mem.tail _ (List.Mem.head _)))) ?_
            refine run_item rr (b := grr) (show opAt (opsOf Tryd.f3 15) 21 = some (some 95, .load 25 (.tmp 11), some (19, false)) from by kernel_rfl) (by kernel_rfl) (by kernel_rfl) (by kernel_rfl) (List.Mem.tail _ (List.Mem.tail _ (List.Mem.head _))) ?_
            refine run_same (v := .bool true) (p := .agg #[.int .i64 qq.n, .int .i64 qq.d, .string qq.t]) (q := .agg #[.int .i64 rr.n, .int .i64 rr.d, .string rr.t]) (show opAt (opsOf Tryd.f3 15) 22 = some (some 96, .binOp .eql 25 (.tmp 94) (.tmp 95) 25, some (19, false)) from by kernel_rfl) (by kernel_rfl) (by kernel_rfl) (by kernel_rfl) (by kernel_rfl) (fun w' => eql_item tqr.out) ?_
            refine run_pick (b := false) (v := .bool true) (show opAt (opsOf Tryd.f3 15) 23 = some (some 97, .pick (.tmp 93) (.const (.bool true)) (.tmp 96), some (5, true)) from by kernel_rfl) (by kernel_rfl) (by kernel_rfl) (by kernel_rfl) (by kernel_rfl) ?_
            refine run_pick (b := true) (v := .bool true) (show opAt (opsOf Tryd.f3 15) 24 = some (some 98, .pick (.tmp 79) (.tmp 97) (.const (.bool false)), none) from by kernel_rfl) (by kernel_rfl) (by kernel_rfl) (by kernel_rfl) (by kernel_rfl) ?_
            refine run_mov (v := .bool true) (show opAt (opsOf Tryd.f3 15) 25 = some (some 99, .move (.tmp 98), none) from by kernel_rfl) (by kernel_rfl) (by kernel_rfl) (by kernel_rfl) ?_
            refine run_mov (v := .int .i64 cc) (show opAt (opsOf Tryd.f3 15) 26 = some (some 100, .move (.tmp 14), some (25, true)) from by kernel_rfl) (by kernel_rfl) (by kernel_rfl) (by kernel_rfl) ?_
            rcases CM.out with ⟨tc, td⟩ | ⟨tc, td, te⟩ | ⟨tc, te⟩
            · clear CM
              refine run_cmp (k := .i64) (p := cc) (q := 2) (b := true) (show opAt (opsOf Tryd.f3 15) 27 = some (some 101, .binOp .eql 3 (.tmp 100) (.const (.int .i64 2)) 3, some (25, true)) from by kernel_rfl) (by kernel_rfl) (by kernel_rfl) (by kernel_rfl) (by kernel_rfl) (congrArg some (beq_iff_eq.2 tc)) ?_
              refine run_mov (v := .bool true) (show opAt (opsOf Tryd.f3 15) 28 = some (some 102, .move (.tmp 101), some (25, true)) from by kernel_rfl) (by kernel_rfl) (by kernel_rfl) (by kernel_rfl) ?_
              refine run_mov (v := .int .i64 dd) (show opAt (opsOf Tryd.f3 15) 29 = some (some 103, .move (.tmp 15), some (28, true)) from by kernel_rfl) (by kernel_rfl) (by kernel_rfl) (by kernel_rfl) ?_
              refine run_cmp (k := .i64) (p := dd) (q := 2) (b := true) (show opAt (opsOf Tryd.f3 15) 30 = some (some 104, .binOp .eql 3 (.tmp 103) (.const (.int .i64 2)) 3, some (28, true)) from by kernel_rfl) (by kernel_rfl) (by kernel_rfl) (by kernel_rfl) (by kernel_rfl) (congrArg some (beq_iff_eq.2 td)) ?_
              refine run_pick (b := true) (v := .bool true) (show opAt (opsOf Tryd.f3 15) 31 = some (some 105, .pick (.tmp 102) (.tmp 104) (.const (.bool false)), some (25, true)) from by kernel_rfl) (by kernel_rfl) (by kernel_rfl) (by kernel_rfl) (by kernel_rfl) ?_
              refine run_mov (v := .bool true) (show opAt (opsOf Tryd.f3 15) 32 = some (some 106, .move (.tmp 105), some (25, true)) from by kernel_rfl) (by kernel_rfl) (by kernel_rfl) (by kernel_rfl) ?_
              refine run_skip (show opAt (opsOf Tryd.f3 15) 33 = some (some 107, .move (.tmp 14), some (32, false)) from by kernel_rfl) (by kernel_rfl) (by kernel_rfl) ?_
              refine run_skip (show opAt (opsOf Tryd.f3 15) 34 = some (some 108, .move (.tmp 15), some (32, false)) from by kernel_rfl) (by kernel_rfl) (by kernel_rfl) ?_
              refine run_skip (show opAt (opsOf Tryd.f3 15) 35 = some (some 109, .unOp .neg 3 (.tmp 108), some (32, false)) from by kernel_rfl) (by kernel_rfl) (by kernel_rfl) ?_
              refine run_skip (show opAt (opsOf Tryd.f3 15) 36 = some (some 110, .binOp .eql 3 (.tmp 107) (.tmp 109) 3, some (32, false)) from by kernel_rfl) (by kernel_rfl) (by kernel_rfl) ?_
              refine run_pick (b := true) (v := .bool true) (show opAt (opsOf Tryd.f3 15) 37 = some (some 111, .pick (.tmp 106) (.const (.bool true)) (.tmp 110), some (25, true)) from by kernel_rfl) (by kernel_rfl) (by kernel_rfl) (by kernel_rfl) (by kernel_rfl) ?_
              refine run_pick (b := true) (v := .bool true) (show opAt (opsOf Tryd.f3 15) 38 = some (some 112, .pick (.tmp 99) (.tmp 111) (.const (.bool false)), none) from by kernel_rfl) (by kernel_rfl) (by kernel_rfl) (by kernel_rfl) (by kernel_rfl) ?_
              refine run_asg (v := .bool true) (show opAt (opsOf Tryd.f3 15) 39 = some (some 2, .assign (.tmp 112), none) from by kernel_rfl) (by kernel_rfl) (by kernel_rfl) (by kernel_rfl) ?_
              refine run_done ?_
              simp only [putAll, Act.put, List.setIfInBounds_toArray, List.set_cons_zero, List.set_cons_succ]
              go_wp2
              go_ret
              exact ⟨rfl, H.out.1⟩
            · clear CM
              refine run_cmp (k := .i64) (p := cc) (q := 2) (b := true) (show opAt (opsOf Tryd.f3 15) 27 = some (some 101, .binOp .eql 3 (.tmp 100) (.const (.int .i64 2)) 3, some (25, true)) from by kernel_rfl) (by kernel_rfl) (by kernel_rfl) (by kernel_rfl) (by kernel_rfl) (congrArg some (beq_iff_eq.2 tc)) ?_
              refine run_mov (v := .bool true) (show opAt (opsOf Tryd.f3 15) 28 = some (some 102, .move (.tmp 101), some (25, true)) from by kernel_rfl) (by kernel_rfl) (by kernel_rfl) (by kernel_rfl) ?_
              refine run_mov (v := .int .i64 dd) (show opAt (opsOf Tryd.f3 15) 29 = some (some 103, .move (.tmp 15), some (28, true)) from by kernel_rfl) (by kernel_rfl) (by kernel_rfl) (by kernel_rfl) ?_
              refine run_cmp (k := .i64) (p := dd) (q := 2) (b := false) (show opAt (opsOf Tryd.f3 15) 30 = some (some 104, .binOp .eql 3 (.tmp 103) (.const (.int .i64 2)) 3, some (28, true)) from by kernel_rfl) (by kernel_rfl) (by kernel_rfl) (by kernel_rfl) (by kernel_rfl) (congrArg some (beq_eq_false_iff_ne.2 td)) ?_
              refine run_pick (b := true) (v := .bool false) (show opAt (opsOf Tryd.f3 15) 31 = some (some 105, .pick (.tmp 102) (.tmp 104) (.const (.bool false)), some (25, true)) from by kernel_rfl) (by kernel_rfl) (by kernel_rfl) (by kernel_rfl) (by kernel_rfl) ?_
              refine run_mov (v := .bool false) (show opAt (opsOf Tryd.f3 15) 32 = some (some 106, .move (.tmp 105), some (25, true)) from by kernel_rfl) (by kernel_rfl) (by kernel_rfl) (by kernel_rfl) ?_
              refine run_mov (v := .int .i64 cc) (show opAt (opsOf Tryd.f3 15) 33 = some (some 107, .move (.tmp 14), some (32, false)) from by kernel_rfl) (by kernel_rfl) (by kernel_rfl) (by kernel_rfl) ?_
              refine run_mov (v := .int .i64 dd) (show opAt (opsOf Tryd.f3 15) 34 = some (some 108, .move (.tmp 15), some (32, false)) from by kernel_rfl) (by kernel_rfl) (by kernel_rfl) (by kernel_rfl) ?_
              refine run_neg (k := .i64) (p := dd) (z := -dd) (show opAt (opsOf Tryd.f3 15) 35 = some (some 109, .unOp .neg 3 (.tmp 108), some (32, false)) from by kernel_rfl) (by kernel_rfl) (by kernel_rfl) (by kernel_rfl) wd ?_
              refine run_cmp (k := .i64) (p := cc) (q := -dd) (b := true) (show opAt (opsOf Tryd.f3 15) 36 = some (some 110, .binOp .eql 3 (.tmp 107) (.tmp 109) 3, some (32, false)) from by kernel_rfl) (by kernel_rfl) (by kernel_rfl) (by kernel_rfl) (by kernel_rfl) (congrArg some (beq_iff_eq.2 te)) ?_
              refine run_pick (b := false) (v := .bool true) (show opAt (opsOf Tryd.f3 15) 37 = some (some 111, .pick (.tmp 106) (.const (.bool true)) (.tmp 110), some (25, true)) from by kernel_rfl) (by kernel_rfl) (by kernel_rfl) (by kernel_rfl) (by kernel_rfl) ?_
              refine run_pick (b := true) (v := .bool true) (show opAt (opsOf Tryd.f3 15) 38 = some (some 112, .pick (.tmp 99) (.tmp 111) (.const (.bool false)), none) from by kernel_rfl) (by kernel_rfl) (by kernel_rfl) (by kernel_rfl) (by kernel_rfl) ?_
              refine run_asg (v := .bool true) (show opAt (opsOf Tryd.f3 15) 39 = some (some 2, .assign (.tmp 112), none) from by kernel_rfl) (by kernel_rfl) (by kernel_rfl) (by kernel_rfl) ?_
              refine run_done ?_
              simp only [putAll, Act.put, List.setIfInBounds_toArray, List.set_cons_zero, List.set_cons_succ]
              go_wp2
              go_ret
              exact ⟨rfl, H.out.1⟩
            · clear CM
              refine run_cmp (k := .i64) (p := cc) (q := 2) (b := false) (show opAt (opsOf Tryd.f3 15) 27 = some (some 101, .binOp .eql 3 (.tmp 100) (.const (.int .i64 2)) 3, some (25, true)) from by kernel_rfl) (by kernel_rfl) (by kernel_rfl) (by kernel_rfl) (by kernel_rfl) (congrArg some (beq_eq_false_iff_ne.2 tc)) ?_
              refine run_mov (v := .bool false) (show opAt (opsOf Tryd.f3 15) 28 = some (some 102, .move (.tmp 101), some (25, true)) from by kernel_rfl) (by kernel_rfl) (by kernel_rfl) (by kernel_rfl) ?_
              refine run_skip (show opAt (opsOf Tryd.f3 15) 29 = some (some 103, .move (.tmp 15), some (28, true)) from by kernel_rfl) (by kernel_rfl) (by kernel_rfl) ?_
              refine run_skip (show opAt (opsOf Tryd.f3 15) 30 = some (some 104, .binOp .eql 3 (.tmp 103) (.const (.int .i64 2)) 3, some (28, true)) from by kernel_rfl) (by kernel_rfl) (by kernel_rfl) ?_
              refine run_pick (b := false) (v := .bool false) (show opAt (opsOf Tryd.f3 15) 31 = some (some 105, .pick (.tmp 102) (.tmp 104) (.const (.bool false)), some (25, true)) from by kernel_rfl) (by kernel_rfl) (by kernel_rfl) (by kernel_rfl) (by kernel_rfl) ?_
              refine run_mov (v := .bool false) (show opAt (opsOf Tryd.f3 15) 32 = some (some 106, .move (.tmp 105), some (25, true)) from by kernel_rfl) (by kernel_rfl) (by kernel_rfl) (by kernel_rfl) ?_
              refine run_mov (v := .int .i64 cc) (show opAt (opsOf Tryd.f3 15) 33 = some (some 107, .move (.tmp 14), some (32, false)) from by kernel_rfl) (by kernel_rfl) (by kernel_rfl) (by kernel_rfl) ?_
              refine run_mov (v := .int .i64 dd) (show opAt (opsOf Tryd.f3 15) 34 = some (some 108, .move (.tmp 15), some (32, false)) from by kernel_rfl) (by kernel_rfl) (by kernel_rfl) (by kernel_rfl) ?_
              refine run_neg (k := .i64) (p := dd) (z := -dd) (show opAt (opsOf Tryd.f3 15) 35 = some (some 109, .unOp .neg 3 (.tmp 108), some (32, false)) from by kernel_rfl) (by kernel_rfl) (by kernel_rfl) (by kernel_rfl) wd ?_
              refine run_cmp (k := .i64) (p := cc) (q := -dd) (b := true) (show opAt (opsOf Tryd.f3 15) 36 = some (some 110, .binOp .eql 3 (.tmp 107) (.tmp 109) 3, some (32, false)) from by kernel_rfl) (by kernel_rfl) (by kernel_rfl) (by kernel_rfl) (by kernel_rfl) (congrArg some (beq_iff_eq.2 te)) ?_
              refine run_pick (b := false) (v := .bool true) (show opAt (opsOf Tryd.f3 15) 37 = some (some 111, .pick (.tmp 106) (.const (.bool true)) (.tmp 110), some (25, true)) from by kernel_rfl) (by kernel_rfl) (by kernel_rfl) (by kernel_rfl) (by kernel_rfl) ?_
              refine run_pick (b := true) (v := .bool true) (show opAt (opsOf Tryd.f3 15) 38 = some (some 112, .pick (.tmp 99) (.tmp 111) (.const (.bool false)), none) from by kernel_rfl) (by kernel_rfl) (by kernel_rfl) (by kernel_rfl) (by kernel_rfl) ?_
              refine run_asg (v := .bool true) (show opAt (opsOf Tryd.f3 15) 39 = some (some 2, .assign (.tmp 112), none) from by kernel_rfl) (by kernel_rfl) (by kernel_rfl) (by kernel_rfl) ?_
              refine run_done ?_
              simp only [putAll, Act.put, List.setIfInBounds_toArray, List.set_cons_zero, List.set_cons_succ]
              go_wp2
              go_ret
              exact ⟨rfl, H.out.1⟩

set_option maxRecDepth 100000 in
theorem contract (H : Type) (enc : TypeId × Value → H) (W : World) (base : Nat) (args : Array Value) (ds gs : List (DataW H)) (before : List MemPlace)
    (hval : ∀ (j : Nat) t v, Tryd.f3.params[j]? = some t → args[j]? = some v → Value.okWide Tryd.prog W .any base t v)
    (hW : DataW.Whole enc Tryd.prog Tryd.f3.params.toList Rows.fnNumberTextsSpec.vars false W args.toList ds gs before) (hL : laidMetH Tryd.prog Rows.fnNumberTextsRow.laid W) (hsh : W.ShapedOpen Tryd.prog) :
    Calls Tryd.prog 3 args W fun e W' => ∃ v, e = .returned v ∧ Rows.fnNumberTextsSpec.post enc Tryd.prog Tryd.f3 false true false false W args v W' := by
  have hW' := hW
  obtain ⟨p, q, hA0, hV, rfl, hfz, hnd⟩ := hW
  have hA : DataW.TrodAll enc Tryd.prog W 0 (fun _ => true) true Tryd.f3.params.toList args.toList ds p := hA0
  rw [Tryd.params3] at hA hval
  obtain ⟨v0, vs0, d0, ds0, p0, q0, hargs0, rfl, rfl, h0, r0⟩ := trodAll_cons hA
  obtain ⟨hnil, rfl, rfl⟩ := trodAll_nil r0
  have eargs : args.toList = [v0] := by rw [hargs0, hnil]
  obtain rfl : args = #[v0] := Array.toList_inj.1 eargs
  obtain ⟨rfl, rfl⟩ := trodVars_none hV
  have k0 := h0
  have lt0 : ∀ x ∈ p0, x.block < W.heap.size := by obtain ⟨m, hm⟩ := k0; exact DataW.trod_lt m _ _ _ hm
  clear hA0 eargs hargs0
  obtain ⟨a0, n0, cap0, rfl⟩ := okWide_slice Tryd.underlying22 (hval 0 22 v0 rfl rfl)
  have hs0 : CodeAt W.heap.size W a0 n0 := by
    obtain ⟨fuel, hf⟩ := h0
    exact bytes_inF hf
  have hl : laidMet Tryd.prog Rows.fnNumberTextsRow.laid W := (MakeChecks.laidMetH_plain Tryd.prog Rows.fnNumberTextsRow.laid W (by kernel_rfl)) ▸ hL
  refine (walk a0 n0 cap0 W hs0 (pow_of hl) (errs_of hl) hsh).mono fun e W' ⟨he, bel⟩ => ?_
  subst he
  have kp0 := Below.trod laidOut (show Tryd.prog.readableRec 22 = true by kernel_rfl) (of_decide_eq_true (by kernel_rfl)) k0 bel lt0
  exact ⟨_, rfl, _, _, _, [], _, [], hW', trodAll_mk1 (shut_bool Tryd.underlying4 _), (trodAll_cons_mk kp0 trodAll_mk0), rfl, bel.frame _, fun h => by cases h⟩

/-- The heap that the program's own initialisers leave meets the list. -/
theorem door_met (os : Os) (args : Array Value) : laidMetH Tryd.prog Rows.fnNumberTextsRow.laid ((World.doorLaid Tryd.prog 62 os).forCall (fun _ _ => 0) ⟨#[], args, []⟩).memory :=
  laidMetH_of_parts3 (fuel := 8) (laidMet_of_run' 8 (by kernel_rfl) (by kernel_rfl)) (by kernel_rfl) (by kernel_rfl)
theorem reads (os : Os) {H : Type} (enc : TypeId × Value → H) : ∃ places, DataW.whole enc Tryd.prog ((World.doorLaid Tryd.prog 62 os).forCall (fun _ _ => 0) ⟨#[], #[.slice none 0 0], []⟩).memory Tryd.f3.params.toList Rows.fnNumberTextsSpec.vars false #[.slice none 0 0].toList 8 = some ([.nil], [], places) :=
  ⟨[], by kernel_rfl⟩

set_option maxRecDepth 100000 in
theorem lifted (os : Os) (started : os.Started) (H : Type) (enc : TypeId × Value → H) (F : Stop.Interp) :
    ReturnsInHanded {} Tryd.checked os 3 .any ((OpenSpec.ofChange Rows.fnNumberTextsSpec).preRow enc Tryd.prog Tryd.f3 Rows.fnNumberTextsRow.domain false Rows.fnNumberTextsRow.laid) (((OpenSpec.ofChange Rows.fnNumberTextsSpec).at F).post enc Tryd.prog Tryd.f3 false true false false) := by
  obtain ⟨places, hx⟩ := reads os enc
  refine returnsInHanded_of_row (C := Tryd.checked) (s := OpenSpec.ofChange Rows.fnNumberTextsSpec) own started (by kernel_rfl) Tryd.func3
    ⟨World.doorLaid Tryd.prog 62 os, fun _ _ => 0, ⟨#[], #[.slice none 0 0], []⟩, rfl, World.shaped_of_RefB (by kernel_rfl) (by kernel_rfl), rfl, (Input.okWide_of_okWideB (by kernel_rfl)).2,
      OpenSpec.preRow_of_cond 8 hx (by kernel_rfl) (fun k hk => by cases hk) (by kernel_rfl) (door_met os _), by simp [Assume.holds]⟩ ?_
  intro W base args ds gs before hval hW _ _ _ hL hsh _
  exact contract H enc W base args ds gs before hval hW hL hsh

theorem said : Rows.FnNumberTextsSaid :=
  OpenClaim.holds_of_cond 3 Tryd.f3 rfl rfl rfl rfl rfl rfl rfl ⟨rfl, rfl, rfl, rfl, rfl⟩ rfl rfl rfl rfl rfl (by kernel_rfl) Tryd.func3 (by kernel_rfl)
    (of_decide_eq_true (by kernel_rfl)) (by unfold Func.isWrapper; first | (rw [if_pos (by decide +kernel)]; kernel_rfl) | (rw [if_neg (by decide +kernel)]; exact ⟨rfl, rfl⟩))
    (fun os started H enc _ F => by rw [OpenClaim.pre_eq_preRow]; exact lifted os started H enc F)

theorem plain (f : FuncId) (fn : Func) (hf : Tryd.pinned.checked.prog.funcNamed "loop.example/g03406/laws.FnNumberTexts" = some f) (hfn : Tryd.pinned.checked.prog.funcs[f]? = some fn) :
    true = Tryd.pinned.checked.prog.looks [] ∧ ∀ (j : Nat) t, fn.params[j]? = some t → Tryd.pinned.checked.prog.wantsStandIn t = false := by
  obtain rfl : f = 3 := Option.some.inj ((show Tryd.prog.funcNamed "loop.example/g03406/laws.FnNumberTexts" = some 3 by kernel_rfl).symm.trans hf) |>.symm
  obtain rfl : fn = Tryd.f3 := (Option.some.inj (Tryd.func3.symm.trans hfn)).symm
  refine ⟨by kernel_rfl, fun j t ht => ?_⟩
  rw [Tryd.params3] at ht
  have hm := Array.mem_of_getElem? ht
  simp at hm
  rcases hm with rfl
  · exact (show Tryd.prog.wantsStandIn 22 = false by kernel_rfl)

theorem card : Rows.FnNumberTextsCardSaid :=
  Claim7.holds_tied_plain_at .later [] _ _ _ _ said (fun _ h => by cases h) (by kernel_rfl) (fun _ h => by cases h) fnNumberTexts_row_tie rfl ⟨rfl, rfl⟩ (by kernel_rfl) rfl plain (by kernel_rfl)
end Go.Proofs.YtmglolpiekbnpaaDoor.fnNumberTexts
