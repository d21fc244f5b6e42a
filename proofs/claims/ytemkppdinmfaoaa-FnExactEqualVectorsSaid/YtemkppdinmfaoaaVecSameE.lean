/- EqualVectors, both sides. -/
import Derived.Test.YtemkppdinmfaoaaRows
import Derived.Test.YtemkppdinmfaoaaVecSameI
import Derived.Test.YtemkppdinmfaoaaVecSameS
import Derived.WalkKit
import Derived.Lib.Hide
namespace Go.Proofs.Ytemkppdinmfaoaa
open Go.RowKit
set_option maxRecDepth 100000
set_option linter.unusedVariables false

set_option maxHeartbeats 2000000 in
theorem specEqualVectors (d d2 : Nat) (a b : Vec) (x y : Value) (lo hi lo' hi' : Nat) (w : World) (hv : VecAt lo hi w d a x) (hhi : hi ≤ w.heap.size) (hv' : VecAt lo' hi' w d2 b y) (hhi' : hi' ≤ w.heap.size) (hsm : Small d a) (hsm' : Small d2 b) :
    Calls Try.prog 47 #[x, y] w fun e w' => e = .returned (.bool (bB (ValidV a ∧ ValidV b ∧ a = b))) ∧ Below w.heap.size w w' := by
  have C1 := Lib.hid (fun (w1 : World) (hb : Below w.heap.size w w1) => specIsVector d a x lo hi w1 (hv.below hb hhi) (Nat.le_trans hhi hb.size) hsm)
  have C2 := Lib.hid (fun (w1 : World) (hb : Below w.heap.size w w1) => specIsVector d2 b y lo' hi' w1 (hv'.below hb hhi') (Nat.le_trans hhi' hb.size) hsm')
  have C3 := Lib.hid (fun (w1 : World) (hb : Below w.heap.size w w1) => (ssAll d).out a b x y d2 lo hi lo' hi' w1 (hv.below hb hhi) (Nat.le_trans hhi hb.size) (hv'.below hb hhi') (Nat.le_trans hhi' hb.size) hsm hsm')
  obtain ⟨VV, hVV⟩ : ∃ V, a = V := ⟨_, rfl⟩
  obtain ⟨VV', hVV'⟩ : ∃ V, b = V := ⟨_, rfl⟩
  have HV := Lib.hid hVV
  have HV' := Lib.hid hVV'
  rw [hVV] at C1 C3 ⊢
  rw [hVV'] at C2 C3 ⊢
  clear hVV hVV'
  obtain ⟨kk, items, parts, names, cls, levels, code, env⟩ := a
  obtain ⟨kk', items', parts', names', cls', levels', code', env'⟩ := b
  obtain ⟨d', ai, ci, ap, cp, an, cn, ac, cc, al, cl, ed, rfl, _⟩ := vecAt_open hv
  obtain ⟨e', ai', ci', ap', cp', an', cn', ac', cc', al', cl', ed', rfl, _⟩ := vecAt_open hv'
  clear hv hv' hsm hsm' HV HV' ed ed'
  go_enter Try.func47, Try.ntmps47
  go_wp2_with fail
  have B0 := Lib.hid (below2 w (.cells #[.int .i64 kk, .slice ai items.length ci, .slice ap parts.length cp, .slice an names.length cn, .slice ac cls.length cc, .slice al levels.length cl, .int .i64 code, .int .i64 env] 32) (.cells #[.int .i64 kk', .slice ai' items'.length ci', .slice ap' parts'.length cp', .slice an' names'.length cn', .slice ac' cls'.length cc', .slice al' levels'.length cl', .int .i64 code', .int .i64 env'] 32))
  have KA0 := Lib.hid (blk_old (p := .cells #[.int .i64 kk', .slice ai' items'.length ci', .slice ap' parts'.length cp', .slice an' names'.length cn', .slice ac' cls'.length cc', .slice al' levels'.length cl', .int .i64 code', .int .i64 env'] 32) (blk_new w (.cells #[.int .i64 kk, .slice ai items.length ci, .slice ap parts.length cp, .slice an names.length cn, .slice ac cls.length cc, .slice al levels.length cl, .int .i64 code, .int .i64 env] 32) rfl))
  have KB0 := Lib.hid (blk_new (w.alloc (.cells #[.int .i64 kk, .slice ai items.length ci, .slice ap parts.length cp, .slice an names.length cn, .slice ac cls.length cc, .slice al levels.length cl, .int .i64 code, .int .i64 env] 32)) (.cells #[.int .i64 kk', .slice ai' items'.length ci', .slice ap' parts'.length cp', .slice an' names'.length cn', .slice ac' cls'.length cc', .slice al' levels'.length cl', .int .i64 code', .int .i64 env'] 32) (show w.heap.size + 1 = _ by simp))
  with_reducible refine (C1.out _ B0.out).mono ?_
  rintro e w1 ⟨rfl, b⟩
  have B1 := Lib.hid (below_then B0.out b)
  have KA1 := Lib.hid (blk_below b KA0.out)
  have KB1 := Lib.hid (blk_below b KB0.out)
  clear b
  obtain ⟨k0, k1, k2, k3, k4, k5, k6, k7⟩ := vec8 KA1.out
  obtain ⟨l0, l1, l2, l3, l4, l5, l6, l7⟩ := vec8 KB1.out
  by_cases q1 : ValidV VV
  · rw [bB_yes q1]
    have Q1 := Lib.hid q1
    clear q1
    go_wp2_with fail
    with_reducible refine (C2.out _ B1.out).mono ?_
    rintro e w2 ⟨rfl, b⟩
    have B2 := Lib.hid (below_then B1.out b)
    have KA2 := Lib.hid (blk_below b KA1.out)
    have KB2 := Lib.hid (blk_below b KB1.out)
    clear b k0 k1 k2 k3 k4 k5 k6 k7 l0 l1 l2 l3 l4 l5 l6 l7
    obtain ⟨k0, k1, k2, k3, k4, k5, k6, k7⟩ := vec8 KA2.out
    obtain ⟨l0, l1, l2, l3, l4, l5, l6, l7⟩ := vec8 KB2.out
    by_cases q2 : ValidV VV'
    · rw [bB_yes q2]
      have Q2 := Lib.hid q2
      clear q2
      go_wp2_with fail
      with_reducible refine (C3.out _ B2.out).mono ?_
      rintro e w3 ⟨rfl, b⟩
      have B3 := Lib.hid (below_then B2.out b)
      clear b k0 k1 k2 k3 k4 k5 k6 k7 l0 l1 l2 l3 l4 l5 l6 l7
      by_cases q3 : VV = VV'
      · have X := Lib.hid (show ValidV VV ∧ ValidV VV' ∧ VV = VV' from ⟨Q1.out, Q2.out, q3⟩)
        rw [bB_yes q3]
        clear q3
        go_wp2
        go_ret
        exact ⟨ret_yes X.out, B3.out⟩
      · have X := Lib.hid (show ¬ (ValidV VV ∧ ValidV VV' ∧ VV = VV') from fun h => q3 h.2.2)
        rw [bB_no q3]
        clear q3
        go_wp2
        go_ret
        exact ⟨ret_no X.out, B3.out⟩
    · have X := Lib.hid (show ¬ (ValidV VV ∧ ValidV VV' ∧ VV = VV') from fun h => q2 h.2.1)
      rw [bB_no q2]
      clear q2
      go_wp2
      go_ret
      exact ⟨ret_no X.out, B2.out⟩
  · have X := Lib.hid (show ¬ (ValidV VV ∧ ValidV VV' ∧ VV = VV') from fun h => q1 h.1)
    rw [bB_no q1]
    clear q1
    go_wp2
    go_ret
    exact ⟨ret_no X.out, B1.out⟩
set_option maxHeartbeats 2000000 in
theorem implEqualVectors (d d2 : Nat) (a b : Vec) (x y : Value) (lo hi lo' hi' : Nat) (w : World) (hv : VecAt lo hi w d a x) (hhi : hi ≤ w.heap.size) (hv' : VecAt lo' hi' w d2 b y) (hhi' : hi' ≤ w.heap.size) (hsm : Small d a) (hsm' : Small d2 b) :
    Calls Try.prog 48 #[x, y] w fun e w' => e = .returned (.bool (bB (ValidV a ∧ ValidV b ∧ a = b))) ∧ Below w.heap.size w w' := by
  have C1 := Lib.hid (fun (w1 : World) (hb : Below w.heap.size w w1) => implIsVector d a x lo hi w1 (hv.below hb hhi) (Nat.le_trans hhi hb.size) hsm)
  have C2 := Lib.hid (fun (w1 : World) (hb : Below w.heap.size w w1) => implIsVector d2 b y lo' hi' w1 (hv'.below hb hhi') (Nat.le_trans hhi' hb.size) hsm')
  have C3 := Lib.hid (fun (w1 : World) (hb : Below w.heap.size w w1) => (heAll d).out a b x y d2 lo hi lo' hi' w1 (hv.below hb hhi) (Nat.le_trans hhi hb.size) (hv'.below hb hhi') (Nat.le_trans hhi' hb.size) hsm hsm')
  obtain ⟨VV, hVV⟩ : ∃ V, a = V := ⟨_, rfl⟩
  obtain ⟨VV', hVV'⟩ : ∃ V, b = V := ⟨_, rfl⟩
  have HV := Lib.hid hVV
  have HV' := Lib.hid hVV'
  rw [hVV] at C1 C3 ⊢
  rw [hVV'] at C2 C3 ⊢
  clear hVV hVV'
  obtain ⟨kk, items, parts, names, cls, levels, code, env⟩ := a
  obtain ⟨kk', items', parts', names', cls', levels', code', env'⟩ := b
  obtain ⟨d', ai, ci, ap, cp, an, cn, ac, cc, al, cl, ed, rfl, _⟩ := vecAt_open hv
  obtain ⟨e', ai', ci', ap', cp', an', cn', ac', cc', al', cl', ed', rfl, _⟩ := vecAt_open hv'
  clear hv hv' hsm hsm' HV HV' ed ed'
  go_enter Try.func48, Try.ntmps48
  go_wp2_with fail
  have B0 := Lib.hid (below2 w (.cells #[.int .i64 kk, .slice ai items.length ci, .slice ap parts.length cp, .slice an names.length cn, .slice ac cls.length cc, .slice al levels.length cl, .int .i64 code, .int .i64 env] 32) (.cells #[.int .i64 kk', .slice ai' items'.length ci', .slice ap' parts'.length cp', .slice an' names'.length cn', .slice ac' cls'.length cc', .slice al' levels'.length cl', .int .i64 code', .int .i64 env'] 32))
  have KA0 := Lib.hid (blk_old (p := .cells #[.int .i64 kk', .slice ai' items'.length ci', .slice ap' parts'.length cp', .slice an' names'.length cn', .slice ac' cls'.length cc', .slice al' levels'.length cl', .int .i64 code', .int .i64 env'] 32) (blk_new w (.cells #[.int .i64 kk, .slice ai items.length ci, .slice ap parts.length cp, .slice an names.length cn, .slice ac cls.length cc, .slice al levels.length cl, .int .i64 code, .int .i64 env] 32) rfl))
  have KB0 := Lib.hid (blk_new (w.alloc (.cells #[.int .i64 kk, .slice ai items.length ci, .slice ap parts.length cp, .slice an names.length cn, .slice ac cls.length cc, .slice al levels.length cl, .int .i64 code, .int .i64 env] 32)) (.cells #[.int .i64 kk', .slice ai' items'.length ci', .slice ap' parts'.length cp', .slice an' names'.length cn', .slice ac' cls'.length cc', .slice al' levels'.length cl', .int .i64 code', .int .i64 env'] 32) (show w.heap.size + 1 = _ by simp))
  with_reducible refine (C1.out _ B0.out).mono ?_
  rintro e w1 ⟨rfl, b⟩
  have B1 := Lib.hid (below_then B0.out b)
  have KA1 := Lib.hid (blk_below b KA0.out)
  have KB1 := Lib.hid (blk_below b KB0.out)
  clear b
  obtain ⟨k0, k1, k2, k3, k4, k5, k6, k7⟩ := vec8 KA1.out
  obtain ⟨l0, l1, l2, l3, l4, l5, l6, l7⟩ := vec8 KB1.out
  by_cases q1 : ValidV VV
  · rw [bB_yes q1]
    have Q1 := Lib.hid q1
    clear q1
    go_wp2_with fail
    with_reducible refine (C2.out _ B1.out).mono ?_
    rintro e w2 ⟨rfl, b⟩
    have B2 := Lib.hid (below_then B1.out b)
    have KA2 := Lib.hid (blk_below b KA1.out)
    have KB2 := Lib.hid (blk_below b KB1.out)
    clear b k0 k1 k2 k3 k4 k5 k6 k7 l0 l1 l2 l3 l4 l5 l6 l7
    obtain ⟨k0, k1, k2, k3, k4, k5, k6, k7⟩ := vec8 KA2.out
    obtain ⟨l0, l1, l2, l3, l4, l5, l6, l7⟩ := vec8 KB2.out
    by_cases q2 : ValidV VV'
    · rw [bB_yes q2]
      have Q2 := Lib.hid q2
      clear q2
      go_wp2_with fail
      with_reducible refine (C3.out _ B2.out).mono ?_
      rintro e w3 ⟨rfl, b⟩
      have B3 := Lib.hid (below_then B2.out b)
      clear b k0 k1 k2 k3 k4 k5 k6 k7 l0 l1 l2 l3 l4 l5 l6 l7
      by_cases q3 : VV = VV'
      · have X := Lib.hid (show ValidV VV ∧ ValidV VV' ∧ VV = VV' from ⟨Q1.out, Q2.out, q3⟩)
        rw [bB_yes q3]
        clear q3
        go_wp2
        go_ret
        exact ⟨ret_yes X.out, B3.out⟩
      · have X := Lib.hid (show ¬ (ValidV VV ∧ ValidV VV' ∧ VV = VV') from fun h => q3 h.2.2)
        rw [bB_no q3]
        clear q3
        go_wp2
        go_ret
        exact ⟨ret_no X.out, B3.out⟩
    · have X := Lib.hid (show ¬ (ValidV VV ∧ ValidV VV' ∧ VV = VV') from fun h => q2 h.2.1)
      rw [bB_no q2]
      clear q2
      go_wp2
      go_ret
      exact ⟨ret_no X.out, B2.out⟩
  · have X := Lib.hid (show ¬ (ValidV VV ∧ ValidV VV' ∧ VV = VV') from fun h => q1 h.1)
    rw [bB_no q1]
    clear q1
    go_wp2
    go_ret
    exact ⟨ret_no X.out, B1.out⟩
end Go.Proofs.Ytemkppdinmfaoaa
