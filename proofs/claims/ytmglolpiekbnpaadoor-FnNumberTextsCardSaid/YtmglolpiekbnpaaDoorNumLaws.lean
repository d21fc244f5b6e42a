/- The laws of numbers, as plain mathematics. -/
import Derived.Test.YtmglolpiekbnpaaDoorNumMath
namespace Go.Proofs.YtmglolpiekbnpaaDoor
theorem addI_some {x y : It} (h : (addI x y).d ≠ 0) : isN x = true ∧ isN y = true ∧ isN (addI x y) = true ∧ toQ (addI x y) = toQ x + toQ y := by
  unfold addI at h ⊢
  split at h
  · rename_i hb
    obtain ⟨hx, hy⟩ := both_iff.1 hb
    rw [if_pos hb]
    exact ⟨hx, hy, (ofQ_some h).1, (ofQ_some h).2.1⟩
  · exact absurd rfl h
theorem mulI_some {x y : It} (h : (mulI x y).d ≠ 0) : isN x = true ∧ isN y = true ∧ isN (mulI x y) = true ∧ toQ (mulI x y) = toQ x * toQ y := by
  unfold mulI at h ⊢
  split at h
  · rename_i hb
    obtain ⟨hx, hy⟩ := both_iff.1 hb
    rw [if_pos hb]
    exact ⟨hx, hy, (ofQ_some h).1, (ofQ_some h).2.1⟩
  · exact absurd rfl h
theorem divI_some {x y : It} (h : (divI x y).d ≠ 0) : isN x = true ∧ isN y = true ∧ y.n ≠ 0 ∧ isN (divI x y) = true ∧ toQ (divI x y) = toQ x / toQ y := by
  unfold divI at h ⊢
  split at h
  · rename_i hb
    obtain ⟨hx, hy⟩ := both_iff.1 hb.1
    rw [if_pos hb]
    exact ⟨hx, hy, hb.2, (ofQ_some h).1, (ofQ_some h).2.1⟩
  · exact absurd rfl h
theorem num_d {x : It} (h : isN x = true) : x.d ≠ 0 := by have := isN_iff.1 h; omega
theorem addI_eq {x y : It} (hx : isN x = true) (hy : isN y = true) : addI x y = ofQ (toQ x + toQ y) := by unfold addI; rw [if_pos (both_iff.2 ⟨hx, hy⟩)]
theorem mulI_eq {x y : It} (hx : isN x = true) (hy : isN y = true) : mulI x y = ofQ (toQ x * toQ y) := by unfold mulI; rw [if_pos (both_iff.2 ⟨hx, hy⟩)]
theorem negI_eq {x : It} (hx : isN x = true) : negI x = ofQ (-toQ x) := by unfold negI; rw [if_pos hx]
theorem negI_num {x : It} (hx : isN x = true) : isN (negI x) = true ∧ toQ (negI x) = -toQ x ∧ (negI x).n = -x.n ∧ (negI x).d = x.d := by
  have e := neg_mk hx
  have a := isN_iff.1 hx
  have hd : (negI x).d = x.d := by rw [← e]
  have hn : (negI x).n = -x.n := by rw [← e]
  have h0 : (ofQ (-toQ x)).d ≠ 0 := by rw [← negI_eq hx, hd]; omega
  have k := ofQ_some h0
  rw [← negI_eq hx] at k
  exact ⟨k.1, k.2.1, hn, hd⟩
theorem negI_no {x : It} (hx : isN x = false) : negI x = noI := by unfold negI; rw [hx]; rfl
theorem addI_comm (x y : It) : addI x y = addI y x := by unfold addI; rw [both_comm, Rat.add_comm]
theorem mulI_comm (x y : It) : mulI x y = mulI y x := by unfold mulI; rw [both_comm, Rat.mul_comm]
theorem addI_nol {x y : It} (h : isN x = false) : addI x y = noI := by unfold addI both; rw [h]; rfl
theorem addI_nor {x y : It} (h : isN y = false) : addI x y = noI := by rw [addI_comm, addI_nol h]
theorem ofQ_neg (r : Rat) : negI (ofQ r) = ofQ (-r) := by
  rcases ofQ_cases r with e | ⟨e1, e2, _, _⟩
  · have : ofQ (-r) = noI := by
      unfold ofQ at e ⊢
      split at e
      · rename_i h
        have hd := congrArg It.d e
        have := r.den_nz
        simp [noI] at hd
        omega
      · rename_i h
        rw [Rat.neg_num, Rat.neg_den, if_neg (by omega)]
    rw [e, this]
    exact negI_no isN_no
  · rw [negI_eq e1, e2]
theorem sub_anti (x y : It) : subI x y = negI (subI y x) := by
  unfold subI
  cases hx : isN x
  · rw [addI_nol hx, negI_no hx, addI_nor isN_no, negI_no isN_no]
  · cases hy : isN y
    · rw [addI_nol hy, negI_no hy, addI_nor isN_no, negI_no isN_no]
    · obtain ⟨nx, ex, _⟩ := negI_num hx
      obtain ⟨ny, ey, _⟩ := negI_num hy
      rw [addI_eq hx ny, addI_eq hy nx, ofQ_neg, ex, ey, Rat.neg_add, Rat.neg_neg, Rat.add_comm]
theorem add_assocI {x y z : It} (h1 : (addI (addI x y) z).d ≠ 0) (h2 : (addI x (addI y z)).d ≠ 0) : addI (addI x y) z = addI x (addI y z) := by
  obtain ⟨a1, a2, a3, a4⟩ := addI_some h1
  obtain ⟨b1, b2, b3, b4⟩ := addI_some (num_d a1)
  obtain ⟨c1, c2, c3, c4⟩ := addI_some h2
  obtain ⟨d1, d2, d3, d4⟩ := addI_some (num_d c2)
  apply toQ_inj a3 c3
  rw [a4, b4, c4, d4, Rat.add_assoc]
theorem distribI {x y z : It} (h1 : (mulI x (addI y z)).d ≠ 0) (h2 : (addI (mulI x y) (mulI x z)).d ≠ 0) : mulI x (addI y z) = addI (mulI x y) (mulI x z) := by
  obtain ⟨a1, a2, a3, a4⟩ := mulI_some h1
  obtain ⟨b1, b2, b3, b4⟩ := addI_some (num_d a2)
  obtain ⟨c1, c2, c3, c4⟩ := addI_some h2
  obtain ⟨d1, d2, d3, d4⟩ := mulI_some (num_d c1)
  obtain ⟨e1, e2, e3, e4⟩ := mulI_some (num_d c2)
  apply toQ_inj a3 c3
  rw [a4, b4, c4, d4, e4, Rat.mul_add]
theorem toQ_ne {y : It} (h : isN y = true) (h0 : y.n ≠ 0) : toQ y ≠ 0 := by
  intro e
  apply h0
  rw [← toQ_num h, e]; rfl
theorem mul_div {x y : It} (h : (mulI (divI x y) y).d ≠ 0) : mulI (divI x y) y = x := by
  obtain ⟨a1, a2, a3, a4⟩ := mulI_some h
  obtain ⟨b1, b2, b3, b4, b5⟩ := divI_some (num_d a1)
  apply toQ_inj a3 b1
  rw [a4, b5, Rat.div_mul_cancel (toQ_ne b2 b3)]
theorem neg_neg {x : It} (h : (negI (negI x)).d ≠ 0) : negI (negI x) = x := by
  cases hx : isN x
  · rw [negI_no hx, negI_no isN_no] at h; exact absurd rfl h
  · obtain ⟨nx, ex, _⟩ := negI_num hx
    obtain ⟨nnx, enx, _⟩ := negI_num nx
    apply toQ_inj nnx hx
    rw [enx, ex, Rat.neg_neg]

/- quotients and remainders -/
theorem quoI_some {x y : It} (h : (quoI x y).d ≠ 0) : isN x = true ∧ isN y = true ∧ y.n ≠ 0 ∧ isN (quoI x y) = true ∧ toQ (quoI x y) = ((toQ x / toQ y).floor : Int) := by
  unfold quoI at h ⊢
  split at h
  · rename_i hb
    obtain ⟨hx, hy⟩ := both_iff.1 hb.1
    rw [if_pos hb]
    exact ⟨hx, hy, hb.2, (ofQ_some h).1, (ofQ_some h).2.1⟩
  · exact absurd rfl h
theorem remI_some {x y : It} (h : (remI x y).d ≠ 0) : isN x = true ∧ isN y = true ∧ y.n ≠ 0 ∧ isN (remI x y) = true ∧ toQ (remI x y) = toQ x - toQ y * ((toQ x / toQ y).floor : Int) := by
  unfold remI at h ⊢
  split at h
  · rename_i hb
    obtain ⟨hx, hy⟩ := both_iff.1 hb.1
    rw [if_pos hb]
    exact ⟨hx, hy, hb.2, (ofQ_some h).1, (ofQ_some h).2.1⟩
  · exact absurd rfl h
theorem quo_rem {x y : It} (h : (addI (mulI (quoI x y) y) (remI x y)).d ≠ 0) : addI (mulI (quoI x y) y) (remI x y) = x := by
  obtain ⟨a1, a2, a3, a4⟩ := addI_some h
  obtain ⟨b1, b2, b3, b4⟩ := mulI_some (num_d a1)
  obtain ⟨c1, c2, c3, c4, c5⟩ := quoI_some (num_d b1)
  obtain ⟨d1, d2, d3, d4, d5⟩ := remI_some (num_d a2)
  apply toQ_inj a3 c1
  rw [a4, b4, c5, d5, Rat.mul_comm, Rat.add_comm, Rat.sub_add_cancel]
theorem sign_n {x : It} (h : isN x = true) : (x.n < 0 ↔ toQ x < 0) ∧ (0 < x.n ↔ 0 < toQ x) ∧ (0 ≤ x.n ↔ 0 ≤ toQ x) := by
  have a1 : (0 ≤ x.n ↔ 0 ≤ toQ x) := by rw [← toQ_num h]; exact Rat.num_nonneg
  have a2 : (x.n = 0 ↔ toQ x = 0) := by rw [← toQ_num h]; exact Rat.num_eq_zero
  refine ⟨?_, ?_, a1⟩
  · rw [← Rat.not_le, ← a1]; omega
  · rw [Rat.lt_iff_le_and_ne, ← a1]
    constructor
    · intro h; exact ⟨by omega, fun e => by have := a2.2 e.symm; omega⟩
    · rintro ⟨h1, h2⟩
      have : x.n ≠ 0 := fun e => h2 (a2.1 e).symm
      omega
/-- The rest lies between 0 and the divisor. -/
theorem rest_in (p q : Rat) (h : q ≠ 0) : (0 < q → 0 ≤ p - q * ((p / q).floor : Int) ∧ p - q * ((p / q).floor : Int) < q) ∧ (q < 0 → p - q * ((p / q).floor : Int) ≤ 0 ∧ q < p - q * ((p / q).floor : Int)) := by
  have l1 := Rat.floor_le (p / q)
  have l2 := Rat.lt_floor_add_one (p / q)
  have e : q * (p / q) = p := by rw [Rat.mul_comm]; exact Rat.div_mul_cancel h
  generalize p / q = t at *
  generalize t.floor = f at *
  rw [Rat.intCast_add] at l2
  subst e
  have l2' : t < (f : Rat) + 1 := l2
  constructor
  · intro hq
    have m1 := Rat.mul_le_mul_of_nonneg_left l1 (Rat.le_of_lt hq)
    have m2 := Rat.mul_lt_mul_of_pos_left l2' hq
    rw [Rat.mul_add, Rat.mul_one] at m2
    constructor <;> grind
  · intro hq
    have hq' : 0 < -q := by grind
    have m1 := Rat.mul_le_mul_of_nonneg_left l1 (Rat.le_of_lt hq')
    have m2 := Rat.mul_lt_mul_of_pos_left l2' hq'
    rw [Rat.mul_add, Rat.mul_one] at m2
    constructor <;> grind
theorem rem_sign {x y : It} (h : (remI x y).d ≠ 0) (h0 : (remI x y).n ≠ 0) : (remI x y).n < 0 ↔ y.n < 0 := by
  obtain ⟨d1, d2, d3, d4, d5⟩ := remI_some h
  have s1 := sign_n d4
  have s2 := sign_n d2
  have r := rest_in (toQ x) (toQ y) (toQ_ne d2 d3)
  rw [← d5] at r
  rcases Int.lt_or_gt_of_ne d3 with c | c
  · have r2 := r.2 (s2.1.1 c)
    have : ¬ 0 < (remI x y).n := fun k => by have := s1.2.1.1 k; grind
    omega
  · have r1 := r.1 (s2.2.1.1 c)
    have := s1.2.2.2 r1.1
    omega
theorem cmpI_eq {x y : It} (hx : isN x = true) (hy : isN y = true) : cmpI x y = 1 ↔ toQ y < toQ x := by
  have a := toQ_num hx
  have b := toQ_den hx
  have c := toQ_num hy
  have d := toQ_den hy
  rw [Rat.lt_iff, a, b, c, d]
  unfold cmpI
  rw [if_pos (both_iff.2 ⟨hx, hy⟩)]
  split
  · omega
  · split <;> omega
theorem rem_small {x y : It} (h : (remI x y).d ≠ 0) : cmpI (mulI (remI x y) (remI x y)) (mulI y y) ≠ 1 := by
  intro k
  obtain ⟨d1, d2, d3, d4, d5⟩ := remI_some h
  have hne := toQ_ne d2 d3
  have r := rest_in (toQ x) (toQ y) hne
  rw [← d5] at r
  clear d5
  generalize remI x y = z at *
  by_cases hb : both (mulI z z) (mulI y y) = true
  · obtain ⟨h1, h2⟩ := both_iff.1 hb
    rw [cmpI_eq h1 h2, (mulI_some (num_d h1)).2.2.2, (mulI_some (num_d h2)).2.2.2] at k
    generalize toQ z = a at *
    generalize toQ y = b at *
    rcases Rat.le_total (a := 0) (b := b) with c | c
    · by_cases e : b = 0
      · exact absurd e hne
      · have hb : 0 < b := by grind
        obtain ⟨r1, r2⟩ := r.1 hb
        have m1 := Rat.mul_le_mul_of_nonneg_left (Rat.le_of_lt r2) r1
        have m2 := Rat.mul_le_mul_of_nonneg_right (Rat.le_of_lt r2) (Rat.le_of_lt hb)
        grind
    · by_cases e : b = 0
      · exact absurd e hne
      · have hb : b < 0 := by grind
        obtain ⟨r1, r2⟩ := r.2 hb
        have m1 := Rat.mul_le_mul_of_nonneg_left (a := -a) (b := -b) (c := -a) (by grind) (by grind)
        have m2 := Rat.mul_le_mul_of_nonneg_right (a := -a) (b := -b) (c := -b) (by grind) (by grind)
        grind
  · unfold cmpI at k
    rw [if_neg hb] at k
    omega
theorem floorI_some {x : It} (h : (floorI x).d ≠ 0) : isN x = true ∧ isN (floorI x) = true ∧ toQ (floorI x) = ((toQ x).floor : Int) := by
  unfold floorI at h ⊢
  split at h
  · rename_i hb
    rw [if_pos hb]
    exact ⟨hb, (ofQ_some h).1, (ofQ_some h).2.1⟩
  · exact absurd rfl h
theorem roundI_some {x : It} (h : (roundI x).d ≠ 0) : isN x = true ∧ isN (roundI x) = true ∧ toQ (roundI x) = ((toQ x + Rat.divInt 1 2).floor : Int) := by
  unfold roundI at h ⊢
  split at h
  · rename_i hb
    rw [if_pos hb]
    exact ⟨hb, (ofQ_some h).1, (ofQ_some h).2.1⟩
  · exact absurd rfl h
theorem subI_some {x y : It} (h : (subI x y).d ≠ 0) : isN x = true ∧ isN y = true ∧ isN (subI x y) = true ∧ toQ (subI x y) = toQ x - toQ y := by
  unfold subI at *
  obtain ⟨a1, a2, a3, a4⟩ := addI_some h
  cases hy : isN y
  · rw [negI_no hy] at a2; rw [isN_no] at a2; cases a2
  · exact ⟨a1, rfl, a3, by rw [a4, (negI_num hy).2.1, Rat.sub_eq_add_neg]⟩
theorem floor_near {x : It} (h : (subI x (floorI x)).d ≠ 0) : 0 ≤ (subI x (floorI x)).n ∧ (subI x (floorI x)).n < (subI x (floorI x)).d := by
  obtain ⟨a1, a2, a3, a4⟩ := subI_some h
  obtain ⟨b1, b2, b3⟩ := floorI_some (num_d a2)
  have l1 := Rat.floor_le (toQ x)
  have l2 := Rat.lt_floor_add_one (toQ x)
  have e1 := toQ_num a3
  have e2 := toQ_den a3
  rw [b3] at a4
  rw [Rat.intCast_add] at l2
  have l2' : toQ x < ((toQ x).floor : Rat) + 1 := l2
  constructor
  · rw [(sign_n a3).2.2, a4]; grind
  · have : toQ (subI x (floorI x)) < 1 := by rw [a4]; grind
    rw [Rat.lt_iff, e1, e2] at this
    simpa using this
theorem round_near {x : It} (h : (subI x (roundI x)).d ≠ 0) : -(subI x (roundI x)).d ≤ 2 * (subI x (roundI x)).n ∧ 2 * (subI x (roundI x)).n < (subI x (roundI x)).d := by
  obtain ⟨a1, a2, a3, a4⟩ := subI_some h
  obtain ⟨b1, b2, b3⟩ := roundI_some (num_d a2)
  have l1 := Rat.floor_le (toQ x + Rat.divInt 1 2)
  have l2 := Rat.lt_floor_add_one (toQ x + Rat.divInt 1 2)
  have e1 := toQ_num a3
  have e2 := toQ_den a3
  rw [b3] at a4
  rw [Rat.intCast_add] at l2
  generalize ((toQ x + Rat.divInt 1 2).floor) = f at *
  have l2' : toQ x + Rat.divInt 1 2 < (f : Rat) + 1 := l2
  have hh : Rat.divInt 1 2 + Rat.divInt 1 2 = 1 := by decide +kernel
  constructor
  · have : -Rat.divInt 1 2 ≤ toQ (subI x (roundI x)) := by rw [a4]; grind
    rw [Rat.le_iff, e1, e2] at this
    have k1 : (-Rat.divInt 1 2).num = -1 := by decide +kernel
    have k2 : (-Rat.divInt 1 2).den = 2 := by decide +kernel
    rw [k1, k2] at this
    omega
  · have : toQ (subI x (roundI x)) < Rat.divInt 1 2 := by rw [a4]; grind
    rw [Rat.lt_iff, e1, e2] at this
    have k1 : (Rat.divInt 1 2).num = 1 := by decide +kernel
    have k2 : (Rat.divInt 1 2).den = 2 := by decide +kernel
    rw [k1, k2] at this
    omega
/- powers and order -/
theorem cmp_anti (x y : It) : (cmpI x y = 2 ∧ cmpI y x = 2) ∨ cmpI x y = -cmpI y x := by
  unfold cmpI
  rw [both_comm y x]
  by_cases h : both x y = true
  · simp only [if_pos h]
    right
    rcases Int.lt_trichotomy (x.n * y.d) (y.n * x.d) with c | c | c
    · rw [if_pos c, if_neg (by omega), if_neg (by omega)]
    · rw [if_neg (by omega), if_pos c, if_neg (by omega), if_pos c.symm]; rfl
    · rw [if_neg (by omega), if_neg (by omega), if_pos c]; rfl
  · left; exact ⟨if_neg h, if_neg h⟩

theorem powI_some {x y : It} (h : (powI x y).d ≠ 0) : powOk x y = true := by
  unfold powI at h
  split at h
  · rename_i h'; exact h'
  · exact absurd rfl h
theorem add_one {e : It} (h : isN e = true) (hd : e.d = 1) (h1 : -20 ≤ e.n) (h2 : e.n ≤ 20) : (addI e oneI).n = e.n + 1 ∧ (addI e oneI).d = 1 := by
  have e1 := add_mk (both_iff.2 ⟨h, oneI_num⟩)
  have e2 : (oneI.d : Int) = 1 := rfl
  have e3 : (oneI.n : Int) = 1 := rfl
  rw [e2, e3, hd, show e.n * 1 + 1 * 1 = e.n + 1 by omega, show (1 : Int) * 1 = 1 by omega, int_mk (by omega) (by omega)] at e1
  rw [← e1]
  unfold ofQ
  rw [Rat.num_intCast, Rat.den_intCast, if_pos (by omega)]
  exact ⟨rfl, rfl⟩
theorem pow_next {b e : It} (h0 : 0 ≤ e.n) (h1 : (mulI (powI b e) b).d ≠ 0) (h2 : (powI b (addI e oneI)).d ≠ 0) : mulI (powI b e) b = powI b (addI e oneI) := by
  obtain ⟨a1, a2, a3, a4⟩ := mulI_some h1
  have k1 := powI_some (num_d a1)
  have k2 := powI_some h2
  unfold powI at *
  rw [if_pos k1, if_pos k2]
  unfold powOk at k1 k2
  rw [decide_eq_true_iff] at k1 k2
  obtain ⟨b1, b2, b3, b4⟩ := k1
  obtain ⟨c1, c2⟩ := add_one (both_iff.1 b1).2 b2 b3 b4
  rw [c1, if_neg (by omega), if_neg (by omega), show (e.n + 1).natAbs = e.n.natAbs + 1 by omega]
  rfl
end Go.Proofs.YtmglolpiekbnpaaDoor
