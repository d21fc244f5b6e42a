/- Exact numbers, as plain mathematics: an item, its rational number, and the functions on them. -/
import Derived.WalkKit
namespace Go.Proofs.YtikgcogiiohahaaGreatDoor
set_option maxRecDepth 100000

/-- An item: numerator, denominator, text. -/
structure It where
  n : Int
  d : Int
  t : ByteArray

def noI : It := ⟨0, 0, ⟨#[]⟩⟩
/-- Is it a number? -/
def isN (x : It) : Bool := decide (x.t.size = 0 ∧ 1 ≤ x.d ∧ x.d ≤ 999999999 ∧ -999999999 ≤ x.n ∧ x.n ≤ 999999999 ∧ Int.gcd x.n x.d = 1)
def okR (n d : Int) : Prop := d ≠ 0 ∧ -4000000000000000000 ≤ n ∧ n ≤ 4000000000000000000 ∧ -4000000000000000000 ≤ d ∧ d ≤ 4000000000000000000
instance (n d : Int) : Decidable (okR n d) := by unfold okR; exact inferInstance
/-- The item of a rational number, if it is in range. -/
def ofQ (r : Rat) : It := if -999999999 ≤ r.num ∧ r.num ≤ 999999999 ∧ r.den ≤ 999999999 then ⟨r.num, r.den, ⟨#[]⟩⟩ else noI
def toQ (x : It) : Rat := Rat.divInt x.n x.d
def mkI (n d : Int) : It := if okR n d then ofQ (Rat.divInt n d) else noI

theorem empty_of_size {t : ByteArray} (h : t.size = 0) : t = ⟨#[]⟩ := by
  cases t with
  | mk a => congr; exact Array.eq_empty_of_size_eq_zero h
theorem isN_iff {x : It} : isN x = true ↔ x.t = ⟨#[]⟩ ∧ 1 ≤ x.d ∧ x.d ≤ 999999999 ∧ -999999999 ≤ x.n ∧ x.n ≤ 999999999 ∧ Int.gcd x.n x.d = 1 := by
  unfold isN
  rw [decide_eq_true_iff]
  constructor
  · rintro ⟨h, r⟩; exact ⟨empty_of_size h, r⟩
  · rintro ⟨h, r⟩; exact ⟨by rw [h]; rfl, r⟩
theorem isN_no : isN noI = false := by decide
theorem It.ext' {x y : It} (h1 : x.n = y.n) (h2 : x.d = y.d) (h3 : x.t = y.t) : x = y := by cases x; cases y; simp_all

theorem toQ_num {x : It} (h : isN x = true) : (toQ x).num = x.n := by
  obtain ⟨_, h1, _, _, _, hg⟩ := isN_iff.1 h
  unfold toQ
  rw [Rat.num_divInt, Int.gcd_comm, hg, Int.sign_eq_one_of_pos (by omega)]; simp
theorem toQ_den {x : It} (h : isN x = true) : ((toQ x).den : Int) = x.d := by
  obtain ⟨_, h1, _, _, _, hg⟩ := isN_iff.1 h
  unfold toQ
  rw [Rat.den_divInt, if_neg (by omega), Int.gcd_comm, hg]; simp; omega
theorem toQ_inj {x y : It} (hx : isN x = true) (hy : isN y = true) (h : toQ x = toQ y) : x = y := by
  refine It.ext' ?_ ?_ ?_
  · rw [← toQ_num hx, ← toQ_num hy, h]
  · rw [← toQ_den hx, ← toQ_den hy, h]
  · rw [(isN_iff.1 hx).1, (isN_iff.1 hy).1]
theorem ofQ_toQ {x : It} (h : isN x = true) : ofQ (toQ x) = x := by
  have h' := isN_iff.1 h
  have e1 := toQ_num h
  have e2 := toQ_den h
  unfold ofQ
  rw [if_pos ⟨by omega, by omega, by omega⟩]
  exact It.ext' e1 e2 h'.1.symm
theorem ofQ_cases (r : Rat) : ofQ r = noI ∨ (isN (ofQ r) = true ∧ toQ (ofQ r) = r ∧ (ofQ r).n = r.num ∧ (ofQ r).d = r.den) := by
  unfold ofQ
  split
  · rename_i h
    right
    refine ⟨?_, ?_, rfl, rfl⟩
    · rw [isN_iff]
      have := r.den_nz
      refine ⟨rfl, ?_, ?_, h.1, h.2.1, ?_⟩
      · show (1 : Int) ≤ r.den; omega
      · show (r.den : Int) ≤ _; omega
      · show r.num.natAbs.gcd (r.den : Int).natAbs = 1
        rw [Int.natAbs_natCast]; exact r.reduced
    · unfold toQ
      exact Rat.num_divInt_den r
  · left; rfl
theorem ofQ_some {r : Rat} (h : (ofQ r).d ≠ 0) : isN (ofQ r) = true ∧ toQ (ofQ r) = r ∧ (ofQ r).n = r.num ∧ (ofQ r).d = r.den := by
  rcases ofQ_cases r with e | e
  · rw [e] at h; exact absurd rfl h
  · exact e
theorem ofQ_t (r : Rat) : (ofQ r).t = ⟨#[]⟩ := by unfold ofQ; split <;> rfl
theorem mkI_t (n d : Int) : (mkI n d).t = ⟨#[]⟩ := by unfold mkI; split; exact ofQ_t _; rfl
theorem mkI_ok {n d : Int} (h : okR n d) : mkI n d = ofQ (Rat.divInt n d) := by unfold mkI; rw [if_pos h]
theorem mkI_no {n d : Int} (h : ¬ okR n d) : mkI n d = noI := by unfold mkI; rw [if_neg h]

/-- What the program divides by: the greatest common divisor, with the sign of d. -/
def dvs (n d : Int) : Int := if d < 0 then -(Int.gcd n d : Int) else (Int.gcd n d : Int)
theorem dvs_pos {n d : Int} (h : 0 ≤ d) : dvs n d = Int.gcd n d := by unfold dvs; rw [if_neg (by omega)]
theorem dvs_neg {n d : Int} (h : d < 0) : dvs n d = -(Int.gcd n d : Int) := by unfold dvs; rw [if_pos h]
theorem gcd_pos {n d : Int} (h : d ≠ 0) : 0 < Int.gcd n d := Int.gcd_pos_of_ne_zero_right _ h
theorem divN {n d : Int} (h : d ≠ 0) : n.tdiv (dvs n d) = (Rat.divInt n d).num := by
  have hg := gcd_pos (n := n) h
  rw [Rat.num_divInt, Int.gcd_comm d n]
  have hdv : (Int.gcd n d : Int) ∣ n := Int.gcd_dvd_left ..
  rcases Int.lt_or_gt_of_ne h with h | h
  · rw [dvs_neg h, Int.sign_eq_neg_one_of_neg h, Int.tdiv_neg, Int.tdiv_eq_ediv_of_dvd hdv]
    rw [Int.neg_one_mul, Int.neg_ediv_of_dvd hdv]
  · rw [dvs_pos (by omega), Int.sign_eq_one_of_pos h, Int.one_mul, Int.tdiv_eq_ediv_of_dvd hdv]
theorem divD {n d : Int} (h : d ≠ 0) : d.tdiv (dvs n d) = ((Rat.divInt n d).den : Int) := by
  have hg := gcd_pos (n := n) h
  rw [Rat.den_divInt, if_neg h, Int.gcd_comm d n]
  have hdv : (Int.gcd n d : Int) ∣ d := Int.gcd_dvd_right ..
  rcases Int.lt_or_gt_of_ne h with h | h
  · rw [dvs_neg h, Int.tdiv_neg, Int.tdiv_eq_ediv_of_dvd hdv, ← Int.neg_ediv_of_dvd hdv]
    have : -d = (d.natAbs : Int) := by omega
    rw [this]; rfl
  · rw [dvs_pos (by omega), Int.tdiv_eq_ediv_of_dvd hdv]
    have : d = (d.natAbs : Int) := by omega
    rw [this]; rfl

def both (x y : It) : Bool := isN x && isN y
def addI (x y : It) : It := if both x y then ofQ (toQ x + toQ y) else noI
def negI (x : It) : It := if isN x then ofQ (-toQ x) else noI
def subI (x y : It) : It := addI x (negI y)
def mulI (x y : It) : It := if both x y then ofQ (toQ x * toQ y) else noI
def divI (x y : It) : It := if both x y ∧ y.n ≠ 0 then ofQ (toQ x / toQ y) else noI
def floorI (x : It) : It := if isN x then ofQ ((toQ x).floor : Int) else noI

theorem both_iff {x y : It} : both x y = true ↔ isN x = true ∧ isN y = true := by unfold both; simp
theorem both_comm (x y : It) : both x y = both y x := by unfold both; exact Bool.and_comm ..
/-- Products of two parts fit. -/
theorem mul_in {a b A B : Int} (ha : -A ≤ a) (ha' : a ≤ A) (hb : -B ≤ b) (hb' : b ≤ B) : -(A * B) ≤ a * b ∧ a * b ≤ A * B := by
  have h1 : a.natAbs * b.natAbs ≤ A.natAbs * B.natAbs := Nat.mul_le_mul (by omega) (by omega)
  have h2 : (a * b).natAbs = a.natAbs * b.natAbs := Int.natAbs_mul a b
  have h3 : (A * B).natAbs = A.natAbs * B.natAbs := Int.natAbs_mul A B
  have h4 : 0 ≤ A * B := Int.mul_nonneg (by omega) (by omega)
  omega
theorem parts_in {x y : It} (hx : isN x = true) (hy : isN y = true) :
    (-999999998000000001 ≤ x.n * y.d ∧ x.n * y.d ≤ 999999998000000001) ∧ (-999999998000000001 ≤ y.n * x.d ∧ y.n * x.d ≤ 999999998000000001) ∧ (1 ≤ x.d * y.d ∧ x.d * y.d ≤ 999999998000000001) ∧
    (-999999998000000001 ≤ x.n * y.n ∧ x.n * y.n ≤ 999999998000000001) ∧ (-999999998000000001 ≤ x.d * y.n ∧ x.d * y.n ≤ 999999998000000001) := by
  obtain ⟨_, a1, a2, a3, a4, _⟩ := isN_iff.1 hx
  obtain ⟨_, b1, b2, b3, b4, _⟩ := isN_iff.1 hy
  have h1 := mul_in a3 a4 (B := 999999999) (b := y.d) (by omega) b2
  have h2 := mul_in b3 b4 (B := 999999999) (b := x.d) (by omega) a2
  have h3 := mul_in (A := 999999999) (B := 999999999) (a := x.d) (b := y.d) (by omega) a2 (by omega) b2
  have h4 := mul_in a3 a4 b3 b4
  have h5 := mul_in (A := 999999999) (a := x.d) (by omega) a2 b3 b4
  have h6 : 0 < x.d * y.d := Int.mul_pos (by omega) (by omega)
  omega

theorem add_mk {x y : It} (h : both x y = true) : mkI (x.n * y.d + y.n * x.d) (x.d * y.d) = addI x y := by
  obtain ⟨hx, hy⟩ := both_iff.1 h
  have p := parts_in hx hy
  have a := isN_iff.1 hx
  have b := isN_iff.1 hy
  unfold addI
  rw [if_pos h, mkI_ok (by unfold okR; omega)]
  unfold toQ
  rw [Rat.divInt_add_divInt _ _ (by omega) (by omega)]
theorem mul_mk {x y : It} (h : both x y = true) : mkI (x.n * y.n) (x.d * y.d) = mulI x y := by
  obtain ⟨hx, hy⟩ := both_iff.1 h
  have p := parts_in hx hy
  unfold mulI
  rw [if_pos h, mkI_ok (by unfold okR; omega)]
  unfold toQ
  rw [Rat.divInt_mul_divInt]
theorem divInt_div (a b c d : Int) : Rat.divInt a b / Rat.divInt c d = Rat.divInt (a * d) (b * c) := by
  rw [Rat.div_def, Rat.inv_divInt, Rat.divInt_mul_divInt]
theorem div_mk {x y : It} (h : both x y = true) : mkI (x.n * y.d) (x.d * y.n) = divI x y := by
  obtain ⟨hx, hy⟩ := both_iff.1 h
  have p := parts_in hx hy
  have a := isN_iff.1 hx
  unfold divI
  by_cases h0 : y.n = 0
  · rw [if_neg (by simp [h0]), mkI_no (by unfold okR; simp [h0])]
  · rw [if_pos ⟨h, h0⟩, mkI_ok (by have : x.d * y.n ≠ 0 := Int.mul_ne_zero (by omega) h0
                                   unfold okR; omega)]
    unfold toQ
    rw [divInt_div]
theorem neg_mk {x : It} (h : isN x = true) : (⟨-x.n, x.d, ⟨#[]⟩⟩ : It) = negI x := by
  have a := isN_iff.1 h
  have e1 := toQ_num h
  have e2 := toQ_den h
  unfold negI ofQ
  rw [if_pos h, Rat.neg_num, Rat.neg_den, if_pos (by omega)]
  exact It.ext' (by show -x.n = -(toQ x).num; rw [e1]) e2.symm rfl

/-- The floor of a fraction. -/
theorem floor_divInt {p s : Int} (h : s ≠ 0) : (Rat.divInt p s).floor = p.fdiv s := by
  have key : ∀ (p s : Int), 0 < s → (Rat.divInt p s).floor = p / s := by
    intro p s hs
    have hle : ∀ x : Int, x ≤ (Rat.divInt p s).floor ↔ x ≤ p / s := by
      intro x
      rw [Rat.le_floor_iff, Int.le_ediv_iff_mul_le hs]
      have e : (x : Rat) = Rat.divInt x 1 := by
        rw [← Rat.num_divInt_den (x : Rat)]; rfl
      rw [Rat.le_iff_sub_nonneg, e, Rat.divInt_sub_divInt _ _ (by omega) (by omega), Rat.divInt_nonneg_iff_of_pos_right (by omega)]
      omega
    exact Int.le_antisymm ((hle _).1 (Int.le_refl _)) ((hle _).2 (Int.le_refl _))
  rcases Int.lt_or_gt_of_ne h with h | h
  · rw [← Rat.neg_divInt_neg, key (-p) (-s) (by omega)]
    rw [← Int.fdiv_eq_ediv_of_nonneg _ (by omega : 0 ≤ -s), Int.neg_fdiv_neg]
  · rw [key p s h, Int.fdiv_eq_ediv_of_nonneg _ (by omega)]
theorem divInt_one (q : Int) : Rat.divInt q 1 = (q : Rat) := by
  rw [← Rat.num_divInt_den (q : Rat)]; rfl

/-- The rest that the program takes, with the sign of the divisor. -/
def excF (n d : Int) : Int := if (n.tmod d < 0 ∧ 0 < d) ∨ (0 < n.tmod d ∧ d < 0) then n.tmod d + d else n.tmod d
theorem exc_eq {n d : Int} (h : d ≠ 0) : excF n d = n.fmod d := by
  unfold excF
  have h1 := Int.tmod_add_mul_tdiv n d
  have h2 := Int.fmod_add_mul_fdiv n d
  have lt1 := Int.natAbs_tmod n d
  have lt2 : n.natAbs % d.natAbs < d.natAbs := Nat.mod_lt _ (by omega)
  rcases Int.lt_or_gt_of_ne h with h | h
  · have f1 : d < n.fmod d := by
      have := Int.fmod_lt_of_pos (-n) (show 0 < -d by omega)
      rw [Int.neg_fmod_neg] at this; omega
    have f2 : n.fmod d ≤ 0 := by
      have := Int.fmod_nonneg_of_pos (-n) (show 0 < -d by omega)
      rw [Int.neg_fmod_neg] at this; omega
    obtain ⟨k, hk⟩ : ∃ k, k = n.tdiv d := ⟨_, rfl⟩
    obtain ⟨l, hl⟩ : ∃ l, l = n.fdiv d := ⟨_, rfl⟩
    rw [← hk] at h1
    rw [← hl] at h2
    obtain ⟨r, hr⟩ : ∃ r, r = n.tmod d := ⟨_, rfl⟩
    obtain ⟨f, hf⟩ : ∃ f, f = n.fmod d := ⟨_, rfl⟩
    rw [← hr] at h1 lt1 ⊢
    rw [← hf] at h2 f1 f2 ⊢
    have e : d * (l - k) = r - f := by rw [Int.mul_sub]; omega
    have m : l - k = 0 ∨ l - k = -1 ∨ l - k = 1 ∨ 2 ≤ l - k ∨ l - k ≤ -2 := by omega
    rcases m with m | m | m | m | m
    · rw [m] at e; split <;> omega
    · rw [m] at e; split <;> omega
    · rw [m] at e; split <;> omega
    · have : d * (l - k) ≤ d * 2 := Int.mul_le_mul_of_nonpos_left (by omega) m
      omega
    · have : d * (-2) ≤ d * (l - k) := Int.mul_le_mul_of_nonpos_left (by omega) m
      omega
  · have f1 := Int.fmod_lt_of_pos n h
    have f2 := Int.fmod_nonneg_of_pos n h
    obtain ⟨k, hk⟩ : ∃ k, k = n.tdiv d := ⟨_, rfl⟩
    obtain ⟨l, hl⟩ : ∃ l, l = n.fdiv d := ⟨_, rfl⟩
    rw [← hk] at h1
    rw [← hl] at h2
    obtain ⟨r, hr⟩ : ∃ r, r = n.tmod d := ⟨_, rfl⟩
    obtain ⟨f, hf⟩ : ∃ f, f = n.fmod d := ⟨_, rfl⟩
    rw [← hr] at h1 lt1 ⊢
    rw [← hf] at h2 f1 f2 ⊢
    have e : d * (l - k) = r - f := by rw [Int.mul_sub]; omega
    have m : l - k = 0 ∨ l - k = -1 ∨ l - k = 1 ∨ 2 ≤ l - k ∨ l - k ≤ -2 := by omega
    rcases m with m | m | m | m | m
    · rw [m] at e; split <;> omega
    · rw [m] at e; split <;> omega
    · rw [m] at e; split <;> omega
    · have : d * 2 ≤ d * (l - k) := Int.mul_le_mul_of_nonneg_left m (by omega)
      omega
    · have : d * (l - k) ≤ d * (-2) := Int.mul_le_mul_of_nonneg_left m (by omega)
      omega

theorem fdiv_code {n d : Int} (h : d ≠ 0) : (n - n.fmod d).tdiv d = n.fdiv d := by
  have h2 := Int.fmod_add_mul_fdiv n d
  have e : n - n.fmod d = d * n.fdiv d := by omega
  rw [e, Int.mul_tdiv_cancel_left _ h]
/-- The floor that the reference takes. -/
def flS (n d : Int) : Int := if n.tmod d < 0 then n.tdiv d - 1 else n.tdiv d
theorem flS_eq {n d : Int} (h : 0 < d) : flS n d = n.fdiv d := by
  have h1 := Int.tmod_add_mul_tdiv n d
  have e := exc_eq (n := n) (d := d) (by omega)
  have h2 := Int.fmod_add_mul_fdiv n d
  have hz : d ≠ 0 := by omega
  unfold excF at e
  unfold flS
  by_cases c : n.tmod d < 0
  · rw [if_pos c]
    rw [if_pos (Or.inl ⟨c, h⟩)] at e
    have : d * (n.tdiv d - 1) = d * n.fdiv d := by rw [Int.mul_sub]; omega
    exact Int.eq_of_mul_eq_mul_left hz this
  · rw [if_neg c]
    rw [if_neg (by omega)] at e
    have : d * n.tdiv d = d * n.fdiv d := by omega
    exact Int.eq_of_mul_eq_mul_left hz this
theorem fdiv_in {n d A : Int} (h : d ≠ 0) (h1 : -A ≤ n) (h2 : n ≤ A) : -A - 1 ≤ n.fdiv d ∧ n.fdiv d ≤ A + 1 := by
  have key : ∀ n d : Int, 0 < d → -A ≤ n → n ≤ A → -A - 1 ≤ n.fdiv d ∧ n.fdiv d ≤ A + 1 := by
    intro n d h h1 h2
    have e := Int.fmod_add_mul_fdiv n d
    have f1 := Int.fmod_lt_of_pos n h
    have f2 := Int.fmod_nonneg_of_pos n h
    generalize n.fdiv d = q at *
    generalize n.fmod d = r at *
    by_cases c : A + 1 < q
    · have : 1 * q ≤ d * q := Int.mul_le_mul_of_nonneg_right (by omega) (by omega)
      omega
    · by_cases c' : q < -A - 1
      · have e2 : d * (q + 1) = d * q + d := by rw [Int.mul_add]; omega
        have : d * (q + 1) ≤ 1 * (q + 1) := Int.mul_le_mul_of_nonpos_right (by omega) (by omega)
        omega
      · omega
  rcases Int.lt_or_gt_of_ne h with h | h
  · rw [← Int.neg_fdiv_neg]; exact key (-n) (-d) (by omega) (by omega) (by omega)
  · exact key n d h h1 h2
theorem int_mk {q : Int} (h1 : -4000000000000000000 ≤ q) (h2 : q ≤ 4000000000000000000) : mkI q 1 = ofQ (q : Rat) := by
  rw [mkI_ok (by unfold okR; omega), divInt_one]

theorem floor_mk {x : It} (h : isN x = true) : mkI (x.n.fdiv x.d) 1 = floorI x := by
  have a := isN_iff.1 h
  have b := fdiv_in (n := x.n) (d := x.d) (A := 999999999) (by omega) (by omega) (by omega)
  unfold floorI toQ
  rw [if_pos h, int_mk (by omega) (by omega), floor_divInt (by omega)]
def roundI (x : It) : It := if isN x then ofQ ((toQ x + Rat.divInt 1 2).floor : Int) else noI
theorem round_mk {x : It} (h : isN x = true) : mkI ((2 * x.n + x.d).fdiv (2 * x.d)) 1 = roundI x := by
  have a := isN_iff.1 h
  have b := fdiv_in (n := 2 * x.n + x.d) (d := 2 * x.d) (A := 2999999997) (by omega) (by omega) (by omega)
  unfold roundI toQ
  rw [if_pos h, int_mk (by omega) (by omega), Rat.divInt_add_divInt _ _ (by omega) (by omega), floor_divInt (by omega)]
  rw [show x.n * 2 + 1 * x.d = 2 * x.n + x.d by omega, show x.d * 2 = 2 * x.d by omega]
def quoI (x y : It) : It := if both x y ∧ y.n ≠ 0 then ofQ ((toQ x / toQ y).floor : Int) else noI
def remI (x y : It) : It := if both x y ∧ y.n ≠ 0 then ofQ (toQ x - toQ y * ((toQ x / toQ y).floor : Int)) else noI
theorem quo_mk {x y : It} (h : both x y = true) (h0 : y.n ≠ 0) : mkI ((x.n * y.d).fdiv (x.d * y.n)) 1 = quoI x y := by
  obtain ⟨hx, hy⟩ := both_iff.1 h
  have p := parts_in hx hy
  have a := isN_iff.1 hx
  have hz : x.d * y.n ≠ 0 := Int.mul_ne_zero (by omega) h0
  have b := fdiv_in (n := x.n * y.d) (d := x.d * y.n) (A := 999999998000000001) hz (by omega) (by omega)
  unfold quoI toQ
  rw [if_pos ⟨h, h0⟩, int_mk (by omega) (by omega), divInt_div, floor_divInt hz]
theorem fmod_in {n d A : Int} (h1 : -A ≤ d) (h2 : d ≤ A) (h : d ≠ 0) : -A ≤ n.fmod d ∧ n.fmod d ≤ A := by
  rcases Int.lt_or_gt_of_ne h with h | h
  · have f1 : d < n.fmod d := by
      have := Int.fmod_lt_of_pos (-n) (show 0 < -d by omega)
      rw [Int.neg_fmod_neg] at this; omega
    have f2 : n.fmod d ≤ 0 := by
      have := Int.fmod_nonneg_of_pos (-n) (show 0 < -d by omega)
      rw [Int.neg_fmod_neg] at this; omega
    omega
  · have f1 := Int.fmod_lt_of_pos n h
    have f2 := Int.fmod_nonneg_of_pos n h
    omega
theorem rem_mk {x y : It} (h : both x y = true) (h0 : y.n ≠ 0) : mkI ((x.n * y.d).fmod (x.d * y.n)) (x.d * y.d) = remI x y := by
  obtain ⟨hx, hy⟩ := both_iff.1 h
  have p := parts_in hx hy
  have a := isN_iff.1 hx
  have b := isN_iff.1 hy
  have hz : x.d * y.n ≠ 0 := Int.mul_ne_zero (by omega) h0
  have c := fmod_in (n := x.n * y.d) (d := x.d * y.n) (A := 999999998000000001) (by omega) (by omega) hz
  have e2 := Int.fmod_add_mul_fdiv (x.n * y.d) (x.d * y.n)
  unfold remI toQ
  rw [if_pos ⟨h, h0⟩, mkI_ok (by unfold okR; omega), divInt_div, floor_divInt hz]
  generalize (x.n * y.d).fdiv (x.d * y.n) = q at *
  rw [← divInt_one q, Rat.divInt_mul_divInt, Rat.divInt_sub_divInt _ _ (by omega) (by omega)]
  congr 2
  · have : x.d * y.n * q = y.n * q * x.d := by grind
    rw [Int.mul_one]; omega
  · rw [Int.mul_one]

def oneI : It := ⟨1, 1, ⟨#[]⟩⟩
def powN (x : It) : Nat → It
  | 0 => oneI
  | k + 1 => mulI (powN x k) x
def powOk (x y : It) : Bool := decide (both x y = true ∧ y.d = 1 ∧ -20 ≤ y.n ∧ y.n ≤ 20)
def powI (x y : It) : It := if powOk x y then (if y.n < 0 then divI oneI (powN x y.n.natAbs) else powN x y.n.natAbs) else noI
def cmpI (x y : It) : Int := if both x y then (if x.n * y.d < y.n * x.d then -1 else if x.n * y.d = y.n * x.d then 0 else 1) else 2
theorem cross_eq {x y : It} (h : both x y = true) (e : x.n * y.d = y.n * x.d) : x = y := by
  obtain ⟨hx, hy⟩ := both_iff.1 h
  have a := isN_iff.1 hx
  have b := isN_iff.1 hy
  apply toQ_inj hx hy
  unfold toQ
  rw [Rat.divInt_eq_divInt_iff (by omega) (by omega)]; exact e
theorem oneI_num : isN oneI = true := by decide
theorem mulI_t (x y : It) : (mulI x y).t = ⟨#[]⟩ := by unfold mulI; split; exact ofQ_t _; rfl
theorem addI_t (x y : It) : (addI x y).t = ⟨#[]⟩ := by unfold addI; split; exact ofQ_t _; rfl
theorem divI_t (x y : It) : (divI x y).t = ⟨#[]⟩ := by unfold divI; split; exact ofQ_t _; rfl
theorem negI_t (x : It) : (negI x).t = ⟨#[]⟩ := by unfold negI; split; exact ofQ_t _; rfl
theorem powN_t (x : It) (k : Nat) : (powN x k).t = ⟨#[]⟩ := by cases k; rfl; exact mulI_t _ _
theorem powI_t (x y : It) : (powI x y).t = ⟨#[]⟩ := by
  unfold powI; split
  · split; exact divI_t _ _; exact powN_t _ _
  · rfl
end Go.Proofs.YtikgcogiiohahaaGreatDoor
