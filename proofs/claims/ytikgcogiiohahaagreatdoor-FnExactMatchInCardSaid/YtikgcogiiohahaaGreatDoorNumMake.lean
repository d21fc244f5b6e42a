/- Numbers: what is one, and how one is made; the program's functions and the reference's. -/
import Derived.Test.YtikgcogiiohahaaGreatDoorRows
import Derived.Test.YtikgcogiiohahaaGreatDoorNumMath
import Derived.Test.YtikgcogiiohahaaGreatDoorNumGcd
import Derived.Test.YtikgcogiiohahaaGreatDoorNumKit
import Derived.WalkKit
import Derived.WalkSpells
import Derived.WalkLawsBesides
import Derived.IntWalk
import Derived.Below
import Derived.Lib.Hide
import Derived.Deep.QuietTactic
import Derived.BigQuiet
namespace Go.Proofs.YtikgcogiiohahaaGreatDoor
set_option maxRecDepth 100000
open Go.RowKit
set_option linter.unusedVariables false

theorem ret_b {a b : Bool} (h : a = b) : Ending.returned (.bool a) = .returned (.bool b) := by rw [h]
theorem isN_t {n d : Int} {t : ByteArray} (h : t.size ≠ 0) : isN ⟨n, d, t⟩ = false := by unfold isN; simp [h]
theorem isN_d0 {n d : Int} {t : ByteArray} (h : d < 1) : isN ⟨n, d, t⟩ = false := by unfold isN; rw [decide_eq_false_iff_not]; simp only; omega
theorem isN_d1 {n d : Int} {t : ByteArray} (h : 999999999 < d) : isN ⟨n, d, t⟩ = false := by unfold isN; rw [decide_eq_false_iff_not]; simp only; omega
theorem isN_n0 {n d : Int} {t : ByteArray} (h : n < -999999999) : isN ⟨n, d, t⟩ = false := by unfold isN; rw [decide_eq_false_iff_not]; simp only; omega
theorem isN_n1 {n d : Int} {t : ByteArray} (h : 999999999 < n) : isN ⟨n, d, t⟩ = false := by unfold isN; rw [decide_eq_false_iff_not]; simp only; omega
theorem isN_g {n d : Int} (h0 : 1 ≤ d) (h1 : d ≤ 999999999) (h2 : -999999999 ≤ n) (h3 : n ≤ 999999999) : isN ⟨n, d, ⟨#[]⟩⟩ = (((Int.gcd n d : Nat) : Int) == 1) := by
  rw [Bool.eq_iff_iff, isN_iff]
  simp
  omega

set_option maxHeartbeats 1000000 in
theorem implIsNum (n d : Int) (t : ByteArray) (w : World) (ht : t.size ≤ 9223372036854775807) :
    Calls Tryz.prog 60 #[.agg #[.int .i64 n, .int .i64 d, .string t]] w fun e w' => e = .returned (.bool (isN ⟨n, d, t⟩)) ∧ Below w.heap.size w w' := by
  by_cases h0 : t.size = 0
  · obtain rfl := empty_of_size h0
    clear h0 ht
    by_cases h1 : d < 1
    · have X := Lib.hid (isN_d0 (n := n) (t := ⟨#[]⟩) h1)
      go_enter Tryz.func60, Tryz.ntmps60
      go_wp2
      go_ret
      exact ⟨ret_b X.out.symm, (Below.refl _ _).alloc (Nat.le_refl _) _⟩
    · by_cases h2 : 999999999 < d
      · have X := Lib.hid (isN_d1 (n := n) (t := ⟨#[]⟩) h2)
        go_enter Tryz.func60, Tryz.ntmps60
        go_wp2
        go_ret
        exact ⟨ret_b X.out.symm, (Below.refl _ _).alloc (Nat.le_refl _) _⟩
      · by_cases h3 : n < -999999999
        · have X := Lib.hid (isN_n0 (d := d) (t := ⟨#[]⟩) h3)
          go_enter Tryz.func60, Tryz.ntmps60
          go_wp2
          go_ret
          exact ⟨ret_b X.out.symm, (Below.refl _ _).alloc (Nat.le_refl _) _⟩
        · by_cases h4 : 999999999 < n
          · have X := Lib.hid (isN_n1 (d := d) (t := ⟨#[]⟩) h4)
            go_enter Tryz.func60, Tryz.ntmps60
            go_wp2
            go_ret
            exact ⟨ret_b X.out.symm, (Below.refl _ _).alloc (Nat.le_refl _) _⟩
          · have X := Lib.hid (isN_g (n := n) (d := d) (by omega) (by omega) (by omega) (by omega))
            have b1 : 1 ≤ d := by omega
            have b2 : d ≤ 999999999 := by omega
            have b3 : -999999999 ≤ n := by omega
            have b4 : n ≤ 999999999 := by omega
            clear h1 h2 h3 h4
            go_enter Tryz.func60, Tryz.ntmps60
            go_wp2_with fail
            refine (implGcd n d _ (by omega) (by omega) (by omega) (by omega)).mono ?_
            rintro e w1 ⟨rfl, m, rfl⟩
            go_wp2
            go_ret
            exact ⟨ret_b X.out.symm, below_drewN' ((Below.refl _ _).alloc (Nat.le_refl _) _) _⟩
  · have X := Lib.hid (isN_t (n := n) (d := d) h0)
    have e1 : t.toList.isEmpty = false := by
      cases h : t.toList with
      | nil => rw [ByteArray.toList_eq] at h; exact absurd (show t.data.toList.length = 0 by rw [h]; rfl) h0
      | cons _ _ => rfl
    clear h0
    go_enter Tryz.func60, Tryz.ntmps60
    go_wp2
    go_ret
    exact ⟨ret_b X.out.symm, (Below.refl _ _).alloc (Nat.le_refl _) _⟩

theorem inYes (x lo hi : Int) (w : World) (h0 : lo ≤ x) (h1 : x ≤ hi) :
    Calls Tryz.prog 62 #[.int .i64 x, .int .i64 lo, .int .i64 hi] w fun e w' => e = .returned (.bool true) ∧ w = w' := by
  go_enter Tryz.func62, Tryz.ntmps62
  go_wp2
  go_ret
  exact ⟨rfl, rfl⟩
theorem inNo (x lo hi : Int) (w : World) (h : x < lo ∨ hi < x) :
    Calls Tryz.prog 62 #[.int .i64 x, .int .i64 lo, .int .i64 hi] w fun e w' => e = .returned (.bool false) ∧ w = w' := by
  by_cases h0 : x < lo
  · clear h
    go_enter Tryz.func62, Tryz.ntmps62
    go_wp2
    go_ret
    exact ⟨rfl, rfl⟩
  · have h1 : hi < x := by omega
    clear h
    go_enter Tryz.func62, Tryz.ntmps62
    go_wp2
    go_ret
    exact ⟨ret_b (decide_eq_false (by omega)), rfl⟩

set_option maxHeartbeats 1000000 in
theorem specIsNum (n d : Int) (t : ByteArray) (w : World) (ht : t.size ≤ 9223372036854775807) :
    Calls Tryz.prog 51 #[.agg #[.int .i64 n, .int .i64 d, .string t]] w fun e w' => e = .returned (.bool (isN ⟨n, d, t⟩)) ∧ Below w.heap.size w w' := by
  by_cases h0 : t.size = 0
  · obtain rfl := empty_of_size h0
    clear h0 ht
    by_cases h1 : d < 1 ∨ 999999999 < d
    · have X := Lib.hid (show isN ⟨n, d, ⟨#[]⟩⟩ = false from h1.elim isN_d0 isN_d1)
      have H := Lib.hid h1
      clear h1
      go_enter Tryz.func51, Tryz.ntmps51
      go_wp2_with fail
      refine (inNo d 1 999999999 _ H.out).mono ?_
      rintro e w' ⟨rfl, rfl⟩
      go_wp2
      go_ret
      exact ⟨ret_b X.out.symm, (Below.refl _ _).alloc (Nat.le_refl _) _⟩
    · by_cases h3 : n < -999999999 ∨ 999999999 < n
      · have X := Lib.hid (show isN ⟨n, d, ⟨#[]⟩⟩ = false from h3.elim isN_n0 isN_n1)
        have H1 := Lib.hid h1
        have H := Lib.hid h3
        clear h1 h3
        go_enter Tryz.func51, Tryz.ntmps51
        go_wp2_with fail
        refine (inYes d 1 999999999 _ (by have := H1.out; omega) (by have := H1.out; omega)).mono ?_
        rintro e w' ⟨rfl, rfl⟩
        go_wp2_with fail
        refine (inNo n (-999999999) 999999999 _ H.out).mono ?_
        rintro e w' ⟨rfl, rfl⟩
        go_wp2
        go_ret
        exact ⟨ret_b X.out.symm, (Below.refl _ _).alloc (Nat.le_refl _) _⟩
      · have X := Lib.hid (isN_g (n := n) (d := d) (by omega) (by omega) (by omega) (by omega))
        have b1 : 1 ≤ d := by omega
        have b2 : d ≤ 999999999 := by omega
        have b3 : -999999999 ≤ n := by omega
        have b4 : n ≤ 999999999 := by omega
        clear h1 h3
        go_enter Tryz.func51, Tryz.ntmps51
        go_wp2_with fail
        refine (inYes d 1 999999999 _ b1 b2).mono ?_
        rintro e w' ⟨rfl, rfl⟩
        go_wp2_with fail
        refine (inYes n (-999999999) 999999999 _ b3 b4).mono ?_
        rintro e w' ⟨rfl, rfl⟩
        go_wp2_with fail
        refine (specGcd n d _ (by omega) (by omega) (by omega) (by omega)).mono ?_
        rintro e w1 ⟨rfl, rfl⟩
        go_wp2
        go_ret
        exact ⟨ret_b X.out.symm, (Below.refl _ _).alloc (Nat.le_refl _) _⟩
  · have X := Lib.hid (isN_t (n := n) (d := d) h0)
    have e1 : t.toList.isEmpty = false := by
      cases h : t.toList with
      | nil => rw [ByteArray.toList_eq] at h; exact absurd (show t.data.toList.length = 0 by rw [h]; rfl) h0
      | cons _ _ => rfl
    clear h0
    go_enter Tryz.func51, Tryz.ntmps51
    go_wp2
    go_ret
    exact ⟨ret_b X.out.symm, (Below.refl _ _).alloc (Nat.le_refl _) _⟩

theorem implNumYes (n d : Int) (t : ByteArray) (w : World) (ht : t.size ≤ 9223372036854775807) (h : isN ⟨n, d, t⟩ = true) :
    Calls Tryz.prog 60 #[.agg #[.int .i64 n, .int .i64 d, .string t]] w fun e w' => e = .returned (.bool true) ∧ Below w.heap.size w w' := by
  have := implIsNum n d t w ht
  rwa [h] at this
theorem implNumNo (n d : Int) (t : ByteArray) (w : World) (ht : t.size ≤ 9223372036854775807) (h : isN ⟨n, d, t⟩ = false) :
    Calls Tryz.prog 60 #[.agg #[.int .i64 n, .int .i64 d, .string t]] w fun e w' => e = .returned (.bool false) ∧ Below w.heap.size w w' := by
  have := implIsNum n d t w ht
  rwa [h] at this
theorem specNumYes (n d : Int) (t : ByteArray) (w : World) (ht : t.size ≤ 9223372036854775807) (h : isN ⟨n, d, t⟩ = true) :
    Calls Tryz.prog 51 #[.agg #[.int .i64 n, .int .i64 d, .string t]] w fun e w' => e = .returned (.bool true) ∧ Below w.heap.size w w' := by
  have := specIsNum n d t w ht
  rwa [h] at this
theorem specNumNo (n d : Int) (t : ByteArray) (w : World) (ht : t.size ≤ 9223372036854775807) (h : isN ⟨n, d, t⟩ = false) :
    Calls Tryz.prog 51 #[.agg #[.int .i64 n, .int .i64 d, .string t]] w fun e w' => e = .returned (.bool false) ∧ Below w.heap.size w w' := by
  have := specIsNum n d t w ht
  rwa [h] at this

theorem ofQ_yes {r : Rat} (h : isN ⟨r.num, r.den, ⟨#[]⟩⟩ = true) : ofQ r = ⟨r.num, r.den, ⟨#[]⟩⟩ := by
  have a := isN_iff.1 h
  unfold ofQ
  rw [if_pos (by simp only at a; omega)]
theorem ofQ_no {r : Rat} (h : isN ⟨r.num, r.den, ⟨#[]⟩⟩ = false) : ofQ r = noI := by
  rcases ofQ_cases r with e | ⟨e1, e2, e3, e4⟩
  · exact e
  · have : ofQ r = ⟨r.num, r.den, ⟨#[]⟩⟩ := It.ext' e3 e4 (ofQ_t r)
    rw [this, h] at e1
    cases e1
/-- What MakeNumber divides by, and what comes of it. -/
theorem make_facts {n d : Int} (h : okR n d) : ∃ g p q : Int, (Int.gcd n d : Int) = g ∧ 0 < g ∧ g ≤ 4000000000000000000 ∧ n.tdiv (if d < 0 then -g else g) = p ∧ d.tdiv (if d < 0 then -g else g) = q ∧ (-4000000000000000000 ≤ n.tdiv g ∧ n.tdiv g ≤ 4000000000000000000) ∧ (-4000000000000000000 ≤ d.tdiv g ∧ d.tdiv g ≤ 4000000000000000000) ∧
    (isN ⟨p, q, ⟨#[]⟩⟩ = true → mkI n d = ⟨p, q, ⟨#[]⟩⟩) ∧ (isN ⟨p, q, ⟨#[]⟩⟩ = false → mkI n d = noI) ∧ 1 ≤ q ∧ (isN ⟨p, q, ⟨#[]⟩⟩ = true ↔ (-999999999 ≤ p ∧ p ≤ 999999999) ∧ q ≤ 999999999) := by
  have hd : d ≠ 0 := h.1
  have hg := gcd_pos (n := n) hd
  have hle : Int.gcd n d ≤ d.natAbs := Nat.gcd_le_right _ (by omega)
  have hb := h.2.2.2
  have hb2 := h.2
  have l1 := Int.natAbs_tdiv_le_natAbs n (Int.gcd n d)
  have l2 := Int.natAbs_tdiv_le_natAbs d (Int.gcd n d)
  refine ⟨_, _, _, rfl, by omega, by omega, divN hd, divD hd, by omega, by omega, fun k => ?_, fun k => ?_, ?_, ?_⟩
  · rw [mkI_ok h]; exact ofQ_yes k
  · rw [mkI_ok h]; exact ofQ_no k
  · have := (Rat.divInt n d).den_nz; omega
  · rw [isN_iff]
    have := (Rat.divInt n d).den_nz
    constructor
    · rintro ⟨_, _, a, b, c, _⟩; exact ⟨⟨b, c⟩, a⟩
    · rintro ⟨⟨b, c⟩, a⟩
      refine ⟨rfl, by simp only; omega, a, b, c, ?_⟩
      show (Rat.divInt n d).num.natAbs.gcd ((Rat.divInt n d).den : Int).natAbs = 1
      rw [Int.natAbs_natCast]; exact (Rat.divInt n d).reduced

theorem isOpYes (x : Int) (w : World) (h0 : -4000000000000000000 ≤ x) (h1 : x ≤ 4000000000000000000) :
    Calls Tryz.prog 58 #[.int .i64 x] w fun e w' => e = .returned (.bool true) ∧ w = w' := by
  go_enter Tryz.func58, Tryz.ntmps58
  go_wp2
  go_ret
  exact ⟨rfl, rfl⟩
theorem isOpNo (x : Int) (w : World) (h : x < -4000000000000000000 ∨ 4000000000000000000 < x) :
    Calls Tryz.prog 58 #[.int .i64 x] w fun e w' => e = .returned (.bool false) ∧ w = w' := by
  by_cases h0 : x < -4000000000000000000
  · clear h
    go_enter Tryz.func58, Tryz.ntmps58
    go_wp2
    go_ret
    exact ⟨rfl, rfl⟩
  · have h1 : 4000000000000000000 < x := by omega
    clear h
    go_enter Tryz.func58, Tryz.ntmps58
    go_wp2
    go_ret
    exact ⟨ret_b (decide_eq_false (by omega)), rfl⟩
end Go.Proofs.YtikgcogiiohahaaGreatDoor
