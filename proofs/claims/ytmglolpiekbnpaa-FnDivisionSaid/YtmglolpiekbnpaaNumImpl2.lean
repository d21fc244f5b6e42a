/- The program's arithmetic, continued: differences, quotients, floors. -/
import Derived.Test.YtmglolpiekbnpaaNumImpl
namespace Go.Proofs.Ytmglolpiekbnpaa
open Go.RowKit
set_option linter.unusedVariables false

theorem infoFrac : (Try.prog.info? 45).map (·.size) = some 2 := by kernel_rfl
theorem frac_ret0 {fn : Func} {R : Ending → World → Prop} {act : Act} {w : World} {g : Nat} {p : Tmp} {a b : Value} {t : TypeId} {fr : Nat × Nat}
    (hfn : fn.results = #[.cell p 45]) (hp : act.tmps.getD p undef = .pointer (some ⟨g, 0, none⟩)) (hd : act.defers = []) (hg : w.heap[g]? = some (.cells #[a, b] t fr))
    (hR : R (.returned (.agg #[a, b])) w) : bodyPost Try.prog fn R .ret act w :=
  bodyPost_ret (results_cell_row hfn _ _ g t #[a, b] fr _ hp hg Try.underlying45 rfl infoFrac) hd hR

set_option maxHeartbeats 1000000 in
theorem implRatio (x y : It) (w : World) (P : (-999999998000000001 ≤ x.n * y.d ∧ x.n * y.d ≤ 999999998000000001) ∧ (-999999998000000001 ≤ x.d * y.n ∧ x.d * y.n ≤ 999999998000000001)) :
    Calls Try.prog 43 #[.agg #[.int .i64 x.n, .int .i64 x.d, .string x.t], .agg #[.int .i64 y.n, .int .i64 y.d, .string y.t]] w fun e w' => e = .returned (.agg #[.int .i64 (x.n * y.d), .int .i64 (x.d * y.n)]) ∧ Below w.heap.size w w' := by
  have a0 := P.1.1
  have a1 := P.1.2
  have b0 := P.2.1
  have b1 := P.2.2
  clear P
  go_enter Try.func43, Try.ntmps43
  go_wp2
  exact frac_ret0 rfl rfl rfl (blk_new _ _ (by simp)) ⟨rfl, below3 w _ _ _⟩

set_option maxHeartbeats 1000000 in
theorem implExcess (n d : Int) (w : World) (n0 : -4000000000000000000 ≤ n) (n1 : n ≤ 4000000000000000000) (d0 : -4000000000000000000 ≤ d) (d1 : d ≤ 4000000000000000000) (hd : d ≠ 0) :
    Calls Try.prog 45 #[.agg #[.int .i64 n, .int .i64 d]] w fun e w' => e = .returned (.int .i64 (n.fmod d)) ∧ Below w.heap.size w w' := by
  have X := exc_eq (n := n) hd
  unfold excF at X
  obtain ⟨r0, r1, _⟩ := tmod_in2 (x := n) hd d0 d1
  by_cases c : n.tmod d < 0
  · by_cases s : 0 < d
    · rw [if_pos (.inl ⟨c, s⟩)] at X
      have XX := Lib.hid X
      clear X hd
      go_enter Try.func45, Try.ntmps45
      go_wp2
      go_ret
      exact ⟨ret_i XX.out, below1 w _⟩
    · rw [if_neg (by omega)] at X
      have XX := Lib.hid X
      have s' : d < 0 := by omega
      clear X hd
      go_enter Try.func45, Try.ntmps45
      go_wp2
      go_ret
      exact ⟨ret_i XX.out, below1 w _⟩
  · by_cases c2 : 0 < n.tmod d
    · by_cases s : 0 < d
      · rw [if_neg (by omega)] at X
        have XX := Lib.hid X
        clear X hd
        go_enter Try.func45, Try.ntmps45
        go_wp2
        go_ret
        exact ⟨ret_i XX.out, below1 w _⟩
      · have s' : d < 0 := by omega
        rw [if_pos (.inr ⟨c2, s'⟩)] at X
        have XX := Lib.hid X
        clear X hd
        go_enter Try.func45, Try.ntmps45
        go_wp2
        go_ret
        exact ⟨ret_i XX.out, below1 w _⟩
    · rw [if_neg (by omega)] at X
      have XX := Lib.hid X
      by_cases s : 0 < d
      all_goals
        clear X
        go_enter Try.func45, Try.ntmps45
        go_wp2
        go_ret
        exact ⟨ret_i XX.out, below1 w _⟩
end Go.Proofs.Ytmglolpiekbnpaa
