/- The program's test of all fields of a vector but its parts. -/
import Derived.Test.YtddebgmjolojeaaRows
import Derived.Test.YtddebgmjolojeaaVecImA
import Derived.Test.YtddebgmjolojeaaVecImB
import Derived.WalkKit
import Derived.Lib.Hide
namespace Go.Proofs.Ytddebgmjolojeaa
open Go.RowKit
set_option maxRecDepth 100000
set_option linter.unusedVariables false

def ItemsOk (k : Int) (items : List It) (nl : Nat) : Prop := ∀ i, i < items.length → ItOk k (items.getD i noI) ∧ LevOk nl (items.getD i noI)

set_option maxHeartbeats 8000000 in
theorem implItems (kk : Int) (items : List It) (ai : Option Addr) (ap an ac al : Option Addr) (ci np cp nn cn nc cc nl cl : Nat) (code env : Int) (lo hi : Nat) (w : World) (hI : ItemsAt lo hi w ai items) (hhi : hi ≤ w.heap.size) (hit : ∀ i, i < items.length → (items.getD i noI).t.size ≤ 1048576) (hni : items.length ≤ 1048576) (hnl : nl ≤ 1048576) :
    Calls Try.prog 39 #[.agg #[.int .i64 kk, .slice ai items.length ci, .slice ap np cp, .slice an nn cn, .slice ac nc cc, .slice al nl cl, .int .i64 code, .int .i64 env]] w fun e w' => e = .returned (.bool (bB (ItemsOk kk items nl))) ∧ Below w.heap.size w w' := by
  have AI := Lib.hid (fun (k : Nat) (w1 : World) (hk : k < items.length) (hb : Below w.heap.size w w1) => (hI.below hb hhi).at_ hk)
  have ZI := Lib.hid hit
  obtain ⟨ni, h_⟩ : ∃ x, items.length = x := ⟨_, rfl⟩
  rw [h_] at AI ZI hni ⊢
  have EI := Lib.hid h_
  clear h_ hI hit
  go_enter Try.func39, Try.ntmps39
  go_wp2
  go_loopw [8] (fun i wr => ∃ k : Nat, k ≤ ni ∧ i = .int .i64 k ∧ (∀ j, j < k → ItOk kk (items.getD j noI) ∧ LevOk nl (items.getD j noI)) ∧ Below w.heap.size w wr ∧ wr.heap[w.heap.size]? = some (.cells #[.int .i64 kk, .slice ai ni ci, .slice ap np cp, .slice an nn cn, .slice ac nc cc, .slice al nl cl, .int .i64 code, .int .i64 env] 32 (0, 0))) (fun i _ => ni - (intOf i).toNat)
  case atStart => exact ⟨0, Nat.zero_le _, rfl, fun _ h => absurd h (Nat.not_lt_zero _), below1 _ _, blk_new _ _ rfl⟩
  case round =>
    obtain ⟨k, hk, rfl, hit, hb, hblk⟩ := hrel
    have IT := Lib.hid hit
    have BB := Lib.hid hb
    have KB := Lib.hid hblk
    clear hit hb hblk
    obtain ⟨k0, k1, k2, k3, k4, k5, k6, k7⟩ := vec8 KB.out
    have hz := (Array.getElem?_eq_some_iff.1 KB.out).1
    by_cases hlt : k < ni
    · have hlt' : (k : Int) < (ni : Int) := by omega
      obtain ⟨b, off, rfl, hbB, c0, c1, c2⟩ := AI.out _ _ hlt BB.out
      have hxt := ZI.out k hlt
      obtain ⟨⟨xn, xd, xt⟩, hx⟩ : ∃ x : It, items.getD k noI = x := ⟨_, rfl⟩
      have ht : txtI items k = xt := by unfold txtI; rw [hx]
      rw [hx] at c0 c1 hxt
      rw [ht] at c2
      simp only at c0 c1 hxt
      have HX := Lib.hid hx
      clear hx ht
      have FIN := Lib.hid (fun (h0 : ItOk kk ⟨xn, xd, xt⟩) (h : LevOk nl ⟨xn, xd, xt⟩) => (fun j hj => by
        by_cases e : j = k
        · subst e; rw [HX.out]; exact ⟨h0, h⟩
        · exact IT.out j (by omega) : ∀ j, j < k + 1 → ItOk kk (items.getD j noI) ∧ LevOk nl (items.getD j noI)))
      by_cases hx0 : (⟨xn, xd, xt⟩ : It) = noI
      · obtain ⟨rfl, rfl, rfl⟩ : xn = 0 ∧ xd = 0 ∧ xt = ⟨#[]⟩ := ⟨congrArg It.n hx0, congrArg It.d hx0, congrArg It.t hx0⟩
        have BN := Lib.hid (below_then BB.out (below1 wr (.cells #[.int .i64 0, .int .i64 0, .string ⟨#[]⟩] 50)))
        have KN := Lib.hid (blk_old (p := .cells #[.int .i64 0, .int .i64 0, .string ⟨#[]⟩] 50) KB.out)
        have IN := Lib.hid (FIN.out (.inl hx0) (.inr (.inl rfl)))
        clear hx0
        go_wp2
        go_roundw
        case rel => exact ⟨k + 1, by omega, by go_num, IN.out, BN.out, KN.out⟩
        case measure => simp [intOf]; omega
      have CS := Lib.hid (fun w => (implSuits kk ⟨xn, xd, xt⟩ w hxt : Calls Try.prog 46 #[.agg #[.int .i64 xn, .int .i64 xd, .string xt], .int .i64 kk] w _))
      by_cases hd : xd = 0
      · subst hd
        have hs : ¬ Suits kk ⟨xn, 0, xt⟩ := fun h => suits_d h rfl
        by_cases hn : xn = 0
        · subst hn
          have he : ¬ xt.size = 0 := fun h => hx0 (by rw [empty_of_size h]; rfl)
          have e1 := notEmptyB he
          have X := Lib.hid (show ¬ ItemsOk kk items nl from fun h => (by have := (h k (by rw [EI.out]; exact hlt)).1; rw [HX.out] at this; exact this : ItOk kk ⟨0, 0, xt⟩).elim (fun h' => hx0 h') (fun h' => hs h'))
          rw [bB_no hs] at CS
          clear hx0 hs
          clear he
          go_wp2_with fail
          refine (CS.out _).mono ?_
          rintro e w3 ⟨rfl, b3⟩
          have B3 := Lib.hid (below_then (below_then BB.out (below1 wr _)) b3)
          have K3 := Lib.hid (blk_below b3 (blk_old KB.out))
          have X3 := Lib.hid (blk_below b3 (blk_new wr _ rfl))
          clear b3 k0 k1 k2 k3 k4 k5 k6 k7
          obtain ⟨k0, k1, k2, k3, k4, k5, k6, k7⟩ := vec8 K3.out
          obtain ⟨⟨x0, x1, x2⟩, _⟩ := three X3.out
          go_wp2
          go_ret
          exact ⟨ret_no X.out, B3.out⟩
        · have X := Lib.hid (show ¬ ItemsOk kk items nl from fun h => (by have := (h k (by rw [EI.out]; exact hlt)).1; rw [HX.out] at this; exact this : ItOk kk ⟨xn, 0, xt⟩).elim (fun h' => hx0 h') (fun h' => hs h'))
          rw [bB_no hs] at CS
          clear hx0 hs
          go_wp2_with fail
          refine (CS.out _).mono ?_
          rintro e w3 ⟨rfl, b3⟩
          have B3 := Lib.hid (below_then (below_then BB.out (below1 wr _)) b3)
          have K3 := Lib.hid (blk_below b3 (blk_old KB.out))
          have X3 := Lib.hid (blk_below b3 (blk_new wr _ rfl))
          clear b3 k0 k1 k2 k3 k4 k5 k6 k7
          obtain ⟨k0, k1, k2, k3, k4, k5, k6, k7⟩ := vec8 K3.out
          obtain ⟨⟨x0, x1, x2⟩, _⟩ := three X3.out
          go_wp2
          go_ret
          exact ⟨ret_no X.out, B3.out⟩
      by_cases hs : Suits kk ⟨xn, xd, xt⟩
      · rw [bB_yes hs] at CS
        have HS := Lib.hid hs
        clear hs hx0
        go_wp2_with fail
        refine (CS.out _).mono ?_
        rintro e w3 ⟨rfl, b3⟩
        have B3 := Lib.hid (below_then (below_then BB.out (below1 wr _)) b3)
        have K3 := Lib.hid (blk_below b3 (blk_old KB.out))
        have X3 := Lib.hid (blk_below b3 (blk_new wr _ rfl))
        clear b3 k0 k1 k2 k3 k4 k5 k6 k7
        obtain ⟨k0, k1, k2, k3, k4, k5, k6, k7⟩ := vec8 K3.out
        obtain ⟨⟨x0, x1, x2⟩, _⟩ := three X3.out
        by_cases n0 : nl = 0
        · subst n0
          have IN := Lib.hid (FIN.out (.inr HS.out) (.inl rfl))
          go_wp2
          go_roundw
          case rel => exact ⟨k + 1, by omega, by go_num, IN.out, B3.out, K3.out⟩
          case measure => simp [intOf]; omega
        · have n0' : 0 < nl := by omega
          have CC := Lib.hid (fun w => (implCode ⟨xn, xd, xt⟩ al nl cl w hnl : Calls Try.prog 47 #[.agg #[.int .i64 xn, .int .i64 xd, .string xt], .slice al nl cl] w _))
          go_wp2_with fail
          refine (CC.out _).mono ?_
          rintro e w4 ⟨rfl, b4⟩
          have B4 := Lib.hid (below_then B3.out b4)
          have K4 := Lib.hid (blk_below b4 K3.out)
          clear b4
          by_cases hc : IsCode nl ⟨xn, xd, xt⟩
          · have IN := Lib.hid (FIN.out (.inr HS.out) (.inr (.inr hc)))
            rw [bB_yes hc]
            clear hc
            go_wp2
            go_roundw
            case rel => exact ⟨k + 1, by omega, by go_num, IN.out, B4.out, K4.out⟩
            case measure => simp [intOf]; omega
          · have X := Lib.hid (show ¬ ItemsOk kk items nl from fun h => (by have := (h k (by rw [EI.out]; exact hlt)).2; rw [HX.out] at this; exact this : LevOk nl ⟨xn, xd, xt⟩).elim (fun h' => n0 h') (fun h' => h'.elim (fun h' => hd h') (fun h' => hc h')))
            rw [bB_no hc]
            clear hc
            go_wp2
            go_ret
            exact ⟨ret_no X.out, B4.out⟩
      · have X := Lib.hid (show ¬ ItemsOk kk items nl from fun h => (by have := (h k (by rw [EI.out]; exact hlt)).1; rw [HX.out] at this; exact this : ItOk kk ⟨xn, xd, xt⟩).elim (fun h' => hx0 h') (fun h' => hs h'))
        rw [bB_no hs] at CS
        clear hx0 hs
        go_wp2_with fail
        refine (CS.out _).mono ?_
        rintro e w3 ⟨rfl, b3⟩
        have B3 := Lib.hid (below_then (below_then BB.out (below1 wr _)) b3)
        have K3 := Lib.hid (blk_below b3 (blk_old KB.out))
        have X3 := Lib.hid (blk_below b3 (blk_new wr _ rfl))
        clear b3 k0 k1 k2 k3 k4 k5 k6 k7
        obtain ⟨k0, k1, k2, k3, k4, k5, k6, k7⟩ := vec8 K3.out
        obtain ⟨⟨x0, x1, x2⟩, _⟩ := three X3.out
        go_wp2
        go_ret
        exact ⟨ret_no X.out, B3.out⟩
    · obtain rfl : k = ni := by omega
      have X := Lib.hid (show ItemsOk kk items nl from fun i hi => IT.out i (by rw [EI.out] at hi; exact hi))
      go_wp2
      go_ret
      exact ⟨ret_yes X.out, BB.out⟩

def NamesOk (f : Nat → ByteArray) (nn L : Nat) : Prop := (nn = 0 ∨ nn = L) ∧ NamedOk f nn
set_option maxHeartbeats 4000000 in
theorem implNames (kk : Int) (ai : Option Addr) (ni : Nat) (ap an ac al : Option Addr) (ci np cp nn cn nc cc nl cl : Nat) (code env : Int) (f : Nat → ByteArray) (hi : Nat) (w : World) (hs : ∀ w1, Below w.heap.size w w1 → StrsAt hi w1 an nn f) (hz : ∀ i, i < nn → (f i).size ≤ 9223372036854775807) (h1 : ni ≤ 1048576) (h2 : np ≤ 1048576) (h3 : nn ≤ 1048576) (L : Nat) (hL : lenV kk ni np = L) :
    Calls Try.prog 37 #[.agg #[.int .i64 kk, .slice ai ni ci, .slice ap np cp, .slice an nn cn, .slice ac nc cc, .slice al nl cl, .int .i64 code, .int .i64 env]] w fun e w' => e = .returned (.bool (bB (NamesOk f nn L))) ∧ Below w.heap.size w w' := by
  have CL := Lib.hid (fun w1 => (hL ▸ implLen kk ai ap an ac al ni ci np cp nn cn nc cc nl cl code env w1 h1 h2 : Calls Try.prog 33 #[.agg #[.int .i64 kk, .slice ai ni ci, .slice ap np cp, .slice an nn cn, .slice ac nc cc, .slice al nl cl, .int .i64 code, .int .i64 env]] w1 fun e w' => e = .returned (.int .i64 L) ∧ Below w1.heap.size w1 w'))
  clear hL
  by_cases h0 : nn = 0
  · subst h0
    have X := Lib.hid (show NamesOk f 0 L from ⟨.inl rfl, fun i hi => absurd hi (Nat.not_lt_zero _), .inl rfl⟩)
    clear hs hz
    go_enter Try.func37, Try.ntmps37
    go_wp2
    go_ret
    exact ⟨ret_yes X.out, below1 _ _⟩
  by_cases he : nn = L
  · have HE := Lib.hid he
    clear he
    by_cases hs0 : SomeIn f nn
    · have CE := Lib.hid (fun (w1 : World) (hb : Below w.heap.size w w1) => (by have h := implAreEmpty an nn cn f hi w1 (hs w1 hb) (by omega); rw [bB_no (fun h => h hs0)] at h; exact h : Calls Try.prog 42 #[.slice an nn cn] w1 fun e w' => e = .returned (.bool false) ∧ w1 = w'))
      by_cases hl : LongIn f nn
      · have CF := Lib.hid (fun (w1 : World) (hb : Below w.heap.size w w1) => (by have h := implContainsFunc an nn cn f hi w1 (hs w1 hb) (by omega) hz; rw [bB_yes hl] at h; exact h : Calls Try.prog 43 #[.slice an nn cn, .func (.func 44) #[] #[]] w1 fun e w' => e = .returned (.bool true) ∧ w1 = w'))
        have X := Lib.hid (show ¬ NamesOk f nn L from fun h => by obtain ⟨i, hi, h'⟩ := hl; have := h.2.1 i hi; omega)
        have H := Lib.hid (heldC_one (below1 w _) (blk_new w (.cells #[.int .i64 kk, .slice ai ni ci, .slice ap np cp, .slice an nn cn, .slice ac nc cc, .slice al nl cl, .int .i64 code, .int .i64 env] 32) rfl))
        go_enter Try.func37, Try.ntmps37
        go_wp2
        refine run_region (ops := (opsOf Try.f37 3)) (S := fun w' => HeldC w w' ([(w.heap.size, 32, #[.int .i64 kk, .slice ai ni ci, .slice ap np cp, .slice an nn cn, .slice ac nc cc, .slice al nl cl, .int .i64 code, .int .i64 env])])) [(0, true), (1, true), (2, true), (3, true), (4, false), (5, true), (6, true), (7, true), (8, true), (9, false), (10, true), (11, true), (12, true), (13, true), (14, true), (15, false), (16, true), (17, true), (18, true)] (by kernel_rfl) (by kernel_rfl) (by kernel_rfl) (by kernel_rfl) (by kernel_rfl) (fun _ _ _ _ _ h => h) (heldC_drew H.out) ?_
        have H := Lib.hid (heldC_drew H.out)
        refine runC_partV (b := w.heap.size) (by kernel_rfl) (show opAt (opsOf Try.f37 3) 0 = some (some 7, .fieldAddr 32 (.tmp 1) 3, none) from by kernel_rfl) (by kernel_rfl) (by kernel_rfl) (by kernel_rfl) ?_
        refine runC_cell (b := w.heap.size) (j := 3) (v := .slice an nn cn) load_strs (show opAt (opsOf Try.f37 3) 1 = some (some 8, .load 24 (.tmp 7), none) from by kernel_rfl) (by kernel_rfl) (by kernel_rfl) (by kernel_rfl) (List.Mem.head _) rfl ?_
        refine run_len (b := an) (n := nn) (c := cn) (show opAt (opsOf Try.f37 3) 2 = some (some 9, .call { callee := .builtin .len, args := [(.tmp 8)].toArray, argTypes := [24].toArray }, none) from by kernel_rfl) (by kernel_rfl) (by kernel_rfl) (by kernel_rfl) (by kernel_rfl) ?_
        refine runC_vec (b := w.heap.size) (show opAt (opsOf Try.f37 3) 3 = some (some 10, .load 32 (.tmp 1), none) from by kernel_rfl) (by kernel_rfl) (by kernel_rfl) (by kernel_rfl) (List.Mem.head _) ?_
        refine run_call (args := [.agg #[.int .i64 kk, .slice ai ni ci, .slice ap np cp, .slice an nn cn, .slice ac nc cc, .slice al nl cl, .int .i64 code, .int .i64 env]]) (show opAt (opsOf Try.f37 3) 4 = some (some 11, .call { callee := .value (.func 33), args := [(.tmp 10)].toArray, argTypes := [32].toArray }, none) from by kernel_rfl) (by kernel_rfl) (by kernel_rfl) (by kernel_rfl) (by kernel_rfl) ?_
        refine (CL.out _).mono ?_
        rintro en rw1 ⟨rfl, hb⟩
        refine ⟨_, rfl, heldC_call H.out hb, ?_⟩
        have H := Lib.hid (heldC_call H.out hb)
        clear hb
        refine run_cmp (k := .i64) (p := (nn : Int)) (q := (L : Int)) (b := true) (show opAt (opsOf Try.f37 3) 5 = some (some 12, .binOp .eql 3 (.tmp 9) (.tmp 11) 3, none) from by kernel_rfl) (by kernel_rfl) (by kernel_rfl) (by kernel_rfl) (by kernel_rfl) (congrArg some (beq_iff_eq.2 (by have := HE.out; omega))) ?_
        refine run_mov (v := .bool true) (show opAt (opsOf Try.f37 3) 6 = some (some 13, .move (.tmp 12), none) from by kernel_rfl) (by kernel_rfl) (by kernel_rfl) (by kernel_rfl) ?_
        refine runC_partV (b := w.heap.size) (by kernel_rfl) (show opAt (opsOf Try.f37 3) 7 = some (some 14, .fieldAddr 32 (.tmp 1) 3, some (6, true)) from by kernel_rfl) (by kernel_rfl) (by kernel_rfl) (by kernel_rfl) ?_
        refine runC_cell (b := w.heap.size) (j := 3) (v := .slice an nn cn) load_strs (show opAt (opsOf Try.f37 3) 8 = some (some 15, .load 24 (.tmp 14), some (6, true)) from by kernel_rfl) (by kernel_rfl) (by kernel_rfl) (by kernel_rfl) (List.Mem.head _) rfl ?_
        refine run_call (args := [.slice an nn cn]) (show opAt (opsOf Try.f37 3) 9 = some (some 16, .call { callee := .value (.func 42), args := [(.tmp 15)].toArray, argTypes := [24].toArray }, some (6, true)) from by kernel_rfl) (by kernel_rfl) (by kernel_rfl) (by kernel_rfl) (by kernel_rfl) ?_
        refine (CE.out _ H.out.1).mono ?_
        rintro en rw2 ⟨rfl, rfl⟩
        refine ⟨_, rfl, H.out, ?_⟩
        refine run_not (b := false) (show opAt (opsOf Try.f37 3) 10 = some (some 17, .unOp .not 4 (.tmp 16), some (6, true)) from by kernel_rfl) (by kernel_rfl) (by kernel_rfl) (by kernel_rfl) ?_
        refine run_pick (b := true) (v := .bool true) (show opAt (opsOf Try.f37 3) 11 = some (some 18, .pick (.tmp 13) (.tmp 17) (.const (.bool false)), none) from by kernel_rfl) (by kernel_rfl) (by kernel_rfl) (by kernel_rfl) (by kernel_rfl) ?_
        refine run_mov (v := .bool true) (show opAt (opsOf Try.f37 3) 12 = some (some 19, .move (.tmp 18), none) from by kernel_rfl) (by kernel_rfl) (by kernel_rfl) (by kernel_rfl) ?_
        refine runC_partV (b := w.heap.size) (by kernel_rfl) (show opAt (opsOf Try.f37 3) 13 = some (some 20, .fieldAddr 32 (.tmp 1) 3, some (12, true)) from by kernel_rfl) (by kernel_rfl) (by kernel_rfl) (by kernel_rfl) ?_
        refine runC_cell (b := w.heap.size) (j := 3) (v := .slice an nn cn) load_strs (show opAt (opsOf Try.f37 3) 14 = some (some 21, .load 24 (.tmp 20), some (12, true)) from by kernel_rfl) (by kernel_rfl) (by kernel_rfl) (by kernel_rfl) (List.Mem.head _) rfl ?_
        refine run_call (args := [.slice an nn cn, .func (.func 44) #[] #[]]) (show opAt (opsOf Try.f37 3) 15 = some (some 22, .call { callee := .value (.func 43), args := [(.tmp 21), (.func 44)].toArray, argTypes := [24, 63].toArray }, some (12, true)) from by kernel_rfl) (by kernel_rfl) (by kernel_rfl) (by kernel_rfl) (by kernel_rfl) ?_
        refine (CF.out _ H.out.1).mono ?_
        rintro en rw3 ⟨rfl, rfl⟩
        refine ⟨_, rfl, H.out, ?_⟩
        refine run_not (b := true) (show opAt (opsOf Try.f37 3) 16 = some (some 23, .unOp .not 4 (.tmp 22), some (12, true)) from by kernel_rfl) (by kernel_rfl) (by kernel_rfl) (by kernel_rfl) ?_
        refine run_pick (b := true) (v := .bool false) (show opAt (opsOf Try.f37 3) 17 = some (some 24, .pick (.tmp 19) (.tmp 23) (.const (.bool false)), none) from by kernel_rfl) (by kernel_rfl) (by kernel_rfl) (by kernel_rfl) (by kernel_rfl) ?_
        refine run_asg (v := .bool false) (show opAt (opsOf Try.f37 3) 18 = some (some 2, .assign (.tmp 24), none) from by kernel_rfl) (by kernel_rfl) (by kernel_rfl) (by kernel_rfl) ?_
        refine run_done ?_
        simp only [putAll, Act.put, List.setIfInBounds_toArray, List.set_cons_zero, List.set_cons_succ]
        go_wp2
        go_ret
        exact ⟨ret_no X.out, H.out.1⟩
      · have CF := Lib.hid (fun (w1 : World) (hb : Below w.heap.size w w1) => (by have h := implContainsFunc an nn cn f hi w1 (hs w1 hb) (by omega) hz; rw [bB_no hl] at h; exact h : Calls Try.prog 43 #[.slice an nn cn, .func (.func 44) #[] #[]] w1 fun e w' => e = .returned (.bool false) ∧ w1 = w'))
        have X := Lib.hid (show NamesOk f nn L from ⟨.inr HE.out, fun i hi => Nat.not_lt.1 (fun h => hl ⟨i, hi, h⟩), .inr hs0⟩)
        have H := Lib.hid (heldC_one (below1 w _) (blk_new w (.cells #[.int .i64 kk, .slice ai ni ci, .slice ap np cp, .slice an nn cn, .slice ac nc cc, .slice al nl cl, .int .i64 code, .int .i64 env] 32) rfl))
        go_enter Try.func37, Try.ntmps37
        go_wp2
        refine run_region (ops := (opsOf Try.f37 3)) (S := fun w' => HeldC w w' ([(w.heap.size, 32, #[.int .i64 kk, .slice ai ni ci, .slice ap np cp, .slice an nn cn, .slice ac nc cc, .slice al nl cl, .int .i64 code, .int .i64 env])])) [(0, true), (1, true), (2, true), (3, true), (4, false), (5, true), (6, true), (7, true), (8, true), (9, false), (10, true), (11, true), (12, true), (13, true), (14, true), (15, false), (16, true), (17, true), (18, true)] (by kernel_rfl) (by kernel_rfl) (by kernel_rfl) (by kernel_rfl) (by kernel_rfl) (fun _ _ _ _ _ h => h) (heldC_drew H.out) ?_
        have H := Lib.hid (heldC_drew H.out)
        refine runC_partV (b := w.heap.size) (by kernel_rfl) (show opAt (opsOf Try.f37 3) 0 = some (some 7, .fieldAddr 32 (.tmp 1) 3, none) from by kernel_rfl) (by kernel_rfl) (by kernel_rfl) (by kernel_rfl) ?_
        refine runC_cell (b := w.heap.size) (j := 3) (v := .slice an nn cn) load_strs (show opAt (opsOf Try.f37 3) 1 = some (some 8, .load 24 (.tmp 7), none) from by kernel_rfl) (by kernel_rfl) (by kernel_rfl) (by kernel_rfl) (List.Mem.head _) rfl ?_
        refine run_len (b := an) (n := nn) (c := cn) (show opAt (opsOf Try.f37 3) 2 = some (some 9, .call { callee := .builtin .len, args := [(.tmp 8)].toArray, argTypes := [24].toArray }, none) from by kernel_rfl) (by kernel_rfl) (by kernel_rfl) (by kernel_rfl) (by kernel_rfl) ?_
        refine runC_vec (b := w.heap.size) (show opAt (opsOf Try.f37 3) 3 = some (some 10, .load 32 (.tmp 1), none) from by kernel_rfl) (by kernel_rfl) (by kernel_rfl) (by kernel_rfl) (List.Mem.head _) ?_
        refine run_call (args := [.agg #[.int .i64 kk, .slice ai ni ci, .slice ap np cp, .slice an nn cn, .slice ac nc cc, .slice al nl cl, .int .i64 code, .int .i64 env]]) (show opAt (opsOf Try.f37 3) 4 = some (some 11, .call { callee := .value (.func 33), args := [(.tmp 10)].toArray, argTypes := [32].toArray }, none) from by kernel_rfl) (by kernel_rfl) (by kernel_rfl) (by kernel_rfl) (by kernel_rfl) ?_
        refine (CL.out _).mono ?_
        rintro en rw1 ⟨rfl, hb⟩
        refine ⟨_, rfl, heldC_call H.out hb, ?_⟩
        have H := Lib.hid (heldC_call H.out hb)
        clear hb
        refine run_cmp (k := .i64) (p := (nn : Int)) (q := (L : Int)) (b := true) (show opAt (opsOf Try.f37 3) 5 = some (some 12, .binOp .eql 3 (.tmp 9) (.tmp 11) 3, none) from by kernel_rfl) (by kernel_rfl) (by kernel_rfl) (by kernel_rfl) (by kernel_rfl) (congrArg some (beq_iff_eq.2 (by have := HE.out; omega))) ?_
        refine run_mov (v := .bool true) (show opAt (opsOf Try.f37 3) 6 = some (some 13, .move (.tmp 12), none) from by kernel_rfl) (by kernel_rfl) (by kernel_rfl) (by kernel_rfl) ?_
        refine runC_partV (b := w.heap.size) (by kernel_rfl) (show opAt (opsOf Try.f37 3) 7 = some (some 14, .fieldAddr 32 (.tmp 1) 3, some (6, true)) from by kernel_rfl) (by kernel_rfl) (by kernel_rfl) (by kernel_rfl) ?_
        refine runC_cell (b := w.heap.size) (j := 3) (v := .slice an nn cn) load_strs (show opAt (opsOf Try.f37 3) 8 = some (some 15, .load 24 (.tmp 14), some (6, true)) from by kernel_rfl) (by kernel_rfl) (by kernel_rfl) (by kernel_rfl) (List.Mem.head _) rfl ?_
        refine run_call (args := [.slice an nn cn]) (show opAt (opsOf Try.f37 3) 9 = some (some 16, .call { callee := .value (.func 42), args := [(.tmp 15)].toArray, argTypes := [24].toArray }, some (6, true)) from by kernel_rfl) (by kernel_rfl) (by kernel_rfl) (by kernel_rfl) (by kernel_rfl) ?_
        refine (CE.out _ H.out.1).mono ?_
        rintro en rw2 ⟨rfl, rfl⟩
        refine ⟨_, rfl, H.out, ?_⟩
        refine run_not (b := false) (show opAt (opsOf Try.f37 3) 10 = some (some 17, .unOp .not 4 (.tmp 16), some (6, true)) from by kernel_rfl) (by kernel_rfl) (by kernel_rfl) (by kernel_rfl) ?_
        refine run_pick (b := true) (v := .bool true) (show opAt (opsOf Try.f37 3) 11 = some (some 18, .pick (.tmp 13) (.tmp 17) (.const (.bool false)), none) from by kernel_rfl) (by kernel_rfl) (by kernel_rfl) (by kernel_rfl) (by kernel_rfl) ?_
        refine run_mov (v := .bool true) (show opAt (opsOf Try.f37 3) 12 = some (some 19, .move (.tmp 18), none) from by kernel_rfl) (by kernel_rfl) (by kernel_rfl) (by kernel_rfl) ?_
        refine runC_partV (b := w.heap.size) (by kernel_rfl) (show opAt (opsOf Try.f37 3) 13 = some (some 20, .fieldAddr 32 (.tmp 1) 3, some (12, true)) from by kernel_rfl) (by kernel_rfl) (by kernel_rfl) (by kernel_rfl) ?_
        refine runC_cell (b := w.heap.size) (j := 3) (v := .slice an nn cn) load_strs (show opAt (opsOf Try.f37 3) 14 = some (some 21, .load 24 (.tmp 20), some (12, true)) from by kernel_rfl) (by kernel_rfl) (by kernel_rfl) (by kernel_rfl) (List.Mem.head _) rfl ?_
        refine run_call (args := [.slice an nn cn, .func (.func 44) #[] #[]]) (show opAt (opsOf Try.f37 3) 15 = some (some 22, .call { callee := .value (.func 43), args := [(.tmp 21), (.func 44)].toArray, argTypes := [24, 63].toArray }, some (12, true)) from by kernel_rfl) (by kernel_rfl) (by kernel_rfl) (by kernel_rfl) (by kernel_rfl) ?_
        refine (CF.out _ H.out.1).mono ?_
        rintro en rw3 ⟨rfl, rfl⟩
        refine ⟨_, rfl, H.out, ?_⟩
        refine run_not (b := false) (show opAt (opsOf Try.f37 3) 16 = some (some 23, .unOp .not 4 (.tmp 22), some (12, true)) from by kernel_rfl) (by kernel_rfl) (by kernel_rfl) (by kernel_rfl) ?_
        refine run_pick (b := true) (v := .bool true) (show opAt (opsOf Try.f37 3) 17 = some (some 24, .pick (.tmp 19) (.tmp 23) (.const (.bool false)), none) from by kernel_rfl) (by kernel_rfl) (by kernel_rfl) (by kernel_rfl) (by kernel_rfl) ?_
        refine run_asg (v := .bool true) (show opAt (opsOf Try.f37 3) 18 = some (some 2, .assign (.tmp 24), none) from by kernel_rfl) (by kernel_rfl) (by kernel_rfl) (by kernel_rfl) ?_
        refine run_done ?_
        simp only [putAll, Act.put, List.setIfInBounds_toArray, List.set_cons_zero, List.set_cons_succ]
        go_wp2
        go_ret
        exact ⟨ret_yes X.out, H.out.1⟩
    · have CE := Lib.hid (fun (w1 : World) (hb : Below w.heap.size w w1) => (by have h := implAreEmpty an nn cn f hi w1 (hs w1 hb) (by omega); rw [bB_yes hs0] at h; exact h : Calls Try.prog 42 #[.slice an nn cn] w1 fun e w' => e = .returned (.bool true) ∧ w1 = w'))
      have X := Lib.hid (show ¬ NamesOk f nn L from fun h => h.2.2.elim (fun h' => h0 h') (fun h' => hs0 h'))
      have H := Lib.hid (heldC_one (below1 w _) (blk_new w (.cells #[.int .i64 kk, .slice ai ni ci, .slice ap np cp, .slice an nn cn, .slice ac nc cc, .slice al nl cl, .int .i64 code, .int .i64 env] 32) rfl))
      go_enter Try.func37, Try.ntmps37
      go_wp2
      refine run_region (ops := (opsOf Try.f37 3)) (S := fun w' => HeldC w w' ([(w.heap.size, 32, #[.int .i64 kk, .slice ai ni ci, .slice ap np cp, .slice an nn cn, .slice ac nc cc, .slice al nl cl, .int .i64 code, .int .i64 env])])) [(0, true), (1, true), (2, true), (3, true), (4, false), (5, true), (6, true), (7, true), (8, true), (9, false), (10, true), (11, true), (12, true), (13, true), (14, true), (15, false), (16, true), (17, true), (18, true)] (by kernel_rfl) (by kernel_rfl) (by kernel_rfl) (by kernel_rfl) (by kernel_rfl) (fun _ _ _ _ _ h => h) (heldC_drew H.out) ?_
      have H := Lib.hid (heldC_drew H.out)
      refine runC_partV (b := w.heap.size) (by kernel_rfl) (show opAt (opsOf Try.f37 3) 0 = some (some 7, .fieldAddr 32 (.tmp 1) 3, none) from by kernel_rfl) (by kernel_rfl) (by kernel_rfl) (by kernel_rfl) ?_
      refine runC_cell (b := w.heap.size) (j := 3) (v := .slice an nn cn) load_strs (show opAt (opsOf Try.f37 3) 1 = some (some 8, .load 24 (.tmp 7), none) from by kernel_rfl) (by kernel_rfl) (by kernel_rfl) (by kernel_rfl) (List.Mem.head _) rfl ?_
      refine run_len (b := an) (n := nn) (c := cn) (show opAt (opsOf Try.f37 3) 2 = some (some 9, .call { callee := .builtin .len, args := [(.tmp 8)].toArray, argTypes := [24].toArray }, none) from by kernel_rfl) (by kernel_rfl) (by kernel_rfl) (by kernel_rfl) (by kernel_rfl) ?_
      refine runC_vec (b := w.heap.size) (show opAt (opsOf Try.f37 3) 3 = some (some 10, .load 32 (.tmp 1), none) from by kernel_rfl) (by kernel_rfl) (by kernel_rfl) (by kernel_rfl) (List.Mem.head _) ?_
      refine run_call (args := [.agg #[.int .i64 kk, .slice ai ni ci, .slice ap np cp, .slice an nn cn, .slice ac nc cc, .slice al nl cl, .int .i64 code, .int .i64 env]]) (show opAt (opsOf Try.f37 3) 4 = some (some 11, .call { callee := .value (.func 33), args := [(.tmp 10)].toArray, argTypes := [32].toArray }, none) from by kernel_rfl) (by kernel_rfl) (by kernel_rfl) (by kernel_rfl) (by kernel_rfl) ?_
      refine (CL.out _).mono ?_
      rintro en rw1 ⟨rfl, hb⟩
      refine ⟨_, rfl, heldC_call H.out hb, ?_⟩
      have H := Lib.hid (heldC_call H.out hb)
      clear hb
      refine run_cmp (k := .i64) (p := (nn : Int)) (q := (L : Int)) (b := true) (show opAt (opsOf Try.f37 3) 5 = some (some 12, .binOp .eql 3 (.tmp 9) (.tmp 11) 3, none) from by kernel_rfl) (by kernel_rfl) (by kernel_rfl) (by kernel_rfl) (by kernel_rfl) (congrArg some (beq_iff_eq.2 (by have := HE.out; omega))) ?_
      refine run_mov (v := .bool true) (show opAt (opsOf Try.f37 3) 6 = some (some 13, .move (.tmp 12), none) from by kernel_rfl) (by kernel_rfl) (by kernel_rfl) (by kernel_rfl) ?_
      refine runC_partV (b := w.heap.size) (by kernel_rfl) (show opAt (opsOf Try.f37 3) 7 = some (some 14, .fieldAddr 32 (.tmp 1) 3, some (6, true)) from by kernel_rfl) (by kernel_rfl) (by kernel_rfl) (by kernel_rfl) ?_
      refine runC_cell (b := w.heap.size) (j := 3) (v := .slice an nn cn) load_strs (show opAt (opsOf Try.f37 3) 8 = some (some 15, .load 24 (.tmp 14), some (6, true)) from by kernel_rfl) (by kernel_rfl) (by kernel_rfl) (by kernel_rfl) (List.Mem.head _) rfl ?_
      refine run_call (args := [.slice an nn cn]) (show opAt (opsOf Try.f37 3) 9 = some (some 16, .call { callee := .value (.func 42), args := [(.tmp 15)].toArray, argTypes := [24].toArray }, some (6, true)) from by kernel_rfl) (by kernel_rfl) (by kernel_rfl) (by kernel_rfl) (by kernel_rfl) ?_
      refine (CE.out _ H.out.1).mono ?_
      rintro en rw2 ⟨rfl, rfl⟩
      refine ⟨_, rfl, H.out, ?_⟩
      refine run_not (b := true) (show opAt (opsOf Try.f37 3) 10 = some (some 17, .unOp .not 4 (.tmp 16), some (6, true)) from by kernel_rfl) (by kernel_rfl) (by kernel_rfl) (by kernel_rfl) ?_
      refine run_pick (b := true) (v := .bool false) (show opAt (opsOf Try.f37 3) 11 = some (some 18, .pick (.tmp 13) (.tmp 17) (.const (.bool false)), none) from by kernel_rfl) (by kernel_rfl) (by kernel_rfl) (by kernel_rfl) (by kernel_rfl) ?_
      refine run_mov (v := .bool false) (show opAt (opsOf Try.f37 3) 12 = some (some 19, .move (.tmp 18), none) from by kernel_rfl) (by kernel_rfl) (by kernel_rfl) (by kernel_rfl) ?_
      refine run_skip (show opAt (opsOf Try.f37 3) 13 = some (some 20, .fieldAddr 32 (.tmp 1) 3, some (12, true)) from by kernel_rfl) (by kernel_rfl) (by kernel_rfl) ?_
      refine run_skip (show opAt (opsOf Try.f37 3) 14 = some (some 21, .load 24 (.tmp 20), some (12, true)) from by kernel_rfl) (by kernel_rfl) (by kernel_rfl) ?_
      refine run_pass (show opAt (opsOf Try.f37 3) 15 = some (some 22, .call { callee := .value (.func 43), args := [(.tmp 21), (.func 44)].toArray, argTypes := [24, 63].toArray }, some (12, true)) from by kernel_rfl) (by kernel_rfl) (by kernel_rfl) H.out ?_
      refine run_skip (show opAt (opsOf Try.f37 3) 16 = some (some 23, .unOp .not 4 (.tmp 22), some (12, true)) from by kernel_rfl) (by kernel_rfl) (by kernel_rfl) ?_
      refine run_pick (b := false) (v := .bool false) (show opAt (opsOf Try.f37 3) 17 = some (some 24, .pick (.tmp 19) (.tmp 23) (.const (.bool false)), none) from by kernel_rfl) (by kernel_rfl) (by kernel_rfl) (by kernel_rfl) (by kernel_rfl) ?_
      refine run_asg (v := .bool false) (show opAt (opsOf Try.f37 3) 18 = some (some 2, .assign (.tmp 24), none) from by kernel_rfl) (by kernel_rfl) (by kernel_rfl) (by kernel_rfl) ?_
      refine run_done ?_
      simp only [putAll, Act.put, List.setIfInBounds_toArray, List.set_cons_zero, List.set_cons_succ]
      go_wp2
      go_ret
      exact ⟨ret_no X.out, H.out.1⟩
  · have HE := Lib.hid he
    have X := Lib.hid (show ¬ NamesOk f nn L from fun h => h.1.elim (fun h' => h0 h') (fun h' => he h'))
    clear he
    have H := Lib.hid (heldC_one (below1 w _) (blk_new w (.cells #[.int .i64 kk, .slice ai ni ci, .slice ap np cp, .slice an nn cn, .slice ac nc cc, .slice al nl cl, .int .i64 code, .int .i64 env] 32) rfl))
    go_enter Try.func37, Try.ntmps37
    go_wp2
    refine run_region (ops := (opsOf Try.f37 3)) (S := fun w' => HeldC w w' ([(w.heap.size, 32, #[.int .i64 kk, .slice ai ni ci, .slice ap np cp, .slice an nn cn, .slice ac nc cc, .slice al nl cl, .int .i64 code, .int .i64 env])])) [(0, true), (1, true), (2, true), (3, true), (4, false), (5, true), (6, true), (7, true), (8, true), (9, false), (10, true), (11, true), (12, true), (13, true), (14, true), (15, false), (16, true), (17, true), (18, true)] (by kernel_rfl) (by kernel_rfl) (by kernel_rfl) (by kernel_rfl) (by kernel_rfl) (fun _ _ _ _ _ h => h) (heldC_drew H.out) ?_
    have H := Lib.hid (heldC_drew H.out)
    refine runC_partV (b := w.heap.size) (by kernel_rfl) (show opAt (opsOf Try.f37 3) 0 = some (some 7, .fieldAddr 32 (.tmp 1) 3, none) from by kernel_rfl) (by kernel_rfl) (by kernel_rfl) (by kernel_rfl) ?_
    refine runC_cell (b := w.heap.size) (j := 3) (v := .slice an nn cn) load_strs (show opAt (opsOf Try.f37 3) 1 = some (some 8, .load 24 (.tmp 7), none) from by kernel_rfl) (by kernel_rfl) (by kernel_rfl) (by kernel_rfl) (List.Mem.head _) rfl ?_
    refine run_len (b := an) (n := nn) (c := cn) (show opAt (opsOf Try.f37 3) 2 = some (some 9, .call { callee := .builtin .len, args := [(.tmp 8)].toArray, argTypes := [24].toArray }, none) from by kernel_rfl) (by kernel_rfl) (by kernel_rfl) (by kernel_rfl) (by kernel_rfl) ?_
    refine runC_vec (b := w.heap.size) (show opAt (opsOf Try.f37 3) 3 = some (some 10, .load 32 (.tmp 1), none) from by kernel_rfl) (by kernel_rfl) (by kernel_rfl) (by kernel_rfl) (List.Mem.head _) ?_
    refine run_call (args := [.agg #[.int .i64 kk, .slice ai ni ci, .slice ap np cp, .slice an nn cn, .slice ac nc cc, .slice al nl cl, .int .i64 code, .int .i64 env]]) (show opAt (opsOf Try.f37 3) 4 = some (some 11, .call { callee := .value (.func 33), args := [(.tmp 10)].toArray, argTypes := [32].toArray }, none) from by kernel_rfl) (by kernel_rfl) (by kernel_rfl) (by kernel_rfl) (by kernel_rfl) ?_
    refine (CL.out _).mono ?_
    rintro en rw1 ⟨rfl, hb⟩
    refine ⟨_, rfl, heldC_call H.out hb, ?_⟩
    have H := Lib.hid (heldC_call H.out hb)
    clear hb
    refine run_cmp (k := .i64) (p := (nn : Int)) (q := (L : Int)) (b := false) (show opAt (opsOf Try.f37 3) 5 = some (some 12, .binOp .eql 3 (.tmp 9) (.tmp 11) 3, none) from by kernel_rfl) (by kernel_rfl) (by kernel_rfl) (by kernel_rfl) (by kernel_rfl) (congrArg some (beq_eq_false_iff_ne.2 (by have := HE.out; omega))) ?_
    refine run_mov (v := .bool false) (show opAt (opsOf Try.f37 3) 6 = some (some 13, .move (.tmp 12), none) from by kernel_rfl) (by kernel_rfl) (by kernel_rfl) (by kernel_rfl) ?_
    refine run_skip (show opAt (opsOf Try.f37 3) 7 = some (some 14, .fieldAddr 32 (.tmp 1) 3, some (6, true)) from by kernel_rfl) (by kernel_rfl) (by kernel_rfl) ?_
    refine run_skip (show opAt (opsOf Try.f37 3) 8 = some (some 15, .load 24 (.tmp 14), some (6, true)) from by kernel_rfl) (by kernel_rfl) (by kernel_rfl) ?_
    refine run_pass (show opAt (opsOf Try.f37 3) 9 = some (some 16, .call { callee := .value (.func 42), args := [(.tmp 15)].toArray, argTypes := [24].toArray }, some (6, true)) from by kernel_rfl) (by kernel_rfl) (by kernel_rfl) H.out ?_
    refine run_skip (show opAt (opsOf Try.f37 3) 10 = some (some 17, .unOp .not 4 (.tmp 16), some (6, true)) from by kernel_rfl) (by kernel_rfl) (by kernel_rfl) ?_
    refine run_pick (b := false) (v := .bool false) (show opAt (opsOf Try.f37 3) 11 = some (some 18, .pick (.tmp 13) (.tmp 17) (.const (.bool false)), none) from by kernel_rfl) (by kernel_rfl) (by kernel_rfl) (by kernel_rfl) (by kernel_rfl) ?_
    refine run_mov (v := .bool false) (show opAt (opsOf Try.f37 3) 12 = some (some 19, .move (.tmp 18), none) from by kernel_rfl) (by kernel_rfl) (by kernel_rfl) (by kernel_rfl) ?_
    refine run_skip (show opAt (opsOf Try.f37 3) 13 = some (some 20, .fieldAddr 32 (.tmp 1) 3, some (12, true)) from by kernel_rfl) (by kernel_rfl) (by kernel_rfl) ?_
    refine run_skip (show opAt (opsOf Try.f37 3) 14 = some (some 21, .load 24 (.tmp 20), some (12, true)) from by kernel_rfl) (by kernel_rfl) (by kernel_rfl) ?_
    refine run_pass (show opAt (opsOf Try.f37 3) 15 = some (some 22, .call { callee := .value (.func 43), args := [(.tmp 21), (.func 44)].toArray, argTypes := [24, 63].toArray }, some (12, true)) from by kernel_rfl) (by kernel_rfl) (by kernel_rfl) H.out ?_
    refine run_skip (show opAt (opsOf Try.f37 3) 16 = some (some 23, .unOp .not 4 (.tmp 22), some (12, true)) from by kernel_rfl) (by kernel_rfl) (by kernel_rfl) ?_
    refine run_pick (b := false) (v := .bool false) (show opAt (opsOf Try.f37 3) 17 = some (some 24, .pick (.tmp 19) (.tmp 23) (.const (.bool false)), none) from by kernel_rfl) (by kernel_rfl) (by kernel_rfl) (by kernel_rfl) (by kernel_rfl) ?_
    refine run_asg (v := .bool false) (show opAt (opsOf Try.f37 3) 18 = some (some 2, .assign (.tmp 24), none) from by kernel_rfl) (by kernel_rfl) (by kernel_rfl) (by kernel_rfl) ?_
    refine run_done ?_
    simp only [putAll, Act.put, List.setIfInBounds_toArray, List.set_cons_zero, List.set_cons_succ]
    go_wp2
    go_ret
    exact ⟨ret_no X.out, H.out.1⟩

theorem fields_of {k : Int} {items : List It} {ni np L nn nc nl : Nat} {names cls levels : Nat → ByteArray} {code env : Int} (h : FlatN k items ni np L names nn cls nc levels nl code env) (hL : lenV k ni np = L) : FieldsOk k ni np nn nc nl code env :=
  ⟨h.h_kind, h.h_code, h.h_noLevels, h.h_noParts, h.h_func, fun e => by have := h.h_null e; omega, h.h_list⟩
theorem flatN_mk {k : Int} {items : List It} {ni np L nn nc nl : Nat} {names cls levels : Nat → ByteArray} {code env : Int} (h1 : FieldsOk k ni np nn nc nl code env) (h2 : L ≤ 40) (h3 : NamesOk names nn L) (h4 : LabelsOk cls nc 3) (h5 : LabelsOk levels nl 20) (hni : items.length = ni) (hL : lenV k ni np = L) (h6 : ItemsOk k items nl) :
    FlatN k items ni np L names nn cls nc levels nl code env := by
  obtain ⟨g1, g2, g3, g4, g5, g6, g7⟩ := h1
  exact ⟨g1, h2, h3.1, h3.2, h4, h5, g2, g3, g4, g5, fun e => by have := g6 e; have := g4 (by omega); omega, g7, fun i hi => h6 i (by rw [hni]; exact hi)⟩
set_option maxHeartbeats 4000000 in
theorem implFlat (d : Nat) (v : Vec) (val : Value) (lo hi : Nat) (w : World) (hv : VecAt lo hi w d v val) (hhi : hi ≤ w.heap.size) (hsm : Small d v) :
    Calls Try.prog 32 #[val] w fun e w' => e = .returned (.bool (bB (FlatV v))) ∧ Below w.heap.size w w' := by
  obtain ⟨kk, items, parts, names, cls, levels, code, env⟩ := v
  obtain ⟨d', ai, ci, ap, cp, an, cn, ac, cc, al, cl, rfl, rfl, hI, hN, hC, hL, hP, hcap⟩ := vecAt_openC hv
  obtain ⟨li, lp, ln, lc, ll, bi, bn, bc, bl, _⟩ := hsm
  have sz : ∀ (l : List ByteArray), (∀ s ∈ l, s.size ≤ 1048576) → ∀ i, i < l.length → (txtS l i).size ≤ 9223372036854775807 := by
    intro l h i hi
    unfold txtS
    rw [List.getD_eq_getElem?_getD, List.getElem?_eq_getElem hi]
    exact Nat.le_trans (h _ (List.getElem_mem hi)) (by omega)
  have hit : ∀ i, i < items.length → (items.getD i noI).t.size ≤ 1048576 := by
    intro i hi
    rw [List.getD_eq_getElem?_getD, List.getElem?_eq_getElem hi]
    exact bi _ (List.getElem_mem hi)
  have CCl := Lib.hid (fun (w1 : World) (hb : Below w.heap.size w w1) => (implLabels ac cls.length cc 3 (txtS cls) hi w1 (hC.below hb hhi).strs hcap.2.2.2.1 (by omega) (by omega) (sz cls bc) : Calls Try.prog 38 #[.slice ac cls.length cc, .int .i64 3] w1 _))
  have CLv := Lib.hid (fun (w1 : World) (hb : Below w.heap.size w w1) => (implLabels al levels.length cl 20 (txtS levels) hi w1 (hL.below hb hhi).strs hcap.2.2.2.2 (by omega) (by omega) (sz levels bl) : Calls Try.prog 38 #[.slice al levels.length cl, .int .i64 20] w1 _))
  have CIt := Lib.hid (fun (w1 : World) (hb : Below w.heap.size w w1) => implItems kk items ai ap an ac al ci parts.length cp names.length cn cls.length cc levels.length cl code env lo hi w1 (hI.below hb hhi) (Nat.le_trans hhi hb.size) hit li ll)
  have CLn := Lib.hid (fun (w1 : World) => implLen kk ai ap an ac al items.length ci parts.length cp names.length cn cls.length cc levels.length cl code env w1 li lp)
  have CFd := Lib.hid (fun (w1 : World) => implFields kk ai ap an ac al items.length ci parts.length cp names.length cn cls.length cc levels.length cl code env w1)
  obtain ⟨L, hL_⟩ : ∃ L, lenV kk items.length parts.length = L := ⟨_, rfl⟩
  have CNm := Lib.hid (fun (w1 : World) (hb : Below w.heap.size w w1) => implNames kk ai items.length ap an ac al ci parts.length cp names.length cn cls.length cc levels.length cl code env (txtS names) hi w1 (fun w2 hb2 => (hN.below (hb.trans (hb2.mono hb.size)) hhi).strs) (sz names bn) li lp ln L hL_)
  have XF := Lib.hid (flatN_iff (k := kk) (items := items) (parts := parts) (names := names) (cls := cls) (levels := levels) (code := code) (env := env))
  clear hv hI hN hC hL hP sz hit bi bn bc bl
  obtain ⟨ni, hni⟩ : ∃ x, items.length = x := ⟨_, rfl⟩
  obtain ⟨np, hnp⟩ : ∃ x, parts.length = x := ⟨_, rfl⟩
  obtain ⟨nn, hnn⟩ : ∃ x, names.length = x := ⟨_, rfl⟩
  obtain ⟨nc, hnc⟩ : ∃ x, cls.length = x := ⟨_, rfl⟩
  obtain ⟨nl, hnl⟩ : ∃ x, levels.length = x := ⟨_, rfl⟩
  rw [hL_] at CLn XF
  rw [hni] at hL_ CLn CFd CIt CNm XF li
  rw [hnp] at hL_ CLn CFd CIt CNm XF lp
  rw [hnn] at CLn CFd CIt CNm XF ln
  rw [hnc] at CLn CFd CIt CNm CCl XF lc
  rw [hnl] at CLn CFd CIt CNm CLv XF ll
  rw [hni, hnp, hnn, hnc, hnl, bB_iff XF.out]
  have EL := Lib.hid hL_
  have EI := Lib.hid hni
  clear hL_ hni hnp hnn hnc hnl hcap XF
  go_enter Try.func32, Try.ntmps32
  go_wp2_with fail
  have B0 := Lib.hid (below1 w (.cells #[.int .i64 kk, .slice ai ni ci, .slice ap np cp, .slice an nn cn, .slice ac nc cc, .slice al nl cl, .int .i64 code, .int .i64 env] 32))
  have K0 := Lib.hid (blk_new w (.cells #[.int .i64 kk, .slice ai ni ci, .slice ap np cp, .slice an nn cn, .slice ac nc cc, .slice al nl cl, .int .i64 code, .int .i64 env] 32) rfl)
  obtain ⟨k0, k1, k2, k3, k4, k5, k6, k7⟩ := vec8 K0.out
  refine (CFd.out _).mono ?_
  rintro e w1 ⟨rfl, b⟩
  have B1 := Lib.hid (below_then B0.out b)
  have K1 := Lib.hid (blk_below b K0.out)
  clear b k0 k1 k2 k3 k4 k5 k6 k7
  obtain ⟨k0, k1, k2, k3, k4, k5, k6, k7⟩ := vec8 K1.out
  by_cases q1 : FieldsOk kk ni np nn nc nl code env
  · rw [bB_yes q1]
    have Q1 := Lib.hid q1
    clear q1
    go_wp2_with fail
    refine (CLn.out _).mono ?_
    rintro e w2 ⟨rfl, b⟩
    have B2 := Lib.hid (below_then B1.out b)
    have K2 := Lib.hid (blk_below b K1.out)
    clear b k0 k1 k2 k3 k4 k5 k6 k7
    obtain ⟨k0, k1, k2, k3, k4, k5, k6, k7⟩ := vec8 K2.out
    by_cases q2 : L ≤ 40
    · go_wp2_with fail
      refine (CNm.out _ B2.out).mono ?_
      rintro e w3 ⟨rfl, b⟩
      have B3 := Lib.hid (below_then B2.out b)
      have K3 := Lib.hid (blk_below b K2.out)
      clear b k0 k1 k2 k3 k4 k5 k6 k7
      obtain ⟨k0, k1, k2, k3, k4, k5, k6, k7⟩ := vec8 K3.out
      by_cases q3 : NamesOk (txtS names) nn L
      · rw [bB_yes q3]
        have Q3 := Lib.hid q3
        clear q3
        go_wp2_with fail
        refine (CCl.out _ B3.out).mono ?_
        rintro e w' ⟨rfl, rfl⟩
        by_cases q4 : LabelsOk (txtS cls) nc 3
        · rw [bB_yes q4]
          have Q4 := Lib.hid q4
          clear q4
          go_wp2_with fail
          refine (CLv.out _ B3.out).mono ?_
          rintro e w' ⟨rfl, rfl⟩
          by_cases q5 : LabelsOk (txtS levels) nl 20
          · rw [bB_yes q5]
            have Q5 := Lib.hid q5
            clear q5
            go_wp2_with fail
            refine (CIt.out _ B3.out).mono ?_
            rintro e w6 ⟨rfl, b⟩
            have B6 := Lib.hid (below_then B3.out b)
            clear b
            by_cases q6 : ItemsOk kk items nl
            · have X := Lib.hid (show FlatN kk items ni np L (txtS names) nn (txtS cls) nc (txtS levels) nl code env from flatN_mk Q1.out (by omega) Q3.out Q4.out Q5.out EI.out EL.out q6)
              rw [bB_yes q6]
              clear q6
              go_wp2
              go_ret
              exact ⟨ret_yes X.out, B6.out⟩
            · have X := Lib.hid (show ¬ FlatN kk items ni np L (txtS names) nn (txtS cls) nc (txtS levels) nl code env from fun h => q6 (fun i hi => h.h_items i (by rw [EI.out] at hi; exact hi)))
              rw [bB_no q6]
              clear q6
              go_wp2
              go_ret
              exact ⟨ret_no X.out, B6.out⟩
          · have X := Lib.hid (show ¬ FlatN kk items ni np L (txtS names) nn (txtS cls) nc (txtS levels) nl code env from fun h => q5 h.h_levels)
            rw [bB_no q5]
            clear q5
            go_wp2
            go_ret
            exact ⟨ret_no X.out, B3.out⟩
        · have X := Lib.hid (show ¬ FlatN kk items ni np L (txtS names) nn (txtS cls) nc (txtS levels) nl code env from fun h => q4 h.h_cls)
          rw [bB_no q4]
          clear q4
          go_wp2
          go_ret
          exact ⟨ret_no X.out, B3.out⟩
      · have X := Lib.hid (show ¬ FlatN kk items ni np L (txtS names) nn (txtS cls) nc (txtS levels) nl code env from fun h => q3 ⟨h.h_names, h.h_named⟩)
        rw [bB_no q3]
        clear q3
        go_wp2
        go_ret
        exact ⟨ret_no X.out, B3.out⟩
    · have X := Lib.hid (show ¬ FlatN kk items ni np L (txtS names) nn (txtS cls) nc (txtS levels) nl code env from fun h => q2 h.h_len)
      go_wp2
      go_ret
      exact ⟨ret_no X.out, B2.out⟩
  · have X := Lib.hid (show ¬ FlatN kk items ni np L (txtS names) nn (txtS cls) nc (txtS levels) nl code env from fun h => q1 (fields_of h EL.out))
    rw [bB_no q1]
    clear q1
    go_wp2
    go_ret
    exact ⟨ret_no X.out, B1.out⟩
end Go.Proofs.Ytddebgmjolojeaa
