/- The reference's l4Clean: names that are all empty are left out. -/
import Derived.Test.YtfbpbpbmnieieaaRows
import Derived.Test.YtfbpbpbmnieieaaMr2
import Derived.Test.YtfbpbpbmnieieaaMg1
import Derived.Test.YtfbpbpbmnieieaaVecCntI
import Derived.WalkKit
import Derived.OwnWalk
import Derived.Deep.DeepCutAuto
import Derived.Lib.Hide
import Derived.Maps.AppendAt
import Derived.IntWalk
import Derived.Laws.EntriesVeiled
namespace Go.Proofs.Ytfbpbpbmnieieaa
set_option maxRecDepth 100000
open Go.RowKit
set_option linter.unusedVariables false
set_option maxHeartbeats 4000000 in
theorem specClean (kk code env : Int) (items : List It) (parts : List Vec) (names cls levels : List ByteArray) (ai ap an ac al : Option Addr) (ci cp cn cc cl lo hi : Nat) (w : World) (hN : TextsAt lo hi w an names) (hhi : hi ≤ w.heap.size) (ln : names.length ≤ 1048576) :
    Calls Try.prog 54 #[.agg #[.int .i64 kk, .slice ai items.length ci, .slice ap parts.length cp, .slice an names.length cn, .slice ac cls.length cc, .slice al levels.length cl, .int .i64 code, .int .i64 env]] w fun e w' => Below w.heap.size w w' ∧ (((∃ i, i < names.length ∧ txtS names i ≠ ⟨#[]⟩) ∧ e = .returned (.agg #[.int .i64 kk, .slice ai items.length ci, .slice ap parts.length cp, .slice an names.length cn, .slice ac cls.length cc, .slice al levels.length cl, .int .i64 code, .int .i64 env])) ∨
      ((∀ i, i < names.length → txtS names i = ⟨#[]⟩) ∧ ∃ g, w.heap.size ≤ g ∧ e = .returned (.agg #[.int .i64 kk, .slice ai items.length ci, .slice ap parts.length cp, .slice (some ⟨g, 0, none⟩) 0 0, .slice ac cls.length cc, .slice al levels.length cl, .int .i64 code, .int .i64 env]))) := by
  have HT := Lib.hid (fun (w1 : World) (hb : Below w.heap.size w w1) (k : Nat) (hk : k < names.length) => show ∃ b off, an = some ⟨b, off, none⟩ ∧ w1.cell? ⟨b, off + k, none⟩ = some (.string (txtS names k)) from by
    obtain ⟨b, off, e, _, _, h⟩ := (hN.below hb hhi) k (txtS names k) (by unfold txtS; simp [List.getD_eq_getElem?_getD, List.getElem?_eq_getElem hk])
    exact ⟨b, off, e, h⟩)
  clear hN
  obtain ⟨n, hn⟩ : ∃ n, names.length = n := ⟨_, rfl⟩
  rw [hn] at HT ln ⊢
  clear hn
  go_enter Try.func54, Try.ntmps54
  obtain ⟨w1, hw1⟩ : ∃ W, (w.alloc (.cells #[.int .i64 kk, .slice ai items.length ci, .slice ap parts.length cp, .slice an n cn, .slice ac cls.length cc, .slice al levels.length cl, .int .i64 code, .int .i64 env] 31)).alloc (.cells #[.int .i64 0, .slice none 0 0, .slice none 0 0, .slice none 0 0, .slice none 0 0, .slice none 0 0, .int .i64 0, .int .i64 0] 31) = W := ⟨_, rfl⟩
  have hsz : (w.alloc (.cells #[.int .i64 kk, .slice ai items.length ci, .slice ap parts.length cp, .slice an n cn, .slice ac cls.length cc, .slice al levels.length cl, .int .i64 code, .int .i64 env] 31)).heap.size = w.heap.size + 1 := by simp
  have B1 := Lib.hid (show Below w.heap.size w w1 from hw1 ▸ (below1 w _).alloc (by simp) _)
  have KA := Lib.hid (show w1.heap[w.heap.size]? = some (.cells #[.int .i64 kk, .slice ai items.length ci, .slice ap parts.length cp, .slice an n cn, .slice ac cls.length cc, .slice al levels.length cl, .int .i64 code, .int .i64 env] 31 (0, 0)) from hw1 ▸ blk_old (blk_new w _ rfl))
  have KR := Lib.hid (show w1.heap[w.heap.size + 1]? = some (.cells #[.int .i64 0, .slice none 0 0, .slice none 0 0, .slice none 0 0, .slice none 0 0, .slice none 0 0, .int .i64 0, .int .i64 0] 31 (0, 0)) from hw1 ▸ hsz ▸ blk_new (w.alloc (.cells #[.int .i64 kk, .slice ai items.length ci, .slice ap parts.length cp, .slice an n cn, .slice ac cls.length cc, .slice al levels.length cl, .int .i64 code, .int .i64 env] 31)) (.cells #[.int .i64 0, .slice none 0 0, .slice none 0 0, .slice none 0 0, .slice none 0 0, .slice none 0 0, .int .i64 0, .int .i64 0] 31) rfl)
  have EW := Lib.hid hw1
  clear hw1 hsz
  go_wp2
  go_loopw [3] (fun i wr => ∃ k : Nat, k ≤ n ∧ i = .int .i64 k ∧ wr = w1 ∧ ∀ j, j < k → txtS names j = ⟨#[]⟩) (fun i _ => n - (intOf i).toNat)
  case atStart => exact ⟨0, Nat.zero_le _, rfl, EW.out, fun j h => absurd h (Nat.not_lt_zero _)⟩
  case round =>
    obtain ⟨k, hk, rfl, rfl, hj⟩ := hrel
    have HJ := Lib.hid hj
    clear hj
    obtain ⟨k0, k1, k2, k3, k4, k5, k6, k7⟩ := vec8 KA.out
    by_cases hlt : k < n
    · obtain ⟨b, off, rfl, c⟩ := HT.out _ B1.out _ hlt
      by_cases q : txtS names k = ⟨#[]⟩
      · rw [q] at c
        have Q := Lib.hid q
        clear q
        go_wp2
        go_roundw
        case rel => exact ⟨k + 1, by omega, by go_num, trivial, fun j h => by
          rcases Nat.lt_or_ge j k with h' | h'
          · exact HJ.out j h'
          · obtain rfl : j = k := by omega
            exact Q.out⟩
        case measure => simp [intOf]; omega
      · obtain ⟨x, hx⟩ : ∃ x, txtS names k = x := ⟨_, rfl⟩
        rw [hx] at c
        have Q := Lib.hid q
        have hxb : (x.toList == []) = false := by have h := str_not (hx ▸ q); rw [ByteArray.toList_eq ⟨#[]⟩] at h; exact h
        clear q hx
        obtain ⟨z0, z1, z2, z3, z4, z5, z6, z7⟩ := vec8 KR.out
        obtain ⟨f0, f1, f2, f3, f4, f5, f6, f7⟩ := free8 KR.out
        go_wp2
        exact vec_end rfl rfl rfl KR.out ⟨put8_below B1.out (Nat.le_succ _), .inl ⟨⟨k, hlt, Q.out⟩, rfl⟩⟩
    · obtain rfl : k = n := by omega
      go_upto_region 6 with (fail)
      clear k0 k1 k2 k3 k4 k5 k6 k7
      have KA2 := Lib.hid (show (wr.alloc (.cells #[] 9)).heap[w.heap.size]? = some (.cells #[.int .i64 kk, .slice ai items.length ci, .slice ap parts.length cp, .slice an k cn, .slice ac cls.length cc, .slice al levels.length cl, .int .i64 code, .int .i64 env] 31 (0, 0)) from blk_old KA.out)
      have KR2 := Lib.hid (show (wr.alloc (.cells #[] 9)).heap[w.heap.size + 1]? = some (.cells #[.int .i64 0, .slice none 0 0, .slice none 0 0, .slice none 0 0, .slice none 0 0, .slice none 0 0, .int .i64 0, .int .i64 0] 31 (0, 0)) from blk_old KR.out)
      have u2 : ∃ x, (wr.alloc (.cells #[] 9)).cell? ⟨w.heap.size, 3, none⟩ = some x := ⟨_, cellOf KA2.out rfl⟩
      obtain ⟨x2, hx2⟩ := u2
      have hf2 : (wr.alloc (.cells #[] 9)).frozen? ⟨w.heap.size, 3, none⟩ = false := freeOf KA2.out
      obtain ⟨w3, hw⟩ : ∃ W, (wr.alloc (.cells #[] 9)).setCell ⟨w.heap.size, 3, none⟩ (.slice (some ⟨wr.heap.size, 0, none⟩) 0 0) = W := ⟨_, rfl⟩
      have KA3 := Lib.hid (show w3.heap[w.heap.size]? = some (.cells #[.int .i64 kk, .slice ai items.length ci, .slice ap parts.length cp, .slice (some ⟨wr.heap.size, 0, none⟩) 0 0, .slice ac cls.length cc, .slice al levels.length cl, .int .i64 code, .int .i64 env] 31 (0, 0)) from hw ▸ Joins.block_setCell KA2.out _)
      have KR3 := Lib.hid (show w3.heap[w.heap.size + 1]? = some (.cells #[.int .i64 0, .slice none 0 0, .slice none 0 0, .slice none 0 0, .slice none 0 0, .slice none 0 0, .int .i64 0, .int .i64 0] 31 (0, 0)) from hw ▸ (Below.heap_setCell _ _ _ _ (by show w.heap.size + 1 ≠ w.heap.size; omega)).trans KR2.out)
      have B3 := Lib.hid (show Below w.heap.size w w3 from hw ▸ (B1.out.alloc B1.out.size _).setCell (p := ⟨w.heap.size, 3, none⟩) (Nat.le_refl _) _)
      have EW3 := Lib.hid hw
      clear hw
      go_upto_region 7 with (fail)
      rw [EW3.out]
      clear hx2 hf2
      obtain ⟨k0, k1, k2, k3, k4, k5, k6, k7⟩ := vec8 KA3.out
      obtain ⟨z0, z1, z2, z3, z4, z5, z6, z7⟩ := vec8 KR3.out
      obtain ⟨f0, f1, f2, f3, f4, f5, f6, f7⟩ := free8 KR3.out
      go_wp2
      exact vec_end rfl rfl rfl KR3.out ⟨put8_below B3.out (Nat.le_succ _), .inr ⟨HJ.out, wr.heap.size, B1.out.size, rfl⟩⟩
end Go.Proofs.Ytfbpbpbmnieieaa

/- The reference's l4Pick: elements of an atomic vector at positions within its length. -/
namespace Go.Proofs.Ytfbpbpbmnieieaa
open Go.RowKit
set_option maxRecDepth 100000
set_option linter.unusedVariables false

theorem pkT_succ {α : Type} {z : α} {l : List α} {idx : List Nat} {k : Nat} (h : l.length ≠ 0) (hk : k < idx.length) : pkL z l (idx.take (k + 1)) = pkL z l (idx.take k) ++ [l.getD (idx.getD k 0) z] := by
  rw [pkL_some h, pkL_some h, List.take_add_one, List.map_append]
  simp [List.getD_eq_getElem?_getD, hk]
theorem pkT_nil {α : Type} {z : α} {l : List α} (h : l.length = 0) (idx : List Nat) : pkL z l idx = [] := by
  rw [List.eq_nil_of_length_eq_zero h]; rfl
theorem pkT_full {α : Type} (z : α) (l : List α) (idx : List Nat) : pkL z l (idx.take idx.length) = pkL z l idx := by rw [List.take_length]
theorem pkT_zero {α : Type} (z : α) (l : List α) (idx : List Nat) : pkL z l (idx.take 0) = [] := by
  cases l with
  | nil => rfl
  | cons x l => rfl
theorem pkT_len {α : Type} (z : α) (l : List α) (idx : List Nat) (k : Nat) : (pkL z l (idx.take k)).length ≤ k := by
  have := pkL_len z l (idx.take k)
  rw [List.length_take] at this
  omega
theorem Und.keep {lo : Nat} {w : World} {d : Nat} {items : List It} {parts : List Vec} {names cls lev : List ByteArray} {vi vp vn vc vl : Value} {X : List Nat} {w' : World} (h : Und lo w d items parts names cls lev vi vp vn vc vl X) (hb : Below w.heap.size w w') : Und lo w' d items parts names cls lev vi vp vn vc vl X := h.below hb
theorem row_form {lo : Nat} {w : World} {el : TypeId} {size n : Nat} {v : Value} {xs : List Value} (h : w.ownsRow lo el size v n xs) : ∃ s c, v = .slice s n c := by
  obtain ⟨_, ⟨e, h0⟩ | ⟨g, cap, cur, e, _⟩⟩ := h
  · subst h0; exact ⟨_, _, e⟩
  · exact ⟨_, _, e⟩
theorem specCleanN (kk code env : Int) (ai ap an ac al : Option Addr) (ni ci np cp cn nc cc nl cl : Nat) (names : List ByteArray) (lo hi : Nat) (w : World) (hN : TextsAt lo hi w an names) (hhi : hi ≤ w.heap.size) (ln : names.length ≤ 1048576) :
    Calls Try.prog 54 #[.agg #[.int .i64 kk, .slice ai ni ci, .slice ap np cp, .slice an names.length cn, .slice ac nc cc, .slice al nl cl, .int .i64 code, .int .i64 env]] w fun e w' => Below w.heap.size w w' ∧ (((∃ i, i < names.length ∧ txtS names i ≠ ⟨#[]⟩) ∧ e = .returned (.agg #[.int .i64 kk, .slice ai ni ci, .slice ap np cp, .slice an names.length cn, .slice ac nc cc, .slice al nl cl, .int .i64 code, .int .i64 env])) ∨
      ((∀ i, i < names.length → txtS names i = ⟨#[]⟩) ∧ ∃ g, w.heap.size ≤ g ∧ e = .returned (.agg #[.int .i64 kk, .slice ai ni ci, .slice ap np cp, .slice (some ⟨g, 0, none⟩) 0 0, .slice ac nc cc, .slice al nl cl, .int .i64 code, .int .i64 env]))) := by
  have h := specClean kk code env (List.replicate ni noI) (List.replicate np noV) names (List.replicate nc ⟨#[]⟩) (List.replicate nl ⟨#[]⟩) ai ap an ac al ci cp cn cc cl lo hi w hN hhi ln
  simp only [List.length_replicate] at h
  exact h
theorem far_two {lo : Nat} {v : Value} {g b : Nat} {t t2 : TypeId} {C C2 : Array Value} {q : Nat × TypeId × Array Value} (h : ∀ k, v.ownBlock = some k → lo ≤ k) (hg : g < lo) (hb : b < lo) (hq : q ∈ [(g, t, C), (b, t2, C2)]) : ∀ k, v.ownBlock = some k → q.1 ≠ k := by
  intro k hk e
  have := h k hk
  simp only [List.mem_cons, List.not_mem_nil, or_false] at hq
  rcases hq with rfl | rfl <;> (simp only at e; omega)
set_option maxHeartbeats 8000000 in
theorem specPickA (d : Nat) (kk : Int) (items : List It) (parts : List Vec) (names cls levels : List ByteArray) (code env : Int) (ai ap an ac al xi : Option Addr) (ci cp cn cc cl xc lo hi B : Nat) (idx : List Nat) (w : World) (hI : ItemsAt lo hi w ai items) (hN : TextsAt lo hi w an names) (hC : TextsAt lo hi w ac cls) (hL : TextsAt lo hi w al levels) (hhi : hi ≤ w.heap.size)
    (li : items.length ≤ 1048576) (lp : parts.length = 0) (ln : names.length ≤ 1048576) (lc : cls.length ≤ 1048576) (ll : levels.length ≤ 1048576) (hs : IntsAt B w xi idx.length (fun i => ixF idx i + 1)) (hB : B ≤ w.heap.size) (hn : idx.length ≤ 1048576)
    (hk4 : ¬ kk = 4) (hk5 : ¬ kk = 5) (hin : ∀ i, i < idx.length → idx.getD i 0 < items.length) (hnm : names.length ≠ 0 → names.length = items.length) :
    Calls Try.prog 43 #[.agg #[.int .i64 kk, .slice ai items.length ci, .slice ap parts.length cp, .slice an names.length cn, .slice ac cls.length cc, .slice al levels.length cl, .int .i64 code, .int .i64 env], .slice xi idx.length xc] w (ResV (d + 1) (selV kk items parts names cls levels idx) w) := by
  have AI := Lib.hid (fun (k : Nat) (w1 : World) (hk : k < items.length) (hb : Below w.heap.size w w1) => (hI.below hb hhi).at_ hk)
  have AN := Lib.hid (fun (k : Nat) (w1 : World) (hk : k < names.length) (hb : Below w.heap.size w w1) => (show ∃ b off, an = some ⟨b, off, none⟩ ∧ b < hi ∧ w1.cell? ⟨b, off + k, none⟩ = some (.string (names.getD k ⟨#[]⟩)) from (by obtain ⟨b, off, e, _, h1, h2⟩ := (hN.below hb hhi) k (names.getD k ⟨#[]⟩) (by simp [List.getD_eq_getElem?_getD, hk]); exact ⟨b, off, e, h1, h2⟩)))
  have SA := Lib.hid hs
  have IN := Lib.hid hin
  have HC := Lib.hid (fun (w1 : World) (hb : Below w.heap.size w w1) => hC.below hb hhi)
  have HL := Lib.hid (fun (w1 : World) (hb : Below w.heap.size w w1) => hL.below hb hhi)
  have LE := Lib.hid (fun W => (by have h := specLen kk ai ap an ac al items.length ci parts.length cp names.length cn cls.length cc levels.length cl code env W li (by omega); rw [show lenV kk items.length parts.length = items.length by unfold lenV; rw [if_neg hk5]; omega] at h; exact h : Calls Try.prog 41 #[.agg #[.int .i64 kk, .slice ai items.length ci, .slice ap parts.length cp, .slice an names.length cn, .slice ac cls.length cc, .slice al levels.length cl, .int .i64 code, .int .i64 env]] W (fun e w' => e = .returned (.int .i64 (items.length : Nat)) ∧ Below W.heap.size W w')))
  have PI := Lib.hid (fun k (h : items.length ≠ 0) (hk : k < idx.length) => pkT_succ (z := noI) (l := items) h hk)
  have PN := Lib.hid (fun k (h : names.length ≠ 0) (hk : k < idx.length) => pkT_succ (z := ⟨#[]⟩) (l := names) h hk)
  have P0 := Lib.hid (fun (h : names.length = 0) k => (pkT_nil (z := ⟨#[]⟩) h (idx.take k) : pkL ⟨#[]⟩ names (idx.take k) = []))
  have EV := Lib.hid (show selV kk items parts names cls levels idx = .mk kk (pkL noI items (idx.take idx.length)) [] (clnN (pkL ⟨#[]⟩ names (idx.take idx.length))) (kpC levels cls) levels 0 0 by rw [pkT_full, pkT_full]; unfold selV; rw [pkT_nil (z := noV) lp])
  have LI := Lib.hid (pkT_len noI items idx)
  have LM := Lib.hid (pkT_len ⟨#[]⟩ names idx)
  have hk4b : (kk == 4) = false := beq_eq_false_iff_ne.2 hk4
  have EK := Lib.hid (fun (h : levels.length ≠ 0) => kpC_some (cls := cls) h)
  have EK0 := Lib.hid (fun (h : levels.length = 0) => (by rw [List.eq_nil_of_length_eq_zero h]; exact ⟨rfl, rfl⟩ : levels = [] ∧ kpC levels cls = []))
  have UST := Lib.hid (fun W => Und.start (w.heap.size + 1 + 1 + 1) W d)
  obtain ⟨V, hV⟩ : ∃ V, selV kk items parts names cls levels idx = V := ⟨_, rfl⟩
  rw [hV] at EV ⊢
  obtain ⟨m, hm⟩ : ∃ m, idx.length = m := ⟨_, rfl⟩
  rw [hm] at SA IN PI PN EV hn ⊢
  obtain ⟨n, hn'⟩ : ∃ n, items.length = n := ⟨_, rfl⟩
  rw [hn'] at AI IN LE PI li hnm ⊢
  obtain ⟨nn, hnn⟩ : ∃ n, names.length = n := ⟨_, rfl⟩
  rw [hnn] at AN LE PN P0 ln hnm ⊢
  have LP := Lib.hid lp
  clear hV hm hn' hnn hI hN hC hL hs hin hk4 hk5 lp
  go_enter Try.func43, Try.ntmps43
  go_upto_region 2 with (fail)
  obtain ⟨w1, hw1⟩ : ∃ W, ((w.alloc (.cells #[.int .i64 kk, .slice ai n ci, .slice ap parts.length cp, .slice an nn cn, .slice ac cls.length cc, .slice al levels.length cl, .int .i64 code, .int .i64 env] 31)).alloc (.cells #[.int .i64 0, .slice none 0 0, .slice none 0 0, .slice none 0 0, .slice none 0 0, .slice none 0 0, .int .i64 0, .int .i64 0] 31)).alloc (.cells #[.int .i64 kk, .slice none 0 0, .slice none 0 0, .slice none 0 0, .slice none 0 0, .slice none 0 0, .int .i64 0, .int .i64 0] 31) = W := ⟨_, rfl⟩
  have hsz : (w.alloc (.cells #[.int .i64 kk, .slice ai n ci, .slice ap parts.length cp, .slice an nn cn, .slice ac cls.length cc, .slice al levels.length cl, .int .i64 code, .int .i64 env] 31)).heap.size = w.heap.size + 1 := by simp
  have hsz2 : ((w.alloc (.cells #[.int .i64 kk, .slice ai n ci, .slice ap parts.length cp, .slice an nn cn, .slice ac cls.length cc, .slice al levels.length cl, .int .i64 code, .int .i64 env] 31)).alloc (.cells #[.int .i64 0, .slice none 0 0, .slice none 0 0, .slice none 0 0, .slice none 0 0, .slice none 0 0, .int .i64 0, .int .i64 0] 31)).heap.size = w.heap.size + 1 + 1 := by simp
  have hsz3 : w1.heap.size = w.heap.size + 1 + 1 + 1 := by rw [← hw1]; simp
  have BW := Lib.hid (show Below w.heap.size w w1 from hw1 ▸ ((below1 w _).alloc (by simp) _).alloc (by simp; omega) _)
  have KA := Lib.hid (show w1.heap[w.heap.size]? = some (.cells #[.int .i64 kk, .slice ai n ci, .slice ap parts.length cp, .slice an nn cn, .slice ac cls.length cc, .slice al levels.length cl, .int .i64 code, .int .i64 env] 31 (0, 0)) from hw1 ▸ blk_old (blk_old (blk_new w _ rfl)))
  have KR := Lib.hid (show w1.heap[w.heap.size + 1]? = some (.cells #[.int .i64 0, .slice none 0 0, .slice none 0 0, .slice none 0 0, .slice none 0 0, .slice none 0 0, .int .i64 0, .int .i64 0] 31 (0, 0)) from hw1 ▸ blk_old (hsz ▸ blk_new (w.alloc (.cells #[.int .i64 kk, .slice ai n ci, .slice ap parts.length cp, .slice an nn cn, .slice ac cls.length cc, .slice al levels.length cl, .int .i64 code, .int .i64 env] 31)) (.cells #[.int .i64 0, .slice none 0 0, .slice none 0 0, .slice none 0 0, .slice none 0 0, .slice none 0 0, .int .i64 0, .int .i64 0] 31) rfl))
  have KB := Lib.hid (show w1.heap[w.heap.size + 1 + 1]? = some (.cells #[.int .i64 kk, .slice none 0 0, .slice none 0 0, .slice none 0 0, .slice none 0 0, .slice none 0 0, .int .i64 0, .int .i64 0] 31 (0, 0)) from hw1 ▸ hsz2 ▸ blk_new ((w.alloc (.cells #[.int .i64 kk, .slice ai n ci, .slice ap parts.length cp, .slice an nn cn, .slice ac cls.length cc, .slice al levels.length cl, .int .i64 code, .int .i64 env] 31)).alloc (.cells #[.int .i64 0, .slice none 0 0, .slice none 0 0, .slice none 0 0, .slice none 0 0, .slice none 0 0, .int .i64 0, .int .i64 0] 31)) (.cells #[.int .i64 kk, .slice none 0 0, .slice none 0 0, .slice none 0 0, .slice none 0 0, .slice none 0 0, .int .i64 0, .int .i64 0] 31) rfl)
  rw [hw1]
  clear hw1 hsz hsz2
  have hrb : w.heap.size + 1 < w.heap.size + 1 + 1 := Nat.lt_succ_self _
  have hbw : w.heap.size < w.heap.size + 1 + 1 := by omega
  obtain ⟨b, hb⟩ : ∃ b, w.heap.size + 1 + 1 = b := ⟨_, rfl⟩
  rw [hb] at KB UST hsz3 hrb hbw ⊢
  clear hb
  have SL : b + 1 ≤ w1.heap.size := Nat.le_of_eq hsz3.symm
  clear hsz3
  by_cases hl : levels.length = 0
  · have hl0 : ((levels.length : Nat) : Int) ≤ 0 := by omega
    have U := Lib.hid (show Und (b + 1) w1 d [] [] [] (kpC levels cls) levels _ _ _ _ _ [] from by obtain ⟨e1, e2⟩ := EK0.out hl; rw [e2, e1]; exact UST.out w1)
    clear hl
    obtain ⟨a0, a1, a2, a3, a4, a5, a6, a7⟩ := vec8 KA.out
    go_wp2
    clear a0 a1 a2 a3 a4 a5 a6 a7 hl0
    obtain ⟨dv, hdv⟩ : ∃ dv, decide (0 < levels.length) = dv := ⟨_, rfl⟩
    try rw [hdv]
    clear hdv
    have W0 := Lib.hid (show w.heap.size ≤ b + 1 by omega)
    have B0' := Lib.hid (show w.heap.size ≤ b by omega)
    go_loopw [6] (fun i wr => ∃ (k : Nat) (vi vn : Value), k ≤ m ∧ i = .int .i64 k ∧ Below w.heap.size w wr ∧ wr.heap[w.heap.size]? = some (.cells #[.int .i64 kk, .slice ai n ci, .slice ap parts.length cp, .slice an nn cn, .slice ac cls.length cc, .slice al levels.length cl, .int .i64 code, .int .i64 env] 31 (0, 0)) ∧ wr.heap[w.heap.size + 1]? = some (.cells #[.int .i64 0, .slice none 0 0, .slice none 0 0, .slice none 0 0, .slice none 0 0, .slice none 0 0, .int .i64 0, .int .i64 0] 31 (0, 0)) ∧ wr.heap[b]? = some (.cells #[.int .i64 kk, vi, .slice none 0 0, vn, .slice none 0 0, .slice none 0 0, .int .i64 0, .int .i64 0] 31 (0, 0)) ∧ Und (b + 1) wr d (pkL noI items (idx.take k)) [] (pkL ⟨#[]⟩ names (idx.take k)) (kpC levels cls) levels vi (.slice none 0 0) vn (.slice none 0 0) (.slice none 0 0) []) (fun i _ => m - (intOf i).toNat)
    case atStart => exact ⟨0, .slice none 0 0, .slice none 0 0, Nat.zero_le _, rfl, BW.out, KA.out, KR.out, KB.out, by rw [pkT_zero, pkT_zero]; exact U.out⟩
    case round =>
      obtain ⟨k, vi, vn, hk, rfl, hbw', hka, hkr, hkb, hu⟩ := hrel
      have BW := Lib.hid hbw'
      have KA := Lib.hid hka
      have KR := Lib.hid hkr
      have KB := Lib.hid hkb
      have U := Lib.hid hu
      clear hbw' hka hkr hkb hu
      by_cases hlt : k < m
      · obtain ⟨bi, oi, rfl, hbi, cx⟩ := (SA.out.below (BW.out.mono hB)) k hlt
        have hq := IN.out k hlt
        have NXI := Lib.hid (PI.out k (by omega) hlt)
        replace cx := (show wr.cell? ⟨bi, oi + k, none⟩ = some (.int .i64 (((idx.getD k 0 : Nat) : Int) + 1)) from cx)
        have PNk := Lib.hid (fun h => PN.out k h hlt)
        obtain ⟨q, hq'⟩ : ∃ q, idx.getD k 0 = q := ⟨_, rfl⟩
        rw [hq'] at cx hq NXI PNk
        clear hq'
        have IY := Lib.hid (fun W => inYes (q : Int) 0 ((n : Int) - 1) W (by omega) (by omega))
        obtain ⟨ba, off, rfl, hbB, c0, c1, c2'⟩ := AI.out q w hq (Below.refl _ _)
        have c2 : w.cell? ⟨ba, off + q * 3 + 2, none⟩ = some (.string (items.getD q noI).t) := c2'
        have hbaw : ba < w.heap.size := Nat.lt_of_lt_of_le hbB hhi
        obtain ⟨x, hx⟩ : ∃ x, items.getD q noI = x := ⟨_, rfl⟩
        rw [hx] at c0 c1 c2 NXI
        clear hx c2'
        obtain ⟨a0, a1, a2, a3, a4, a5, a6, a7⟩ := vec8 KA.out
        go_wp2_with fail
        with_reducible refine (LE.out _).mono ?_
        rintro e wl ⟨rfl, b'⟩
        have BW := Lib.hid (below_then BW.out b')
        have KA := Lib.hid (blk_below b' KA.out)
        have KR := Lib.hid (blk_below b' KR.out)
        have KB := Lib.hid (blk_below b' KB.out)
        have U := Lib.hid (U.out.below b')
        clear b' a0 a1 a2 a3 a4 a5 a6 a7
        go_wp2_with fail
        with_reducible refine (IY.out _).mono ?_
        rintro e w' ⟨rfl, rfl⟩
        obtain ⟨a0, a1, a2, a3, a4, a5, a6, a7⟩ := vec8 KA.out
        have hbl := (Array.getElem?_eq_some_iff.1 KB.out).1
        have hKR := (Array.getElem?_eq_some_iff.1 KR.out).1
        have KRW := KR
        have UW := U
        by_cases h0 : nn = 0
        · have e0 := P0.out h0 (k + 1)
          have e1 := P0.out h0 k
          have hn0 : (nn : Int) ≤ 0 := by omega
          have H0 := Lib.hid h0
          clear h0
          have LN := Lib.hid (show (pkL noI items (idx.take k)).length ≤ 1048576 by have := LI.out k; omega)
          have FAR := Lib.hid (fun g hg => (U.out.i.lt g hg).1)
          have H := Lib.hid (show HeldC w wl ([(w.heap.size, 31, #[.int .i64 kk, .slice (some ⟨ba, off, none⟩) n ci, .slice ap parts.length cp, .slice an nn cn, .slice ac cls.length cc, .slice al levels.length cl, .int .i64 code, .int .i64 env]), (b, 31, #[.int .i64 kk, vi, .slice none 0 0, vn, .slice none 0 0, .slice none 0 0, .int .i64 0, .int .i64 0])]) from heldC_cons (heldC_cons ⟨BW.out, (fun _ h => by cases h)⟩ KB.out) KA.out)
          go_upto_region 15 with (fail)
          clear a0 a1 a2 a3 a4 a5 a6 a7
          refine run_region (ops := (opsOf Try.f43 15)) (S := fun w' => HeldC w w' ([(w.heap.size, 31, #[.int .i64 kk, .slice (some ⟨ba, off, none⟩) n ci, .slice ap parts.length cp, .slice an nn cn, .slice ac cls.length cc, .slice al levels.length cl, .int .i64 code, .int .i64 env]), (b, 31, #[.int .i64 kk, vi, (.slice none 0 0), vn, .slice none 0 0, .slice none 0 0, .int .i64 0, .int .i64 0])])) [(0, true), (1, true), (2, true), (3, true), (4, true), (5, true), (6, true), (7, false), (8, false), (9, true), (10, false)] (by kernel_rfl) (by kernel_rfl) (by kernel_rfl) (by kernel_rfl) (by kernel_rfl) (fun _ _ _ _ _ h => h) (heldC_drew H.out) ?_
          have H := Lib.hid (heldC_drew H.out)
          have U := Lib.hid (U.out.keep (below_drew' (Below.refl _ _)))
          refine runC_partV (b := b) (by kernel_rfl) (show opAt (opsOf Try.f43 15) 0 = some (some 69, .fieldAddr 31 (.tmp 5) 1, none) from by kernel_rfl) (by kernel_rfl) (by kernel_rfl) (by kernel_rfl) ?_
          refine runC_cell (b := b) (j := 1) (v := vi) load_its (show opAt (opsOf Try.f43 15) 1 = some (some 70, .load 28 (.tmp 69), none) from by kernel_rfl) (by kernel_rfl) (by kernel_rfl) (by kernel_rfl) (List.Mem.tail _ (List.Mem.head _)) rfl ?_
          refine runC_partV (b := w.heap.size) (by kernel_rfl) (show opAt (opsOf Try.f43 15) 2 = some (some 71, .fieldAddr 31 (.tmp 2) 1, none) from by kernel_rfl) (by kernel_rfl) (by kernel_rfl) (by kernel_rfl) ?_
          refine runC_cell (b := w.heap.size) (j := 1) (v := .slice (some ⟨ba, off, none⟩) n ci) load_its (show opAt (opsOf Try.f43 15) 3 = some (some 72, .load 28 (.tmp 71), none) from by kernel_rfl) (by kernel_rfl) (by kernel_rfl) (by kernel_rfl) (List.Mem.head _) rfl ?_
          refine run_mov (v := .int .i64 ((q : Int))) (show opAt (opsOf Try.f43 15) 4 = some (some 73, .move (.tmp 7), none) from by kernel_rfl) (by kernel_rfl) (by kernel_rfl) (by kernel_rfl) ?_
          refine run_idx3 (n := n) (c := ci) (b := ba) (off := off) (k := q) (show opAt (opsOf Try.f43 15) 5 = some (some 74, .indexAddr 28 (.tmp 72) (.tmp 73), none) from by kernel_rfl) (by kernel_rfl) (by kernel_rfl) (by kernel_rfl) (by kernel_rfl) hq ?_
          refine runC_oldI (b := ba) (j := off + q * 3) (z := x) (show opAt (opsOf Try.f43 15) 6 = some (some 75, .load 67 (.tmp 74), none) from by kernel_rfl) (by kernel_rfl) (by kernel_rfl) (by kernel_rfl) hbaw c0 c1 c2 ?_
          refine tail_its3 x (show opAt (opsOf Try.f43 15) 7 = some (some 76, .buildSlice 28 1 #[(0, (.tmp 75))], none) from by kernel_rfl) (by kernel_rfl) (by kernel_rfl) (show opAt (opsOf Try.f43 15) 8 = some (some 77, .call { callee := .builtin .append, args := [(.tmp 70), (.tmp 76)].toArray, argTypes := [28, 28].toArray }, none) from by kernel_rfl) (by kernel_rfl) (fun _ => by kernel_rfl) (show opAt (opsOf Try.f43 15) 9 = some (some 78, .fieldAddr 31 (.tmp 5) 1, none) from by kernel_rfl) (by kernel_rfl) (by kernel_rfl) (fun _ _ => by kernel_rfl) (show opAt (opsOf Try.f43 15) 10 = some (none, .store 28 (.tmp 78) (.tmp 77), none) from by kernel_rfl) (by kernel_rfl) (by kernel_rfl) H.out U.out.i LN.out (Nat.succ_le_of_lt (Array.getElem?_eq_some_iff.1 (heldC_at H.out (List.Mem.tail _ (List.Mem.head _)))).1) W0.out (List.Mem.tail _ (List.Mem.head _)) rfl (Nat.lt_succ_self _) B0'.out (fun q hq => far_two FAR.out (Nat.lt_succ_of_lt hbw) (Nat.lt_succ_self _) hq) ?_
          rintro v' w2 ⟨sa, sn, sc2, rfl⟩ hK hO hB hZ hR hG
          simp only [putAll, Act.put, List.setIfInBounds_toArray, List.set_cons_zero, List.set_cons_succ]
          have KA1 := heldC_at H.out (List.Mem.head _)
          have KR1 := heldC_at H.out (List.Mem.head _)
          have hwa := (Array.getElem?_eq_some_iff.1 KA1).1
          have U := Lib.hid (U.out.setI hO hR (fun g hlo hg hne => hG g hg (by omega) hne) hZ)
          have KA := Lib.hid (show w2.heap[w.heap.size]? = some (.cells #[.int .i64 kk, .slice (some ⟨ba, off, none⟩) n ci, .slice ap parts.length cp, .slice an nn cn, .slice ac cls.length cc, .slice al levels.length cl, .int .i64 code, .int .i64 env] 31 (0, 0)) from (hG _ hwa (by omega) (fun e => by have := FAR.out _ e; omega)).trans KA1)
          have KB := Lib.hid (show w2.heap[b]? = some (.cells #[.int .i64 kk, .slice sa sn sc2, .slice none 0 0, vn, .slice none 0 0, .slice none 0 0, .int .i64 0, .int .i64 0] 31 (0, 0)) from hK)
          have BW := Lib.hid hB
          have KR := Lib.hid (show w2.heap[w.heap.size + 1]? = some (.cells #[.int .i64 0, .slice none 0 0, .slice none 0 0, .slice none 0 0, .slice none 0 0, .slice none 0 0, .int .i64 0, .int .i64 0] 31 (0, 0)) from (hG _ hKR (by omega) (fun e => by have := FAR.out _ e; omega)).trans KRW.out)
          clear hK hO hB hR hG hZ H FAR LN KA1 KR1 hwa
          obtain ⟨a0, a1, a2, a3, a4, a5, a6, a7⟩ := vec8 KA.out
          go_wp2
          go_roundw
          case rel => first | exact ⟨k + 1, _, vn, by omega, by go_num, BW.out, KA.out, KR.out, KB.out, by rw [NXI.out, e0]; rw [e1] at U; exact U.out⟩ | ((repeat apply Exists.intro); exact ⟨⟨k + 1, _, vn, by omega, by go_num, BW.out, KA.out, KR.out, KB.out, by rw [NXI.out, e0]; rw [e1] at U; exact U.out⟩, rfl⟩)
          case measure => simp [intOf]; omega
        · have hqn : q < nn := by have := hnm h0; omega
          have hn0 : 0 < (nn : Int) := by omega
          have NXN := Lib.hid (PNk.out h0)
          obtain ⟨bn, offn, rfl, hbN, cn0⟩ := AN.out q w hqn (Below.refl _ _)
          have hbnw : bn < w.heap.size := Nat.lt_of_lt_of_le hbN hhi
          obtain ⟨s, hs⟩ : ∃ s, names.getD q ⟨#[]⟩ = s := ⟨_, rfl⟩
          rw [hs] at cn0 NXN
          clear hs
          have LN := Lib.hid (show (pkL noI items (idx.take k)).length ≤ 1048576 by have := LI.out k; omega)
          have FAR := Lib.hid (fun g hg => (U.out.i.lt g hg).1)
          have H := Lib.hid (show HeldC w wl ([(w.heap.size, 31, #[.int .i64 kk, .slice (some ⟨ba, off, none⟩) n ci, .slice ap parts.length cp, .slice (some ⟨bn, offn, none⟩) nn cn, .slice ac cls.length cc, .slice al levels.length cl, .int .i64 code, .int .i64 env]), (b, 31, #[.int .i64 kk, vi, .slice none 0 0, vn, .slice none 0 0, .slice none 0 0, .int .i64 0, .int .i64 0])]) from heldC_cons (heldC_cons ⟨BW.out, (fun _ h => by cases h)⟩ KB.out) KA.out)
          go_upto_region 15 with (fail)
          clear a0 a1 a2 a3 a4 a5 a6 a7
          refine run_region (ops := (opsOf Try.f43 15)) (S := fun w' => HeldC w w' ([(w.heap.size, 31, #[.int .i64 kk, .slice (some ⟨ba, off, none⟩) n ci, .slice ap parts.length cp, .slice (some ⟨bn, offn, none⟩) nn cn, .slice ac cls.length cc, .slice al levels.length cl, .int .i64 code, .int .i64 env]), (b, 31, #[.int .i64 kk, vi, (.slice none 0 0), vn, .slice none 0 0, .slice none 0 0, .int .i64 0, .int .i64 0])])) [(0, true), (1, true), (2, true), (3, true), (4, true), (5, true), (6, true), (7, false), (8, false), (9, true), (10, false)] (by kernel_rfl) (by kernel_rfl) (by kernel_rfl) (by kernel_rfl) (by kernel_rfl) (fun _ _ _ _ _ h => h) (heldC_drew H.out) ?_
          have H := Lib.hid (heldC_drew H.out)
          have U := Lib.hid (U.out.keep (below_drew' (Below.refl _ _)))
          refine runC_partV (b := b) (by kernel_rfl) (show opAt (opsOf Try.f43 15) 0 = some (some 69, .fieldAddr 31 (.tmp 5) 1, none) from by kernel_rfl) (by kernel_rfl) (by kernel_rfl) (by kernel_rfl) ?_
          refine runC_cell (b := b) (j := 1) (v := vi) load_its (show opAt (opsOf Try.f43 15) 1 = some (some 70, .load 28 (.tmp 69), none) from by kernel_rfl) (by kernel_rfl) (by kernel_rfl) (by kernel_rfl) (List.Mem.tail _ (List.Mem.head _)) rfl ?_
          refine runC_partV (b := w.heap.size) (by kernel_rfl) (show opAt (opsOf Try.f43 15) 2 = some (some 71, .fieldAddr 31 (.tmp 2) 1, none) from by kernel_rfl) (by kernel_rfl) (by kernel_rfl) (by kernel_rfl) ?_
          refine runC_cell (b := w.heap.size) (j := 1) (v := .slice (some ⟨ba, off, none⟩) n ci) load_its (show opAt (opsOf Try.f43 15) 3 = some (some 72, .load 28 (.tmp 71), none) from by kernel_rfl) (by kernel_rfl) (by kernel_rfl) (by kernel_rfl) (List.Mem.head _) rfl ?_
          refine run_mov (v := .int .i64 ((q : Int))) (show opAt (opsOf Try.f43 15) 4 = some (some 73, .move (.tmp 7), none) from by kernel_rfl) (by kernel_rfl) (by kernel_rfl) (by kernel_rfl) ?_
          refine run_idx3 (n := n) (c := ci) (b := ba) (off := off) (k := q) (show opAt (opsOf Try.f43 15) 5 = some (some 74, .indexAddr 28 (.tmp 72) (.tmp 73), none) from by kernel_rfl) (by kernel_rfl) (by kernel_rfl) (by kernel_rfl) (by kernel_rfl) hq ?_
          refine runC_oldI (b := ba) (j := off + q * 3) (z := x) (show opAt (opsOf Try.f43 15) 6 = some (some 75, .load 67 (.tmp 74), none) from by kernel_rfl) (by kernel_rfl) (by kernel_rfl) (by kernel_rfl) hbaw c0 c1 c2 ?_
          refine tail_its3 x (show opAt (opsOf Try.f43 15) 7 = some (some 76, .buildSlice 28 1 #[(0, (.tmp 75))], none) from by kernel_rfl) (by kernel_rfl) (by kernel_rfl) (show opAt (opsOf Try.f43 15) 8 = some (some 77, .call { callee := .builtin .append, args := [(.tmp 70), (.tmp 76)].toArray, argTypes := [28, 28].toArray }, none) from by kernel_rfl) (by kernel_rfl) (fun _ => by kernel_rfl) (show opAt (opsOf Try.f43 15) 9 = some (some 78, .fieldAddr 31 (.tmp 5) 1, none) from by kernel_rfl) (by kernel_rfl) (by kernel_rfl) (fun _ _ => by kernel_rfl) (show opAt (opsOf Try.f43 15) 10 = some (none, .store 28 (.tmp 78) (.tmp 77), none) from by kernel_rfl) (by kernel_rfl) (by kernel_rfl) H.out U.out.i LN.out (Nat.succ_le_of_lt (Array.getElem?_eq_some_iff.1 (heldC_at H.out (List.Mem.tail _ (List.Mem.head _)))).1) W0.out (List.Mem.tail _ (List.Mem.head _)) rfl (Nat.lt_succ_self _) B0'.out (fun q hq => far_two FAR.out (Nat.lt_succ_of_lt hbw) (Nat.lt_succ_self _) hq) ?_
          rintro v' w2 ⟨sa, sn, sc2, rfl⟩ hK hO hB hZ hR hG
          simp only [putAll, Act.put, List.setIfInBounds_toArray, List.set_cons_zero, List.set_cons_succ]
          have KA1 := heldC_at H.out (List.Mem.head _)
          have KR1 := heldC_at H.out (List.Mem.head _)
          have hwa := (Array.getElem?_eq_some_iff.1 KA1).1
          have U := Lib.hid (U.out.setI hO hR (fun g hlo hg hne => hG g hg (by omega) hne) hZ)
          have KA := Lib.hid (show w2.heap[w.heap.size]? = some (.cells #[.int .i64 kk, .slice (some ⟨ba, off, none⟩) n ci, .slice ap parts.length cp, .slice (some ⟨bn, offn, none⟩) nn cn, .slice ac cls.length cc, .slice al levels.length cl, .int .i64 code, .int .i64 env] 31 (0, 0)) from (hG _ hwa (by omega) (fun e => by have := FAR.out _ e; omega)).trans KA1)
          have KB := Lib.hid (show w2.heap[b]? = some (.cells #[.int .i64 kk, .slice sa sn sc2, .slice none 0 0, vn, .slice none 0 0, .slice none 0 0, .int .i64 0, .int .i64 0] 31 (0, 0)) from hK)
          have BW := Lib.hid hB
          have KR := Lib.hid (show w2.heap[w.heap.size + 1]? = some (.cells #[.int .i64 0, .slice none 0 0, .slice none 0 0, .slice none 0 0, .slice none 0 0, .slice none 0 0, .int .i64 0, .int .i64 0] 31 (0, 0)) from (hG _ hKR (by omega) (fun e => by have := FAR.out _ e; omega)).trans KRW.out)
          clear hK hO hB hR hG hZ H FAR LN KA1 KR1 hwa
          obtain ⟨a0, a1, a2, a3, a4, a5, a6, a7⟩ := vec8 KA.out
          have hKR := (Array.getElem?_eq_some_iff.1 KR.out).1
          have KRW := KR
          have LN := Lib.hid (show (pkL ⟨#[]⟩ names (idx.take k)).length ≤ 1048576 by have := LM.out k; omega)
          have FAR := Lib.hid (fun g hg => (U.out.n.lt g hg).1)
          have H := Lib.hid (show HeldC w w2 ([(w.heap.size, 31, #[.int .i64 kk, .slice (some ⟨ba, off, none⟩) n ci, .slice ap parts.length cp, .slice (some ⟨bn, offn, none⟩) nn cn, .slice ac cls.length cc, .slice al levels.length cl, .int .i64 code, .int .i64 env]), (b, 31, #[.int .i64 kk, .slice sa sn sc2, .slice none 0 0, vn, .slice none 0 0, .slice none 0 0, .int .i64 0, .int .i64 0])]) from heldC_cons (heldC_cons ⟨BW.out, (fun _ h => by cases h)⟩ KB.out) KA.out)
          go_upto_region 18 with (fail)
          clear a0 a1 a2 a3 a4 a5 a6 a7
          refine run_region (ops := (opsOf Try.f43 18)) (S := fun w' => HeldC w w' ([(w.heap.size, 31, #[.int .i64 kk, .slice (some ⟨ba, off, none⟩) n ci, .slice ap parts.length cp, .slice (some ⟨bn, offn, none⟩) nn cn, .slice ac cls.length cc, .slice al levels.length cl, .int .i64 code, .int .i64 env]), (b, 31, #[.int .i64 kk, (.slice sa sn sc2), (.slice none 0 0), vn, .slice none 0 0, .slice none 0 0, .int .i64 0, .int .i64 0])])) [(0, true), (1, true), (2, true), (3, true), (4, true), (5, true), (6, true), (7, false), (8, false), (9, true), (10, false)] (by kernel_rfl) (by kernel_rfl) (by kernel_rfl) (by kernel_rfl) (by kernel_rfl) (fun _ _ _ _ _ h => h) (heldC_drew H.out) ?_
          have H := Lib.hid (heldC_drew H.out)
          have U := Lib.hid (U.out.keep (below_drew' (Below.refl _ _)))
          refine runC_partV (b := b) (by kernel_rfl) (show opAt (opsOf Try.f43 18) 0 = some (some 92, .fieldAddr 31 (.tmp 5) 3, none) from by kernel_rfl) (by kernel_rfl) (by kernel_rfl) (by kernel_rfl) ?_
          refine runC_cell (b := b) (j := 3) (v := vn) load_strs (show opAt (opsOf Try.f43 18) 1 = some (some 93, .load 24 (.tmp 92), none) from by kernel_rfl) (by kernel_rfl) (by kernel_rfl) (by kernel_rfl) (List.Mem.tail _ (List.Mem.head _)) rfl ?_
          refine runC_partV (b := w.heap.size) (by kernel_rfl) (show opAt (opsOf Try.f43 18) 2 = some (some 94, .fieldAddr 31 (.tmp 2) 3, none) from by kernel_rfl) (by kernel_rfl) (by kernel_rfl) (by kernel_rfl) ?_
          refine runC_cell (b := w.heap.size) (j := 3) (v := .slice (some ⟨bn, offn, none⟩) nn cn) load_strs (show opAt (opsOf Try.f43 18) 3 = some (some 95, .load 24 (.tmp 94), none) from by kernel_rfl) (by kernel_rfl) (by kernel_rfl) (by kernel_rfl) (List.Mem.head _) rfl ?_
          refine run_mov (v := .int .i64 ((q : Int))) (show opAt (opsOf Try.f43 18) 4 = some (some 96, .move (.tmp 7), none) from by kernel_rfl) (by kernel_rfl) (by kernel_rfl) (by kernel_rfl) ?_
          refine run_idx1 (n := nn) (c := cn) (b := bn) (off := offn) (k := q) (show opAt (opsOf Try.f43 18) 5 = some (some 97, .indexAddr 24 (.tmp 95) (.tmp 96), none) from by kernel_rfl) (by kernel_rfl) (by kernel_rfl) (by kernel_rfl) (by kernel_rfl) hqn Try.underlying24 (by kernel_rfl) infoStr ?_
          refine runC_old (b := bn) (j := offn + q) (v := .string s) load_text (show opAt (opsOf Try.f43 18) 6 = some (some 98, .load 9 (.tmp 97), none) from by kernel_rfl) (by kernel_rfl) (by kernel_rfl) (by kernel_rfl) hbnw cn0 ?_
          refine tail_txs3 s (show opAt (opsOf Try.f43 18) 7 = some (some 99, .buildSlice 24 1 #[(0, (.tmp 98))], none) from by kernel_rfl) (by kernel_rfl) (by kernel_rfl) (show opAt (opsOf Try.f43 18) 8 = some (some 100, .call { callee := .builtin .append, args := [(.tmp 93), (.tmp 99)].toArray, argTypes := [24, 24].toArray }, none) from by kernel_rfl) (by kernel_rfl) (fun _ => by kernel_rfl) (show opAt (opsOf Try.f43 18) 9 = some (some 101, .fieldAddr 31 (.tmp 5) 3, none) from by kernel_rfl) (by kernel_rfl) (by kernel_rfl) (fun _ _ => by kernel_rfl) (show opAt (opsOf Try.f43 18) 10 = some (none, .store 24 (.tmp 101) (.tmp 100), none) from by kernel_rfl) (by kernel_rfl) (by kernel_rfl) H.out U.out.n LN.out (Nat.succ_le_of_lt (Array.getElem?_eq_some_iff.1 (heldC_at H.out (List.Mem.tail _ (List.Mem.head _)))).1) W0.out (List.Mem.tail _ (List.Mem.head _)) rfl (Nat.lt_succ_self _) B0'.out (fun q hq => far_two FAR.out (Nat.lt_succ_of_lt hbw) (Nat.lt_succ_self _) hq) ?_
          rintro v' w3 ⟨sa3, sn3, sc3, rfl⟩ hK hO hB hZ hR hG
          simp only [putAll, Act.put, List.setIfInBounds_toArray, List.set_cons_zero, List.set_cons_succ]
          have KA1 := heldC_at H.out (List.Mem.head _)
          have KR1 := heldC_at H.out (List.Mem.head _)
          have hwa := (Array.getElem?_eq_some_iff.1 KA1).1
          have U := Lib.hid (U.out.setN hO hR (fun g hlo hg hne => hG g hg (by omega) hne) hZ)
          have KA := Lib.hid (show w3.heap[w.heap.size]? = some (.cells #[.int .i64 kk, .slice (some ⟨ba, off, none⟩) n ci, .slice ap parts.length cp, .slice (some ⟨bn, offn, none⟩) nn cn, .slice ac cls.length cc, .slice al levels.length cl, .int .i64 code, .int .i64 env] 31 (0, 0)) from (hG _ hwa (by omega) (fun e => by have := FAR.out _ e; omega)).trans KA1)
          have KB := Lib.hid (show w3.heap[b]? = some (.cells #[.int .i64 kk, .slice sa sn sc2, .slice none 0 0, .slice sa3 sn3 sc3, .slice none 0 0, .slice none 0 0, .int .i64 0, .int .i64 0] 31 (0, 0)) from hK)
          have BW := Lib.hid hB
          have KR := Lib.hid (show w3.heap[w.heap.size + 1]? = some (.cells #[.int .i64 0, .slice none 0 0, .slice none 0 0, .slice none 0 0, .slice none 0 0, .slice none 0 0, .int .i64 0, .int .i64 0] 31 (0, 0)) from (hG _ hKR (by omega) (fun e => by have := FAR.out _ e; omega)).trans KRW.out)
          clear hK hO hB hR hG hZ H FAR LN KA1 KR1 hwa
          go_wp2
          go_roundw
          case rel => first | exact ⟨k + 1, _, _, by omega, by go_num, BW.out, KA.out, KR.out, KB.out, by rw [NXI.out, NXN.out]; exact U.out⟩ | ((repeat apply Exists.intro); exact ⟨⟨k + 1, _, _, by omega, by go_num, BW.out, KA.out, KR.out, KB.out, by rw [NXI.out, NXN.out]; exact U.out⟩, rfl⟩)
          case measure => simp [intOf]; omega
      · obtain rfl : k = m := by omega
        obtain ⟨si, qi, rfl⟩ := row_form U.out.i
        obtain ⟨sn, qn, Fn, rfl, hot, _, hrt, _⟩ := txs_of_row U.out.n
        have CLN := Lib.hid (fun (W : World) (hb : Below wr.heap.size wr W) => specCleanN kk 0 0 si none sn none none (pkL noI items (idx.take k)).length qi 0 0 qn 0 0 0 0 (pkL ⟨#[]⟩ names (idx.take k)) (b + 1) wr.heap.size W ((hot.at_ hrt).below hb (Nat.le_refl _)) hb.size (Nat.le_trans (LM.out k) hn))
        clear hot hrt
        obtain ⟨k0, k1, k2, k3, k4, k5, k6, k7⟩ := vec8 KB.out
        have hKR := (Array.getElem?_eq_some_iff.1 KR.out).1
        go_wp2_with fail
        refine (CLN.out _ (Below.refl _ _)).mono ?_
        rintro e w5 ⟨b', hor⟩
        have BW := Lib.hid (below_then BW.out b')
        have KR := Lib.hid (blk_below b' KR.out)
        have O := Lib.hid ((U.out.below b').own kk)
        have hL1 : w.heap.size + 1 < b + 1 := by omega
        clear b' k0 k1 k2 k3 k4 k5 k6 k7
        obtain ⟨z0, z1, z2, z3, z4, z5, z6, z7⟩ := vec8 KR.out
        obtain ⟨f0, f1, f2, f3, f4, f5, f6, f7⟩ := free8 KR.out
        rcases hor with ⟨hex, rfl⟩ | ⟨hem, g, hg, rfl⟩
        · have EN := Lib.hid (clnN_yes (l := pkL ⟨#[]⟩ names (idx.take k)) (by obtain ⟨i, h1, h2⟩ := hex; exact ⟨i, h1, fun h => h2 (empty_of_size h)⟩))
          rw [EN.out] at EV
          rw [← EV.out] at O
          clear EV EN hex
          go_wp2
          exact vec_end rfl rfl rfl KR.out ⟨_, rfl, (O.out.put8 hL1 _ _ _ _ _ _ _ _).wide (by omega) (by rw [put8_size]; exact Nat.le_refl _), put8_below BW.out (Nat.le_succ _)⟩
        · have EN := Lib.hid (clnN_no (l := pkL ⟨#[]⟩ names (idx.take k)) (fun ⟨i, h1, h2⟩ => h2 (show (txtS _ i).size = 0 by rw [hem i h1]; rfl)))
          rw [EN.out] at EV
          have O := Lib.hid (O.out.noNames (some ⟨g, 0, none⟩) 0)
          rw [← EV.out] at O
          clear EV EN hem hg
          go_wp2
          exact vec_end rfl rfl rfl KR.out ⟨_, rfl, (O.out.put8 hL1 _ _ _ _ _ _ _ _).wide (by omega) (by rw [put8_size]; exact Nat.le_refl _), put8_below BW.out (Nat.le_succ _)⟩
  · have hl0 : 0 < ((levels.length : Nat) : Int) := by omega
    have U := Lib.hid (UST.out w1)
    have EKL := Lib.hid (EK.out hl)
    clear hl
    obtain ⟨a0, a1, a2, a3, a4, a5, a6, a7⟩ := vec8 KA.out
    have hltA := (Array.getElem?_eq_some_iff.1 KA.out).1
    obtain ⟨w2, hw2⟩ : ∃ W, w1.alloc (.cells #[] 9) = W := ⟨_, rfl⟩
    have B12 := Lib.hid (show Below w1.heap.size w1 w2 from hw2 ▸ below1 w1 _)
    have KS := Lib.hid (show w2.heap[w1.heap.size]? = some (.cells #[] 9 (0, 0)) from hw2 ▸ blk_new w1 _ rfl)
    have BW2 := Lib.hid (below_then BW.out B12.out)
    have EW := Lib.hid hw2
    clear hw2
    go_wp2_with (at_builtin; go_loud (rw [EW.out]; refine wpList_copyTz (w0 := w1) rfl _ _ rfl _ rfl (.inr ⟨w1.heap.size, Nat.le_refl _, rfl, KS.out⟩) B12.out ac cc cls lo hi rfl (HC.out _ BW2.out) lc ?_))
    intro v' w3 tz
    obtain ⟨sc, nc, qc, rfl⟩ := tz.form
    have U := Lib.hid (U.out.setC (row_lo tz.row SL) (moved_new tz.row) (fun g _ hg _ => tz.below.block g hg) tz.below.size)
    have BW := Lib.hid (below_then BW.out tz.below)
    have KA := Lib.hid (blk_below tz.below KA.out)
    have KB := Lib.hid (blk_below tz.below KB.out)
    have KR := Lib.hid (blk_below tz.below KR.out)
    have SL := Nat.le_trans SL tz.below.size
    clear tz a0 a1 a2 a3 a4 a5 a6 a7 hltA
    obtain ⟨a0, a1, a2, a3, a4, a5, a6, a7⟩ := vec8 KA.out
    obtain ⟨k0, k1, k2, k3, k4, k5, k6, k7⟩ := vec8 KB.out
    obtain ⟨g0, g1, g2, g3, g4, g5, g6, g7⟩ := free8 KB.out
    have hbb := (Array.getElem?_eq_some_iff.1 KB.out).1
    go_upto_region 4 with (fail)
    clear a0 a1 a2 a3 a4 a5 a6 a7 k0 k1 k2 k3 k4 k5 k6 k7 g0 g1 g2 g3 g4 g5 g6 g7 hbb
    obtain ⟨w4, hw⟩ : ∃ W, w3.setCell ⟨b, 4, none⟩ (.slice sc nc qc) = W := ⟨_, rfl⟩
    have KB := Lib.hid (show w4.heap[b]? = some (.cells #[.int .i64 kk, .slice none 0 0, .slice none 0 0, .slice none 0 0, .slice sc nc qc, .slice none 0 0, .int .i64 0, .int .i64 0] 31 (0, 0)) from hw ▸ Joins.block_setCell KB.out _)
    have KA := Lib.hid (show w4.heap[w.heap.size]? = some (.cells #[.int .i64 kk, .slice ai n ci, .slice ap parts.length cp, .slice an nn cn, .slice ac cls.length cc, .slice al levels.length cl, .int .i64 code, .int .i64 env] 31 (0, 0)) from hw ▸ (Below.heap_setCell _ _ _ _ (show w.heap.size ≠ b by omega)).trans KA.out)
    have KR := Lib.hid (show w4.heap[w.heap.size + 1]? = some (.cells #[.int .i64 0, .slice none 0 0, .slice none 0 0, .slice none 0 0, .slice none 0 0, .slice none 0 0, .int .i64 0, .int .i64 0] 31 (0, 0)) from hw ▸ (Below.heap_setCell _ _ _ _ (show w.heap.size + 1 ≠ b by omega)).trans KR.out)
    have BW := Lib.hid (show Below w.heap.size w w4 from hw ▸ BW.out.setCell (p := ⟨b, 4, none⟩) (show w.heap.size ≤ b by omega) _)
    have U := Lib.hid (show Und (b + 1) w4 _ _ _ _ _ _ _ _ _ _ _ _ from hw ▸ U.out.put (Nat.lt_succ_self _))
    have SL := Nat.le_trans SL (show w3.heap.size ≤ w4.heap.size from hw ▸ (by simp))
    rw [hw]
    clear hw
    obtain ⟨a0, a1, a2, a3, a4, a5, a6, a7⟩ := vec8 KA.out
    have hltA := (Array.getElem?_eq_some_iff.1 KA.out).1
    obtain ⟨w5, hw2⟩ : ∃ W, w4.alloc (.cells #[] 9) = W := ⟨_, rfl⟩
    have B12 := Lib.hid (show Below w4.heap.size w4 w5 from hw2 ▸ below1 w4 _)
    have KS := Lib.hid (show w5.heap[w4.heap.size]? = some (.cells #[] 9 (0, 0)) from hw2 ▸ blk_new w4 _ rfl)
    have BW2 := Lib.hid (below_then BW.out B12.out)
    have EW := Lib.hid hw2
    clear hw2
    go_wp2_with (at_builtin; go_loud (rw [EW.out]; refine wpList_copyTz (w0 := w4) rfl _ _ rfl _ rfl (.inr ⟨w4.heap.size, Nat.le_refl _, rfl, KS.out⟩) B12.out al cl levels lo hi rfl (HL.out _ BW2.out) ll ?_))
    intro v' w6 tz
    obtain ⟨sl, nl, ql, rfl⟩ := tz.form
    have U := Lib.hid (U.out.setL (row_lo tz.row SL) (moved_new tz.row) (fun g _ hg _ => tz.below.block g hg) tz.below.size)
    have BW := Lib.hid (below_then BW.out tz.below)
    have KA := Lib.hid (blk_below tz.below KA.out)
    have KB := Lib.hid (blk_below tz.below KB.out)
    have KR := Lib.hid (blk_below tz.below KR.out)
    have SL := Nat.le_trans SL tz.below.size
    clear tz a0 a1 a2 a3 a4 a5 a6 a7 hltA
    obtain ⟨a0, a1, a2, a3, a4, a5, a6, a7⟩ := vec8 KA.out
    obtain ⟨k0, k1, k2, k3, k4, k5, k6, k7⟩ := vec8 KB.out
    obtain ⟨g0, g1, g2, g3, g4, g5, g6, g7⟩ := free8 KB.out
    have hbb := (Array.getElem?_eq_some_iff.1 KB.out).1
    go_upto_region 5 with (fail)
    clear a0 a1 a2 a3 a4 a5 a6 a7 k0 k1 k2 k3 k4 k5 k6 k7 g0 g1 g2 g3 g4 g5 g6 g7 hbb
    obtain ⟨w7, hw⟩ : ∃ W, w6.setCell ⟨b, 5, none⟩ (.slice sl nl ql) = W := ⟨_, rfl⟩
    have KB := Lib.hid (show w7.heap[b]? = some (.cells #[.int .i64 kk, .slice none 0 0, .slice none 0 0, .slice none 0 0, .slice sc nc qc, .slice sl nl ql, .int .i64 0, .int .i64 0] 31 (0, 0)) from hw ▸ Joins.block_setCell KB.out _)
    have KA := Lib.hid (show w7.heap[w.heap.size]? = some (.cells #[.int .i64 kk, .slice ai n ci, .slice ap parts.length cp, .slice an nn cn, .slice ac cls.length cc, .slice al levels.length cl, .int .i64 code, .int .i64 env] 31 (0, 0)) from hw ▸ (Below.heap_setCell _ _ _ _ (show w.heap.size ≠ b by omega)).trans KA.out)
    have KR := Lib.hid (show w7.heap[w.heap.size + 1]? = some (.cells #[.int .i64 0, .slice none 0 0, .slice none 0 0, .slice none 0 0, .slice none 0 0, .slice none 0 0, .int .i64 0, .int .i64 0] 31 (0, 0)) from hw ▸ (Below.heap_setCell _ _ _ _ (show w.heap.size + 1 ≠ b by omega)).trans KR.out)
    have BW := Lib.hid (show Below w.heap.size w w7 from hw ▸ BW.out.setCell (p := ⟨b, 5, none⟩) (show w.heap.size ≤ b by omega) _)
    have U := Lib.hid (show Und (b + 1) w7 _ _ _ _ _ _ _ _ _ _ _ _ from hw ▸ U.out.put (Nat.lt_succ_self _))
    have SL := Nat.le_trans SL (show w6.heap.size ≤ w7.heap.size from hw ▸ (by simp))
    rw [hw]
    clear hw
    have U := Lib.hid (show Und (b + 1) w7 d [] [] [] (kpC levels cls) levels _ _ _ _ _ [] from by rw [EKL.out]; exact U.out)
    go_wp2
    clear hl0
    obtain ⟨dv, hdv⟩ : ∃ dv, decide (0 < levels.length) = dv := ⟨_, rfl⟩
    try rw [hdv]
    clear hdv
    have W0 := Lib.hid (show w.heap.size ≤ b + 1 by omega)
    have B0' := Lib.hid (show w.heap.size ≤ b by omega)
    go_loopw [6] (fun i wr => ∃ (k : Nat) (vi vn : Value), k ≤ m ∧ i = .int .i64 k ∧ Below w.heap.size w wr ∧ wr.heap[w.heap.size]? = some (.cells #[.int .i64 kk, .slice ai n ci, .slice ap parts.length cp, .slice an nn cn, .slice ac cls.length cc, .slice al levels.length cl, .int .i64 code, .int .i64 env] 31 (0, 0)) ∧ wr.heap[w.heap.size + 1]? = some (.cells #[.int .i64 0, .slice none 0 0, .slice none 0 0, .slice none 0 0, .slice none 0 0, .slice none 0 0, .int .i64 0, .int .i64 0] 31 (0, 0)) ∧ wr.heap[b]? = some (.cells #[.int .i64 kk, vi, .slice none 0 0, vn, .slice sc nc qc, .slice sl nl ql, .int .i64 0, .int .i64 0] 31 (0, 0)) ∧ Und (b + 1) wr d (pkL noI items (idx.take k)) [] (pkL ⟨#[]⟩ names (idx.take k)) (kpC levels cls) levels vi (.slice none 0 0) vn (.slice sc nc qc) (.slice sl nl ql) []) (fun i _ => m - (intOf i).toNat)
    case atStart => exact ⟨0, .slice none 0 0, .slice none 0 0, Nat.zero_le _, rfl, BW.out, KA.out, KR.out, KB.out, by rw [pkT_zero, pkT_zero]; exact U.out⟩
    case round =>
      obtain ⟨k, vi, vn, hk, rfl, hbw', hka, hkr, hkb, hu⟩ := hrel
      have BW := Lib.hid hbw'
      have KA := Lib.hid hka
      have KR := Lib.hid hkr
      have KB := Lib.hid hkb
      have U := Lib.hid hu
      clear hbw' hka hkr hkb hu
      by_cases hlt : k < m
      · obtain ⟨bi, oi, rfl, hbi, cx⟩ := (SA.out.below (BW.out.mono hB)) k hlt
        have hq := IN.out k hlt
        have NXI := Lib.hid (PI.out k (by omega) hlt)
        replace cx := (show wr.cell? ⟨bi, oi + k, none⟩ = some (.int .i64 (((idx.getD k 0 : Nat) : Int) + 1)) from cx)
        have PNk := Lib.hid (fun h => PN.out k h hlt)
        obtain ⟨q, hq'⟩ : ∃ q, idx.getD k 0 = q := ⟨_, rfl⟩
        rw [hq'] at cx hq NXI PNk
        clear hq'
        have IY := Lib.hid (fun W => inYes (q : Int) 0 ((n : Int) - 1) W (by omega) (by omega))
        obtain ⟨ba, off, rfl, hbB, c0, c1, c2'⟩ := AI.out q w hq (Below.refl _ _)
        have c2 : w.cell? ⟨ba, off + q * 3 + 2, none⟩ = some (.string (items.getD q noI).t) := c2'
        have hbaw : ba < w.heap.size := Nat.lt_of_lt_of_le hbB hhi
        obtain ⟨x, hx⟩ : ∃ x, items.getD q noI = x := ⟨_, rfl⟩
        rw [hx] at c0 c1 c2 NXI
        clear hx c2'
        obtain ⟨a0, a1, a2, a3, a4, a5, a6, a7⟩ := vec8 KA.out
        go_wp2_with fail
        with_reducible refine (LE.out _).mono ?_
        rintro e wl ⟨rfl, b'⟩
        have BW := Lib.hid (below_then BW.out b')
        have KA := Lib.hid (blk_below b' KA.out)
        have KR := Lib.hid (blk_below b' KR.out)
        have KB := Lib.hid (blk_below b' KB.out)
        have U := Lib.hid (U.out.below b')
        clear b' a0 a1 a2 a3 a4 a5 a6 a7
        go_wp2_with fail
        with_reducible refine (IY.out _).mono ?_
        rintro e w' ⟨rfl, rfl⟩
        obtain ⟨a0, a1, a2, a3, a4, a5, a6, a7⟩ := vec8 KA.out
        have hbl := (Array.getElem?_eq_some_iff.1 KB.out).1
        have hKR := (Array.getElem?_eq_some_iff.1 KR.out).1
        have KRW := KR
        have UW := U
        by_cases h0 : nn = 0
        · have e0 := P0.out h0 (k + 1)
          have e1 := P0.out h0 k
          have hn0 : (nn : Int) ≤ 0 := by omega
          have H0 := Lib.hid h0
          clear h0
          have LN := Lib.hid (show (pkL noI items (idx.take k)).length ≤ 1048576 by have := LI.out k; omega)
          have FAR := Lib.hid (fun g hg => (U.out.i.lt g hg).1)
          have H := Lib.hid (show HeldC w wl ([(w.heap.size, 31, #[.int .i64 kk, .slice (some ⟨ba, off, none⟩) n ci, .slice ap parts.length cp, .slice an nn cn, .slice ac cls.length cc, .slice al levels.length cl, .int .i64 code, .int .i64 env]), (b, 31, #[.int .i64 kk, vi, .slice none 0 0, vn, .slice sc nc qc, .slice sl nl ql, .int .i64 0, .int .i64 0])]) from heldC_cons (heldC_cons ⟨BW.out, (fun _ h => by cases h)⟩ KB.out) KA.out)
          go_upto_region 15 with (fail)
          clear a0 a1 a2 a3 a4 a5 a6 a7
          refine run_region (ops := (opsOf Try.f43 15)) (S := fun w' => HeldC w w' ([(w.heap.size, 31, #[.int .i64 kk, .slice (some ⟨ba, off, none⟩) n ci, .slice ap parts.length cp, .slice an nn cn, .slice ac cls.length cc, .slice al levels.length cl, .int .i64 code, .int .i64 env]), (b, 31, #[.int .i64 kk, vi, (.slice none 0 0), vn, .slice sc nc qc, .slice sl nl ql, .int .i64 0, .int .i64 0])])) [(0, true), (1, true), (2, true), (3, true), (4, true), (5, true), (6, true), (7, false), (8, false), (9, true), (10, false)] (by kernel_rfl) (by kernel_rfl) (by kernel_rfl) (by kernel_rfl) (by kernel_rfl) (fun _ _ _ _ _ h => h) (heldC_drew H.out) ?_
          have H := Lib.hid (heldC_drew H.out)
          have U := Lib.hid (U.out.keep (below_drew' (Below.refl _ _)))
          refine runC_partV (b := b) (by kernel_rfl) (show opAt (opsOf Try.f43 15) 0 = some (some 69, .fieldAddr 31 (.tmp 5) 1, none) from by kernel_rfl) (by kernel_rfl) (by kernel_rfl) (by kernel_rfl) ?_
          refine runC_cell (b := b) (j := 1) (v := vi) load_its (show opAt (opsOf Try.f43 15) 1 = some (some 70, .load 28 (.tmp 69), none) from by kernel_rfl) (by kernel_rfl) (by kernel_rfl) (by kernel_rfl) (List.Mem.tail _ (List.Mem.head _)) rfl ?_
          refine runC_partV (b := w.heap.size) (by kernel_rfl) (show opAt (opsOf Try.f43 15) 2 = some (some 71, .fieldAddr 31 (.tmp 2) 1, none) from by kernel_rfl) (by kernel_rfl) (by kernel_rfl) (by kernel_rfl) ?_
          refine runC_cell (b := w.heap.size) (j := 1) (v := .slice (some ⟨ba, off, none⟩) n ci) load_its (show opAt (opsOf Try.f43 15) 3 = some (some 72, .load 28 (.tmp 71), none) from by kernel_rfl) (by kernel_rfl) (by kernel_rfl) (by kernel_rfl) (List.Mem.head _) rfl ?_
          refine run_mov (v := .int .i64 ((q : Int))) (show opAt (opsOf Try.f43 15) 4 = some (some 73, .move (.tmp 7), none) from by kernel_rfl) (by kernel_rfl) (by kernel_rfl) (by kernel_rfl) ?_
          refine run_idx3 (n := n) (c := ci) (b := ba) (off := off) (k := q) (show opAt (opsOf Try.f43 15) 5 = some (some 74, .indexAddr 28 (.tmp 72) (.tmp 73), none) from by kernel_rfl) (by kernel_rfl) (by kernel_rfl) (by kernel_rfl) (by kernel_rfl) hq ?_
          refine runC_oldI (b := ba) (j := off + q * 3) (z := x) (show opAt (opsOf Try.f43 15) 6 = some (some 75, .load 67 (.tmp 74), none) from by kernel_rfl) (by kernel_rfl) (by kernel_rfl) (by kernel_rfl) hbaw c0 c1 c2 ?_
          refine tail_its3 x (show opAt (opsOf Try.f43 15) 7 = some (some 76, .buildSlice 28 1 #[(0, (.tmp 75))], none) from by kernel_rfl) (by kernel_rfl) (by kernel_rfl) (show opAt (opsOf Try.f43 15) 8 = some (some 77, .call { callee := .builtin .append, args := [(.tmp 70), (.tmp 76)].toArray, argTypes := [28, 28].toArray }, none) from by kernel_rfl) (by kernel_rfl) (fun _ => by kernel_rfl) (show opAt (opsOf Try.f43 15) 9 = some (some 78, .fieldAddr 31 (.tmp 5) 1, none) from by kernel_rfl) (by kernel_rfl) (by kernel_rfl) (fun _ _ => by kernel_rfl) (show opAt (opsOf Try.f43 15) 10 = some (none, .store 28 (.tmp 78) (.tmp 77), none) from by kernel_rfl) (by kernel_rfl) (by kernel_rfl) H.out U.out.i LN.out (Nat.succ_le_of_lt (Array.getElem?_eq_some_iff.1 (heldC_at H.out (List.Mem.tail _ (List.Mem.head _)))).1) W0.out (List.Mem.tail _ (List.Mem.head _)) rfl (Nat.lt_succ_self _) B0'.out (fun q hq => far_two FAR.out (Nat.lt_succ_of_lt hbw) (Nat.lt_succ_self _) hq) ?_
          rintro v' w2 ⟨sa, sn, sc2, rfl⟩ hK hO hB hZ hR hG
          simp only [putAll, Act.put, List.setIfInBounds_toArray, List.set_cons_zero, List.set_cons_succ]
          have KA1 := heldC_at H.out (List.Mem.head _)
          have KR1 := heldC_at H.out (List.Mem.head _)
          have hwa := (Array.getElem?_eq_some_iff.1 KA1).1
          have U := Lib.hid (U.out.setI hO hR (fun g hlo hg hne => hG g hg (by omega) hne) hZ)
          have KA := Lib.hid (show w2.heap[w.heap.size]? = some (.cells #[.int .i64 kk, .slice (some ⟨ba, off, none⟩) n ci, .slice ap parts.length cp, .slice an nn cn, .slice ac cls.length cc, .slice al levels.length cl, .int .i64 code, .int .i64 env] 31 (0, 0)) from (hG _ hwa (by omega) (fun e => by have := FAR.out _ e; omega)).trans KA1)
          have KB := Lib.hid (show w2.heap[b]? = some (.cells #[.int .i64 kk, .slice sa sn sc2, .slice none 0 0, vn, .slice sc nc qc, .slice sl nl ql, .int .i64 0, .int .i64 0] 31 (0, 0)) from hK)
          have BW := Lib.hid hB
          have KR := Lib.hid (show w2.heap[w.heap.size + 1]? = some (.cells #[.int .i64 0, .slice none 0 0, .slice none 0 0, .slice none 0 0, .slice none 0 0, .slice none 0 0, .int .i64 0, .int .i64 0] 31 (0, 0)) from (hG _ hKR (by omega) (fun e => by have := FAR.out _ e; omega)).trans KRW.out)
          clear hK hO hB hR hG hZ H FAR LN KA1 KR1 hwa
          obtain ⟨a0, a1, a2, a3, a4, a5, a6, a7⟩ := vec8 KA.out
          go_wp2
          go_roundw
          case rel => first | exact ⟨k + 1, _, vn, by omega, by go_num, BW.out, KA.out, KR.out, KB.out, by rw [NXI.out, e0]; rw [e1] at U; exact U.out⟩ | ((repeat apply Exists.intro); exact ⟨⟨k + 1, _, vn, by omega, by go_num, BW.out, KA.out, KR.out, KB.out, by rw [NXI.out, e0]; rw [e1] at U; exact U.out⟩, rfl⟩)
          case measure => simp [intOf]; omega
        · have hqn : q < nn := by have := hnm h0; omega
          have hn0 : 0 < (nn : Int) := by omega
          have NXN := Lib.hid (PNk.out h0)
          obtain ⟨bn, offn, rfl, hbN, cn0⟩ := AN.out q w hqn (Below.refl _ _)
          have hbnw : bn < w.heap.size := Nat.lt_of_lt_of_le hbN hhi
          obtain ⟨s, hs⟩ : ∃ s, names.getD q ⟨#[]⟩ = s := ⟨_, rfl⟩
          rw [hs] at cn0 NXN
          clear hs
          have LN := Lib.hid (show (pkL noI items (idx.take k)).length ≤ 1048576 by have := LI.out k; omega)
          have FAR := Lib.hid (fun g hg => (U.out.i.lt g hg).1)
          have H := Lib.hid (show HeldC w wl ([(w.heap.size, 31, #[.int .i64 kk, .slice (some ⟨ba, off, none⟩) n ci, .slice ap parts.length cp, .slice (some ⟨bn, offn, none⟩) nn cn, .slice ac cls.length cc, .slice al levels.length cl, .int .i64 code, .int .i64 env]), (b, 31, #[.int .i64 kk, vi, .slice none 0 0, vn, .slice sc nc qc, .slice sl nl ql, .int .i64 0, .int .i64 0])]) from heldC_cons (heldC_cons ⟨BW.out, (fun _ h => by cases h)⟩ KB.out) KA.out)
          go_upto_region 15 with (fail)
          clear a0 a1 a2 a3 a4 a5 a6 a7
          refine run_region (ops := (opsOf Try.f43 15)) (S := fun w' => HeldC w w' ([(w.heap.size, 31, #[.int .i64 kk, .slice (some ⟨ba, off, none⟩) n ci, .slice ap parts.length cp, .slice (some ⟨bn, offn, none⟩) nn cn, .slice ac cls.length cc, .slice al levels.length cl, .int .i64 code, .int .i64 env]), (b, 31, #[.int .i64 kk, vi, (.slice none 0 0), vn, .slice sc nc qc, .slice sl nl ql, .int .i64 0, .int .i64 0])])) [(0, true), (1, true), (2, true), (3, true), (4, true), (5, true), (6, true), (7, false), (8, false), (9, true), (10, false)] (by kernel_rfl) (by kernel_rfl) (by kernel_rfl) (by kernel_rfl) (by kernel_rfl) (fun _ _ _ _ _ h => h) (heldC_drew H.out) ?_
          have H := Lib.hid (heldC_drew H.out)
          have U := Lib.hid (U.out.keep (below_drew' (Below.refl _ _)))
          refine runC_partV (b := b) (by kernel_rfl) (show opAt (opsOf Try.f43 15) 0 = some (some 69, .fieldAddr 31 (.tmp 5) 1, none) from by kernel_rfl) (by kernel_rfl) (by kernel_rfl) (by kernel_rfl) ?_
          refine runC_cell (b := b) (j := 1) (v := vi) load_its (show opAt (opsOf Try.f43 15) 1 = some (some 70, .load 28 (.tmp 69), none) from by kernel_rfl) (by kernel_rfl) (by kernel_rfl) (by kernel_rfl) (List.Mem.tail _ (List.Mem.head _)) rfl ?_
          refine runC_partV (b := w.heap.size) (by kernel_rfl) (show opAt (opsOf Try.f43 15) 2 = some (some 71, .fieldAddr 31 (.tmp 2) 1, none) from by kernel_rfl) (by kernel_rfl) (by kernel_rfl) (by kernel_rfl) ?_
          refine runC_cell (b := w.heap.size) (j := 1) (v := .slice (some ⟨ba, off, none⟩) n ci) load_its (show opAt (opsOf Try.f43 15) 3 = some (some 72, .load 28 (.tmp 71), none) from by kernel_rfl) (by kernel_rfl) (by kernel_rfl) (by kernel_rfl) (List.Mem.head _) rfl ?_
          refine run_mov (v := .int .i64 ((q : Int))) (show opAt (opsOf Try.f43 15) 4 = some (some 73, .move (.tmp 7), none) from by kernel_rfl) (by kernel_rfl) (by kernel_rfl) (by kernel_rfl) ?_
          refine run_idx3 (n := n) (c := ci) (b := ba) (off := off) (k := q) (show opAt (opsOf Try.f43 15) 5 = some (some 74, .indexAddr 28 (.tmp 72) (.tmp 73), none) from by kernel_rfl) (by kernel_rfl) (by kernel_rfl) (by kernel_rfl) (by kernel_rfl) hq ?_
          refine runC_oldI (b := ba) (j := off + q * 3) (z := x) (show opAt (opsOf Try.f43 15) 6 = some (some 75, .load 67 (.tmp 74), none) from by kernel_rfl) (by kernel_rfl) (by kernel_rfl) (by kernel_rfl) hbaw c0 c1 c2 ?_
          refine tail_its3 x (show opAt (opsOf Try.f43 15) 7 = some (some 76, .buildSlice 28 1 #[(0, (.tmp 75))], none) from by kernel_rfl) (by kernel_rfl) (by kernel_rfl) (show opAt (opsOf Try.f43 15) 8 = some (some 77, .call { callee := .builtin .append, args := [(.tmp 70), (.tmp 76)].toArray, argTypes := [28, 28].toArray }, none) from by kernel_rfl) (by kernel_rfl) (fun _ => by kernel_rfl) (show opAt (opsOf Try.f43 15) 9 = some (some 78, .fieldAddr 31 (.tmp 5) 1, none) from by kernel_rfl) (by kernel_rfl) (by kernel_rfl) (fun _ _ => by kernel_rfl) (show opAt (opsOf Try.f43 15) 10 = some (none, .store 28 (.tmp 78) (.tmp 77), none) from by kernel_rfl) (by kernel_rfl) (by kernel_rfl) H.out U.out.i LN.out (Nat.succ_le_of_lt (Array.getElem?_eq_some_iff.1 (heldC_at H.out (List.Mem.tail _ (List.Mem.head _)))).1) W0.out (List.Mem.tail _ (List.Mem.head _)) rfl (Nat.lt_succ_self _) B0'.out (fun q hq => far_two FAR.out (Nat.lt_succ_of_lt hbw) (Nat.lt_succ_self _) hq) ?_
          rintro v' w2 ⟨sa, sn, sc2, rfl⟩ hK hO hB hZ hR hG
          simp only [putAll, Act.put, List.setIfInBounds_toArray, List.set_cons_zero, List.set_cons_succ]
          have KA1 := heldC_at H.out (List.Mem.head _)
          have KR1 := heldC_at H.out (List.Mem.head _)
          have hwa := (Array.getElem?_eq_some_iff.1 KA1).1
          have U := Lib.hid (U.out.setI hO hR (fun g hlo hg hne => hG g hg (by omega) hne) hZ)
          have KA := Lib.hid (show w2.heap[w.heap.size]? = some (.cells #[.int .i64 kk, .slice (some ⟨ba, off, none⟩) n ci, .slice ap parts.length cp, .slice (some ⟨bn, offn, none⟩) nn cn, .slice ac cls.length cc, .slice al levels.length cl, .int .i64 code, .int .i64 env] 31 (0, 0)) from (hG _ hwa (by omega) (fun e => by have := FAR.out _ e; omega)).trans KA1)
          have KB := Lib.hid (show w2.heap[b]? = some (.cells #[.int .i64 kk, .slice sa sn sc2, .slice none 0 0, vn, .slice sc nc qc, .slice sl nl ql, .int .i64 0, .int .i64 0] 31 (0, 0)) from hK)
          have BW := Lib.hid hB
          have KR := Lib.hid (show w2.heap[w.heap.size + 1]? = some (.cells #[.int .i64 0, .slice none 0 0, .slice none 0 0, .slice none 0 0, .slice none 0 0, .slice none 0 0, .int .i64 0, .int .i64 0] 31 (0, 0)) from (hG _ hKR (by omega) (fun e => by have := FAR.out _ e; omega)).trans KRW.out)
          clear hK hO hB hR hG hZ H FAR LN KA1 KR1 hwa
          obtain ⟨a0, a1, a2, a3, a4, a5, a6, a7⟩ := vec8 KA.out
          have hKR := (Array.getElem?_eq_some_iff.1 KR.out).1
          have KRW := KR
          have LN := Lib.hid (show (pkL ⟨#[]⟩ names (idx.take k)).length ≤ 1048576 by have := LM.out k; omega)
          have FAR := Lib.hid (fun g hg => (U.out.n.lt g hg).1)
          have H := Lib.hid (show HeldC w w2 ([(w.heap.size, 31, #[.int .i64 kk, .slice (some ⟨ba, off, none⟩) n ci, .slice ap parts.length cp, .slice (some ⟨bn, offn, none⟩) nn cn, .slice ac cls.length cc, .slice al levels.length cl, .int .i64 code, .int .i64 env]), (b, 31, #[.int .i64 kk, .slice sa sn sc2, .slice none 0 0, vn, .slice sc nc qc, .slice sl nl ql, .int .i64 0, .int .i64 0])]) from heldC_cons (heldC_cons ⟨BW.out, (fun _ h => by cases h)⟩ KB.out) KA.out)
          go_upto_region 18 with (fail)
          clear a0 a1 a2 a3 a4 a5 a6 a7
          refine run_region (ops := (opsOf Try.f43 18)) (S := fun w' => HeldC w w' ([(w.heap.size, 31, #[.int .i64 kk, .slice (some ⟨ba, off, none⟩) n ci, .slice ap parts.length cp, .slice (some ⟨bn, offn, none⟩) nn cn, .slice ac cls.length cc, .slice al levels.length cl, .int .i64 code, .int .i64 env]), (b, 31, #[.int .i64 kk, (.slice sa sn sc2), (.slice none 0 0), vn, .slice sc nc qc, .slice sl nl ql, .int .i64 0, .int .i64 0])])) [(0, true), (1, true), (2, true), (3, true), (4, true), (5, true), (6, true), (7, false), (8, false), (9, true), (10, false)] (by kernel_rfl) (by kernel_rfl) (by kernel_rfl) (by kernel_rfl) (by kernel_rfl) (fun _ _ _ _ _ h => h) (heldC_drew H.out) ?_
          have H := Lib.hid (heldC_drew H.out)
          have U := Lib.hid (U.out.keep (below_drew' (Below.refl _ _)))
          refine runC_partV (b := b) (by kernel_rfl) (show opAt (opsOf Try.f43 18) 0 = some (some 92, .fieldAddr 31 (.tmp 5) 3, none) from by kernel_rfl) (by kernel_rfl) (by kernel_rfl) (by kernel_rfl) ?_
          refine runC_cell (b := b) (j := 3) (v := vn) load_strs (show opAt (opsOf Try.f43 18) 1 = some (some 93, .load 24 (.tmp 92), none) from by kernel_rfl) (by kernel_rfl) (by kernel_rfl) (by kernel_rfl) (List.Mem.tail _ (List.Mem.head _)) rfl ?_
          refine runC_partV (b := w.heap.size) (by kernel_rfl) (show opAt (opsOf Try.f43 18) 2 = some (some 94, .fieldAddr 31 (.tmp 2) 3, none) from by kernel_rfl) (by kernel_rfl) (by kernel_rfl) (by kernel_rfl) ?_
          refine runC_cell (b := w.heap.size) (j := 3) (v := .slice (some ⟨bn, offn, none⟩) nn cn) load_strs (show opAt (opsOf Try.f43 18) 3 = some (some 95, .load 24 (.tmp 94), none) from by kernel_rfl) (by kernel_rfl) (by kernel_rfl) (by kernel_rfl) (List.Mem.head _) rfl ?_
          refine run_mov (v := .int .i64 ((q : Int))) (show opAt (opsOf Try.f43 18) 4 = some (some 96, .move (.tmp 7), none) from by kernel_rfl) (by kernel_rfl) (by kernel_rfl) (by kernel_rfl) ?_
          refine run_idx1 (n := nn) (c := cn) (b := bn) (off := offn) (k := q) (show opAt (opsOf Try.f43 18) 5 = some (some 97, .indexAddr 24 (.tmp 95) (.tmp 96), none) from by kernel_rfl) (by kernel_rfl) (by kernel_rfl) (by kernel_rfl) (by kernel_rfl) hqn Try.underlying24 (by kernel_rfl) infoStr ?_
          refine runC_old (b := bn) (j := offn + q) (v := .string s) load_text (show opAt (opsOf Try.f43 18) 6 = some (some 98, .load 9 (.tmp 97), none) from by kernel_rfl) (by kernel_rfl) (by kernel_rfl) (by kernel_rfl) hbnw cn0 ?_
          refine tail_txs3 s (show opAt (opsOf Try.f43 18) 7 = some (some 99, .buildSlice 24 1 #[(0, (.tmp 98))], none) from by kernel_rfl) (by kernel_rfl) (by kernel_rfl) (show opAt (opsOf Try.f43 18) 8 = some (some 100, .call { callee := .builtin .append, args := [(.tmp 93), (.tmp 99)].toArray, argTypes := [24, 24].toArray }, none) from by kernel_rfl) (by kernel_rfl) (fun _ => by kernel_rfl) (show opAt (opsOf Try.f43 18) 9 = some (some 101, .fieldAddr 31 (.tmp 5) 3, none) from by kernel_rfl) (by kernel_rfl) (by kernel_rfl) (fun _ _ => by kernel_rfl) (show opAt (opsOf Try.f43 18) 10 = some (none, .store 24 (.tmp 101) (.tmp 100), none) from by kernel_rfl) (by kernel_rfl) (by kernel_rfl) H.out U.out.n LN.out (Nat.succ_le_of_lt (Array.getElem?_eq_some_iff.1 (heldC_at H.out (List.Mem.tail _ (List.Mem.head _)))).1) W0.out (List.Mem.tail _ (List.Mem.head _)) rfl (Nat.lt_succ_self _) B0'.out (fun q hq => far_two FAR.out (Nat.lt_succ_of_lt hbw) (Nat.lt_succ_self _) hq) ?_
          rintro v' w3 ⟨sa3, sn3, sc3, rfl⟩ hK hO hB hZ hR hG
          simp only [putAll, Act.put, List.setIfInBounds_toArray, List.set_cons_zero, List.set_cons_succ]
          have KA1 := heldC_at H.out (List.Mem.head _)
          have KR1 := heldC_at H.out (List.Mem.head _)
          have hwa := (Array.getElem?_eq_some_iff.1 KA1).1
          have U := Lib.hid (U.out.setN hO hR (fun g hlo hg hne => hG g hg (by omega) hne) hZ)
          have KA := Lib.hid (show w3.heap[w.heap.size]? = some (.cells #[.int .i64 kk, .slice (some ⟨ba, off, none⟩) n ci, .slice ap parts.length cp, .slice (some ⟨bn, offn, none⟩) nn cn, .slice ac cls.length cc, .slice al levels.length cl, .int .i64 code, .int .i64 env] 31 (0, 0)) from (hG _ hwa (by omega) (fun e => by have := FAR.out _ e; omega)).trans KA1)
          have KB := Lib.hid (show w3.heap[b]? = some (.cells #[.int .i64 kk, .slice sa sn sc2, .slice none 0 0, .slice sa3 sn3 sc3, .slice sc nc qc, .slice sl nl ql, .int .i64 0, .int .i64 0] 31 (0, 0)) from hK)
          have BW := Lib.hid hB
          have KR := Lib.hid (show w3.heap[w.heap.size + 1]? = some (.cells #[.int .i64 0, .slice none 0 0, .slice none 0 0, .slice none 0 0, .slice none 0 0, .slice none 0 0, .int .i64 0, .int .i64 0] 31 (0, 0)) from (hG _ hKR (by omega) (fun e => by have := FAR.out _ e; omega)).trans KRW.out)
          clear hK hO hB hR hG hZ H FAR LN KA1 KR1 hwa
          go_wp2
          go_roundw
          case rel => first | exact ⟨k + 1, _, _, by omega, by go_num, BW.out, KA.out, KR.out, KB.out, by rw [NXI.out, NXN.out]; exact U.out⟩ | ((repeat apply Exists.intro); exact ⟨⟨k + 1, _, _, by omega, by go_num, BW.out, KA.out, KR.out, KB.out, by rw [NXI.out, NXN.out]; exact U.out⟩, rfl⟩)
          case measure => simp [intOf]; omega
      · obtain rfl : k = m := by omega
        obtain ⟨si, qi, rfl⟩ := row_form U.out.i
        obtain ⟨sn, qn, Fn, rfl, hot, _, hrt, _⟩ := txs_of_row U.out.n
        have CLN := Lib.hid (fun (W : World) (hb : Below wr.heap.size wr W) => specCleanN kk 0 0 si none sn sc sl (pkL noI items (idx.take k)).length qi 0 0 qn nc qc nl ql (pkL ⟨#[]⟩ names (idx.take k)) (b + 1) wr.heap.size W ((hot.at_ hrt).below hb (Nat.le_refl _)) hb.size (Nat.le_trans (LM.out k) hn))
        clear hot hrt
        obtain ⟨k0, k1, k2, k3, k4, k5, k6, k7⟩ := vec8 KB.out
        have hKR := (Array.getElem?_eq_some_iff.1 KR.out).1
        go_wp2_with fail
        refine (CLN.out _ (Below.refl _ _)).mono ?_
        rintro e w5 ⟨b', hor⟩
        have BW := Lib.hid (below_then BW.out b')
        have KR := Lib.hid (blk_below b' KR.out)
        have O := Lib.hid ((U.out.below b').own kk)
        have hL1 : w.heap.size + 1 < b + 1 := by omega
        clear b' k0 k1 k2 k3 k4 k5 k6 k7
        obtain ⟨z0, z1, z2, z3, z4, z5, z6, z7⟩ := vec8 KR.out
        obtain ⟨f0, f1, f2, f3, f4, f5, f6, f7⟩ := free8 KR.out
        rcases hor with ⟨hex, rfl⟩ | ⟨hem, g, hg, rfl⟩
        · have EN := Lib.hid (clnN_yes (l := pkL ⟨#[]⟩ names (idx.take k)) (by obtain ⟨i, h1, h2⟩ := hex; exact ⟨i, h1, fun h => h2 (empty_of_size h)⟩))
          rw [EN.out] at EV
          rw [← EV.out] at O
          clear EV EN hex
          go_wp2
          exact vec_end rfl rfl rfl KR.out ⟨_, rfl, (O.out.put8 hL1 _ _ _ _ _ _ _ _).wide (by omega) (by rw [put8_size]; exact Nat.le_refl _), put8_below BW.out (Nat.le_succ _)⟩
        · have EN := Lib.hid (clnN_no (l := pkL ⟨#[]⟩ names (idx.take k)) (fun ⟨i, h1, h2⟩ => h2 (show (txtS _ i).size = 0 by rw [hem i h1]; rfl)))
          rw [EN.out] at EV
          have O := Lib.hid (O.out.noNames (some ⟨g, 0, none⟩) 0)
          rw [← EV.out] at O
          clear EV EN hem hg
          go_wp2
          exact vec_end rfl rfl rfl KR.out ⟨_, rfl, (O.out.put8 hL1 _ _ _ _ _ _ _ _).wide (by omega) (by rw [put8_size]; exact Nat.le_refl _), put8_below BW.out (Nat.le_succ _)⟩
end Go.Proofs.Ytfbpbpbmnieieaa

/- The reference's l4Pick: parts of a list at positions within its length. -/
namespace Go.Proofs.Ytfbpbpbmnieieaa
open Go.RowKit
set_option maxRecDepth 100000
set_option linter.unusedVariables false

set_option maxHeartbeats 8000000 in
theorem specPickP (d : Nat) (items : List It) (parts : List Vec) (names cls levels : List ByteArray) (code env : Int) (ai ap an ac al xi : Option Addr) (ci cp cn cc cl xc lo hi B : Nat) (idx : List Nat) (w : World) (hP : VecsAt lo hi w d ap parts) (hN : TextsAt lo hi w an names) (hhi : hi ≤ w.heap.size)
    (li : items.length = 0) (lp : parts.length ≤ 1048576) (ln : names.length ≤ 1048576) (ll : levels.length = 0) (hsm : ∀ p ∈ parts, Small d p) (hall : ∀ i, i < parts.length → AllIs d (parts.getD i noV) ∧ (partsV (parts.getD i noV)).length ≤ 41) (hs : IntsAt B w xi idx.length (fun i => ixF idx i + 1)) (hB : B ≤ w.heap.size) (hn : idx.length ≤ 1048576)
    (hin : ∀ i, i < idx.length → idx.getD i 0 < parts.length) (hnm : names.length ≠ 0 → names.length = parts.length) :
    Calls Try.prog 43 #[.agg #[.int .i64 4, .slice ai items.length ci, .slice ap parts.length cp, .slice an names.length cn, .slice ac cls.length cc, .slice al levels.length cl, .int .i64 code, .int .i64 env], .slice xi idx.length xc] w (ResV (d + 1) (selV 4 items parts names cls levels idx) w) := by
  have AI := Lib.hid (fun (k : Nat) (hk : k < parts.length) => hP.at_ hk)
  have CP := Lib.hid (fun (k : Nat) (w1 : World) (x : Value) (hk : k < parts.length) (hb : Below w.heap.size w w1) (hv : VecAt lo hi w d (parts.getD k noV) x) => (scvAll d).out _ x lo hi w1 (hv.below hb hhi) (Nat.le_trans hhi hb.size) (hsm _ (by rw [List.getD_eq_getElem?_getD, List.getElem?_eq_getElem hk]; exact List.getElem_mem hk)) (hall k hk).1 (hall k hk).2)
  have AN := Lib.hid (fun (k : Nat) (w1 : World) (hk : k < names.length) (hb : Below w.heap.size w w1) => (show ∃ b off, an = some ⟨b, off, none⟩ ∧ b < hi ∧ w1.cell? ⟨b, off + k, none⟩ = some (.string (names.getD k ⟨#[]⟩)) from (by obtain ⟨b, off, e, _, h1, h2⟩ := (hN.below hb hhi) k (names.getD k ⟨#[]⟩) (by simp [List.getD_eq_getElem?_getD, hk]); exact ⟨b, off, e, h1, h2⟩)))
  have SA := Lib.hid hs
  have IN := Lib.hid hin
  have LE := Lib.hid (fun W => (by have h := specLen 4 ai ap an ac al items.length ci parts.length cp names.length cn cls.length cc levels.length cl code env W (by omega) lp; rw [show lenV 4 items.length parts.length = parts.length by unfold lenV; rw [if_neg (by decide)]; omega] at h; exact h : Calls Try.prog 41 #[.agg #[.int .i64 4, .slice ai items.length ci, .slice ap parts.length cp, .slice an names.length cn, .slice ac cls.length cc, .slice al levels.length cl, .int .i64 code, .int .i64 env]] W (fun e w' => e = .returned (.int .i64 (parts.length : Nat)) ∧ Below W.heap.size W w')))
  have PI := Lib.hid (fun k (h : parts.length ≠ 0) (hk : k < idx.length) => pkT_succ (z := noV) (l := parts) h hk)
  have PN := Lib.hid (fun k (h : names.length ≠ 0) (hk : k < idx.length) => pkT_succ (z := ⟨#[]⟩) (l := names) h hk)
  have P0 := Lib.hid (fun (h : names.length = 0) k => (pkT_nil (z := ⟨#[]⟩) h (idx.take k) : pkL ⟨#[]⟩ names (idx.take k) = []))
  have EV := Lib.hid (show selV 4 items parts names cls levels idx = .mk 4 [] (pkL noV parts (idx.take idx.length)) (clnN (pkL ⟨#[]⟩ names (idx.take idx.length))) (kpC levels cls) levels 0 0 by rw [pkT_full, pkT_full]; unfold selV; rw [pkT_nil (z := noI) li])
  have LI := Lib.hid (pkT_len noV parts idx)
  have LM := Lib.hid (pkT_len ⟨#[]⟩ names idx)
  have EK0 := Lib.hid (fun (h : levels.length = 0) => (by rw [List.eq_nil_of_length_eq_zero h]; exact ⟨rfl, rfl⟩ : levels = [] ∧ kpC levels cls = []))
  have UST := Lib.hid (fun W => Und.start (w.heap.size + 1 + 1 + 1) W d)
  obtain ⟨V, hV⟩ : ∃ V, selV 4 items parts names cls levels idx = V := ⟨_, rfl⟩
  rw [hV] at EV ⊢
  obtain ⟨m, hm⟩ : ∃ m, idx.length = m := ⟨_, rfl⟩
  rw [hm] at SA IN PI PN EV hn ⊢
  obtain ⟨n, hn'⟩ : ∃ n, parts.length = n := ⟨_, rfl⟩
  rw [hn'] at AI CP IN LE PI lp hnm ⊢
  obtain ⟨nn, hnn⟩ : ∃ n, names.length = n := ⟨_, rfl⟩
  rw [hnn] at AN LE PN P0 ln hnm ⊢
  have LI0 := Lib.hid li
  have LL0 := Lib.hid ll
  clear hV hm hn' hnn hP hN hs hin li ll hsm hall
  go_enter Try.func43, Try.ntmps43
  go_upto_region 2 with (fail)
  obtain ⟨w1, hw1⟩ : ∃ W, ((w.alloc (.cells #[.int .i64 4, .slice ai items.length ci, .slice ap n cp, .slice an nn cn, .slice ac cls.length cc, .slice al levels.length cl, .int .i64 code, .int .i64 env] 31)).alloc (.cells #[.int .i64 0, .slice none 0 0, .slice none 0 0, .slice none 0 0, .slice none 0 0, .slice none 0 0, .int .i64 0, .int .i64 0] 31)).alloc (.cells #[.int .i64 4, .slice none 0 0, .slice none 0 0, .slice none 0 0, .slice none 0 0, .slice none 0 0, .int .i64 0, .int .i64 0] 31) = W := ⟨_, rfl⟩
  have hsz : (w.alloc (.cells #[.int .i64 4, .slice ai items.length ci, .slice ap n cp, .slice an nn cn, .slice ac cls.length cc, .slice al levels.length cl, .int .i64 code, .int .i64 env] 31)).heap.size = w.heap.size + 1 := by simp
  have hsz2 : ((w.alloc (.cells #[.int .i64 4, .slice ai items.length ci, .slice ap n cp, .slice an nn cn, .slice ac cls.length cc, .slice al levels.length cl, .int .i64 code, .int .i64 env] 31)).alloc (.cells #[.int .i64 0, .slice none 0 0, .slice none 0 0, .slice none 0 0, .slice none 0 0, .slice none 0 0, .int .i64 0, .int .i64 0] 31)).heap.size = w.heap.size + 1 + 1 := by simp
  have BW := Lib.hid (show Below w.heap.size w w1 from hw1 ▸ ((below1 w _).alloc (by simp) _).alloc (by simp; omega) _)
  have KA := Lib.hid (show w1.heap[w.heap.size]? = some (.cells #[.int .i64 4, .slice ai items.length ci, .slice ap n cp, .slice an nn cn, .slice ac cls.length cc, .slice al levels.length cl, .int .i64 code, .int .i64 env] 31 (0, 0)) from hw1 ▸ blk_old (blk_old (blk_new w _ rfl)))
  have KR := Lib.hid (show w1.heap[w.heap.size + 1]? = some (.cells #[.int .i64 0, .slice none 0 0, .slice none 0 0, .slice none 0 0, .slice none 0 0, .slice none 0 0, .int .i64 0, .int .i64 0] 31 (0, 0)) from hw1 ▸ blk_old (hsz ▸ blk_new (w.alloc (.cells #[.int .i64 4, .slice ai items.length ci, .slice ap n cp, .slice an nn cn, .slice ac cls.length cc, .slice al levels.length cl, .int .i64 code, .int .i64 env] 31)) (.cells #[.int .i64 0, .slice none 0 0, .slice none 0 0, .slice none 0 0, .slice none 0 0, .slice none 0 0, .int .i64 0, .int .i64 0] 31) rfl))
  have KB := Lib.hid (show w1.heap[w.heap.size + 1 + 1]? = some (.cells #[.int .i64 4, .slice none 0 0, .slice none 0 0, .slice none 0 0, .slice none 0 0, .slice none 0 0, .int .i64 0, .int .i64 0] 31 (0, 0)) from hw1 ▸ hsz2 ▸ blk_new ((w.alloc (.cells #[.int .i64 4, .slice ai items.length ci, .slice ap n cp, .slice an nn cn, .slice ac cls.length cc, .slice al levels.length cl, .int .i64 code, .int .i64 env] 31)).alloc (.cells #[.int .i64 0, .slice none 0 0, .slice none 0 0, .slice none 0 0, .slice none 0 0, .slice none 0 0, .int .i64 0, .int .i64 0] 31)) (.cells #[.int .i64 4, .slice none 0 0, .slice none 0 0, .slice none 0 0, .slice none 0 0, .slice none 0 0, .int .i64 0, .int .i64 0] 31) rfl)
  rw [hw1]
  clear hw1 hsz hsz2
  have hrb : w.heap.size + 1 < w.heap.size + 1 + 1 := Nat.lt_succ_self _
  have hbw : w.heap.size < w.heap.size + 1 + 1 := by omega
  obtain ⟨b, hb⟩ : ∃ b, w.heap.size + 1 + 1 = b := ⟨_, rfl⟩
  rw [hb] at KB UST hrb hbw ⊢
  clear hb
  have hl0 : ((levels.length : Nat) : Int) ≤ 0 := by have := LL0.out; omega
  have U := Lib.hid (show Und (b + 1) w1 d [] [] [] (kpC levels cls) levels _ _ _ _ _ [] from by obtain ⟨e1, e2⟩ := EK0.out LL0.out; rw [e2, e1]; exact UST.out w1)
  obtain ⟨a0, a1, a2, a3, a4, a5, a6, a7⟩ := vec8 KA.out
  go_wp2
  clear a0 a1 a2 a3 a4 a5 a6 a7 hl0
  obtain ⟨dv, hdv⟩ : ∃ dv, decide (0 < levels.length) = dv := ⟨_, rfl⟩
  try rw [hdv]
  clear hdv
  have W0 := Lib.hid (show w.heap.size ≤ b + 1 by omega)
  have B0' := Lib.hid (show w.heap.size ≤ b by omega)
  go_loopw [6] (fun i wr => ∃ (k : Nat) (vp vn : Value) (X : List Nat), k ≤ m ∧ i = .int .i64 k ∧ Below w.heap.size w wr ∧ wr.heap[w.heap.size]? = some (.cells #[.int .i64 4, .slice ai items.length ci, .slice ap n cp, .slice an nn cn, .slice ac cls.length cc, .slice al levels.length cl, .int .i64 code, .int .i64 env] 31 (0, 0)) ∧ wr.heap[w.heap.size + 1]? = some (.cells #[.int .i64 0, .slice none 0 0, .slice none 0 0, .slice none 0 0, .slice none 0 0, .slice none 0 0, .int .i64 0, .int .i64 0] 31 (0, 0)) ∧ wr.heap[b]? = some (.cells #[.int .i64 4, .slice none 0 0, vp, vn, .slice none 0 0, .slice none 0 0, .int .i64 0, .int .i64 0] 31 (0, 0)) ∧ Und (b + 1) wr d [] (pkL noV parts (idx.take k)) (pkL ⟨#[]⟩ names (idx.take k)) (kpC levels cls) levels (.slice none 0 0) vp vn (.slice none 0 0) (.slice none 0 0) X) (fun i _ => m - (intOf i).toNat)
  case atStart => exact ⟨0, .slice none 0 0, .slice none 0 0, [], Nat.zero_le _, rfl, BW.out, KA.out, KR.out, KB.out, by rw [pkT_zero, pkT_zero]; exact U.out⟩
  case round =>
    obtain ⟨k, vp, vn, X, hk, rfl, hbw', hka, hkr, hkb, hu⟩ := hrel
    have BW := Lib.hid hbw'
    have KA := Lib.hid hka
    have KR := Lib.hid hkr
    have KB := Lib.hid hkb
    have U := Lib.hid hu
    clear hbw' hka hkr hkb hu
    by_cases hlt : k < m
    · obtain ⟨bi, oi, rfl, hbi, cx⟩ := (SA.out.below (BW.out.mono hB)) k hlt
      have hq := IN.out k hlt
      have NXI := Lib.hid (PI.out k (by omega) hlt)
      replace cx := (show wr.cell? ⟨bi, oi + k, none⟩ = some (.int .i64 (((idx.getD k 0 : Nat) : Int) + 1)) from cx)
      have PNk := Lib.hid (fun h => PN.out k h hlt)
      obtain ⟨q, hq'⟩ : ∃ q, idx.getD k 0 = q := ⟨_, rfl⟩
      rw [hq'] at cx hq NXI PNk
      clear hq'
      have IY := Lib.hid (fun W => inYes (q : Int) 0 ((n : Int) - 1) W (by omega) (by omega))
      obtain ⟨bp, offp, u0, u1, u2, u3, u4, u5, u6, u7, rfl, hbP, hvp, p0, p1, p2, p3, p4, p5, p6, p7⟩ := AI.out q hq
      have hbpw : bp < w.heap.size := Nat.lt_of_lt_of_le hbP hhi
      have CC := Lib.hid (fun (W : World) (hb : Below w.heap.size w W) => CP.out q W _ hq hb hvp)
      obtain ⟨x, hx⟩ : ∃ x, parts.getD q noV = x := ⟨_, rfl⟩
      rw [hx] at CC NXI
      clear hx hvp
      obtain ⟨a0, a1, a2, a3, a4, a5, a6, a7⟩ := vec8 KA.out
      go_wp2_with fail
      with_reducible refine (LE.out _).mono ?_
      rintro e wl ⟨rfl, b'⟩
      have BW := Lib.hid (below_then BW.out b')
      have KA := Lib.hid (blk_below b' KA.out)
      have KR := Lib.hid (blk_below b' KR.out)
      have KB := Lib.hid (blk_below b' KB.out)
      have U := Lib.hid (U.out.below b')
      clear b' a0 a1 a2 a3 a4 a5 a6 a7
      go_wp2_with fail
      with_reducible refine (IY.out _).mono ?_
      rintro e w' ⟨rfl, rfl⟩
      obtain ⟨a0, a1, a2, a3, a4, a5, a6, a7⟩ := vec8 KA.out
      have hbl := (Array.getElem?_eq_some_iff.1 KB.out).1
      by_cases h0 : nn = 0
      · have e0 := P0.out h0 (k + 1)
        have e1 := P0.out h0 k
        have hn0 : (nn : Int) ≤ 0 := by omega
        have H0 := Lib.hid h0
        clear h0
        have LN := Lib.hid (show (pkL noV parts (idx.take k)).length ≤ 1048576 by have := LI.out k; omega)
        have FAR := Lib.hid U.out.pb.2
        have H := Lib.hid (show HeldC w wl ([(w.heap.size, 31, #[.int .i64 4, .slice ai items.length ci, .slice (some ⟨bp, offp, none⟩) n cp, .slice an nn cn, .slice ac cls.length cc, .slice al levels.length cl, .int .i64 code, .int .i64 env]), (b, 31, #[.int .i64 4, .slice none 0 0, vp, vn, .slice none 0 0, .slice none 0 0, .int .i64 0, .int .i64 0])]) from heldC_cons (heldC_cons ⟨BW.out, (fun _ h => by cases h)⟩ KB.out) KA.out)
        have KRW := KR
        go_upto_region 11 with (fail)
        clear a0 a1 a2 a3 a4 a5 a6 a7
        refine run_region (ops := (opsOf Try.f43 11)) (S := fun w' => HeldC w w' ([(w.heap.size, 31, #[.int .i64 4, .slice ai items.length ci, .slice (some ⟨bp, offp, none⟩) n cp, .slice an nn cn, .slice ac cls.length cc, .slice al levels.length cl, .int .i64 code, .int .i64 env]), (b, 31, #[.int .i64 4, .slice none 0 0, vp, vn, .slice none 0 0, .slice none 0 0, .int .i64 0, .int .i64 0])])) [(0, true), (1, true), (2, true), (3, true), (4, true), (5, true), (6, true), (7, false), (8, false), (9, false), (10, true), (11, false)] (by kernel_rfl) (by kernel_rfl) (by kernel_rfl) (by kernel_rfl) (by kernel_rfl) (fun _ _ _ _ _ h => h) (heldC_drew H.out) ?_
        have H := Lib.hid (heldC_drew H.out)
        have U := Lib.hid (U.out.keep (below_drew' (Below.refl _ _)))
        refine runC_partV (b := b) (by kernel_rfl) (show opAt (opsOf Try.f43 11) 0 = some (some 48, .fieldAddr 31 (.tmp 5) 2, none) from by kernel_rfl) (by kernel_rfl) (by kernel_rfl) (by kernel_rfl) ?_
        refine runC_cell (b := b) (j := 2) (v := vp) load_vecs (show opAt (opsOf Try.f43 11) 1 = some (some 49, .load 29 (.tmp 48), none) from by kernel_rfl) (by kernel_rfl) (by kernel_rfl) (by kernel_rfl) (List.Mem.tail _ (List.Mem.head _)) rfl ?_
        refine runC_partV (b := w.heap.size) (by kernel_rfl) (show opAt (opsOf Try.f43 11) 2 = some (some 50, .fieldAddr 31 (.tmp 2) 2, none) from by kernel_rfl) (by kernel_rfl) (by kernel_rfl) (by kernel_rfl) ?_
        refine runC_cell (b := w.heap.size) (j := 2) (v := .slice (some ⟨bp, offp, none⟩) n cp) load_vecs (show opAt (opsOf Try.f43 11) 3 = some (some 51, .load 29 (.tmp 50), none) from by kernel_rfl) (by kernel_rfl) (by kernel_rfl) (by kernel_rfl) (List.Mem.head _) rfl ?_
        refine run_mov (v := .int .i64 ((q : Int))) (show opAt (opsOf Try.f43 11) 4 = some (some 52, .move (.tmp 7), none) from by kernel_rfl) (by kernel_rfl) (by kernel_rfl) (by kernel_rfl) ?_
        refine run_idx8 (n := n) (c := cp) (b := bp) (off := offp) (k := q) (show opAt (opsOf Try.f43 11) 5 = some (some 53, .indexAddr 29 (.tmp 51) (.tmp 52), none) from by kernel_rfl) (by kernel_rfl) (by kernel_rfl) (by kernel_rfl) (by kernel_rfl) hq ?_
        refine runC_oldV (b := bp) (j := offp + q * 8) (show opAt (opsOf Try.f43 11) 6 = some (some 54, .load 31 (.tmp 53), none) from by kernel_rfl) (by kernel_rfl) (by kernel_rfl) (by kernel_rfl) hbpw p0 p1 p2 p3 p4 p5 p6 p7 ?_
        refine run_call (args := [.agg #[u0, u1, u2, u3, u4, u5, u6, u7]]) (show opAt (opsOf Try.f43 11) 7 = some (some 55, .call { callee := .value (.func 84), args := [(.tmp 54)].toArray, argTypes := [31].toArray }, none) from by kernel_rfl) (by kernel_rfl) (by kernel_rfl) (by kernel_rfl) (by kernel_rfl) ?_
        refine (CC.out _ H.out.1).mono ?_
        have HLO := Lib.hid (Nat.succ_le_of_lt (Array.getElem?_eq_some_iff.1 (heldC_at H.out (List.Mem.tail _ (List.Mem.head _)))).1)
        rintro en rv1 ⟨y, rfl, ho, hb⟩
        obtain ⟨yk, ya1, yn1, ym1, ya2, yn2, ym2, ya3, yn3, ym3, ya4, yn4, ym4, ya5, yn5, ym5, yc, ye, rfl⟩ := ho.agg
        refine ⟨_, rfl, heldC_call H.out hb, ?_⟩
        have HO := Lib.hid ho
        have H := Lib.hid (heldC_call H.out hb)
        have HB := Lib.hid hb
        have KRW := Lib.hid (blk_below hb KRW.out)
        obtain ⟨vals, Fs, v1, v2, v3, v4, v5⟩ := (U.out.below hb).p.ex
        clear ho hb
        refine tail_vec3 (c0 := .int .i64 yk) (c1 := .slice ya1 yn1 ym1) (c2 := .slice ya2 yn2 ym2) (c3 := .slice ya3 yn3 ym3) (c4 := .slice ya4 yn4 ym4) (c5 := .slice ya5 yn5 ym5) (c6 := .int .i64 yc) (c7 := .int .i64 ye) (by intro u hu; simp only [List.mem_cons, List.not_mem_nil, or_false] at hu; rcases hu with rfl | rfl | rfl | rfl | rfl | rfl | rfl | rfl <;> rfl) (show opAt (opsOf Try.f43 11) 8 = some (some 56, .buildSlice 29 1 #[(0, (.tmp 55))], none) from by kernel_rfl) (by kernel_rfl) (by kernel_rfl) (show opAt (opsOf Try.f43 11) 9 = some (some 57, .call { callee := .builtin .append, args := [(.tmp 49), (.tmp 56)].toArray, argTypes := [29, 29].toArray }, none) from by kernel_rfl) (by kernel_rfl) (fun _ => by kernel_rfl) (show opAt (opsOf Try.f43 11) 10 = some (some 58, .fieldAddr 31 (.tmp 5) 2, none) from by kernel_rfl) (by kernel_rfl) (by kernel_rfl) (fun _ _ => by kernel_rfl) (show opAt (opsOf Try.f43 11) 11 = some (none, .store 29 (.tmp 58) (.tmp 57), none) from by kernel_rfl) (by kernel_rfl) (by kernel_rfl) H.out v3 LN.out (Nat.succ_le_of_lt (Array.getElem?_eq_some_iff.1 (heldC_at H.out (List.Mem.tail _ (List.Mem.head _)))).1) W0.out (List.Mem.tail _ (List.Mem.head _)) rfl (Nat.lt_succ_self _) B0'.out (fun q hq => far_two FAR.out (Nat.lt_succ_of_lt hbw) (Nat.lt_succ_self _) hq) ?_
        rintro v' w2 ⟨sa, sn, sc2, rfl⟩ hK hO hB hZ hR hG
        simp only [putAll, Act.put, List.setIfInBounds_toArray, List.set_cons_zero, List.set_cons_succ]
        have KA1 := heldC_at H.out (List.Mem.head _)
        have hwa := (Array.getElem?_eq_some_iff.1 KA1).1
        have hKR := (Array.getElem?_eq_some_iff.1 KRW.out).1
        obtain ⟨X2, hu2⟩ := U.out.snocP HB.out v1 v2 v4 v5 HO.out hO hR (fun g hlo hg hne => hG g hg (by omega) hne) hZ HLO.out
        have U := Lib.hid hu2
        have KA := Lib.hid (show w2.heap[w.heap.size]? = some (.cells #[.int .i64 4, .slice ai items.length ci, .slice (some ⟨bp, offp, none⟩) n cp, .slice an nn cn, .slice ac cls.length cc, .slice al levels.length cl, .int .i64 code, .int .i64 env] 31 (0, 0)) from (hG _ hwa (by omega) (fun e => by have := FAR.out _ e; omega)).trans KA1)
        have KR := Lib.hid (show w2.heap[w.heap.size + 1]? = some (.cells #[.int .i64 0, .slice none 0 0, .slice none 0 0, .slice none 0 0, .slice none 0 0, .slice none 0 0, .int .i64 0, .int .i64 0] 31 (0, 0)) from (hG _ hKR (by omega) (fun e => by have := FAR.out _ e; omega)).trans KRW.out)
        have KB := Lib.hid (show w2.heap[b]? = some (.cells #[.int .i64 4, .slice none 0 0, .slice sa sn sc2, vn, .slice none 0 0, .slice none 0 0, .int .i64 0, .int .i64 0] 31 (0, 0)) from hK)
        have BW := Lib.hid hB
        clear hu2 hK hO hB hR hG hZ H FAR LN KA1 hKR hwa v1 v2 v3 v4 v5 HO HB HLO
        obtain ⟨a0, a1, a2, a3, a4, a5, a6, a7⟩ := vec8 KA.out
        go_wp2
        go_roundw
        case rel => first | exact ⟨k + 1, _, vn, X2, by omega, by go_num, BW.out, KA.out, KR.out, KB.out, by rw [NXI.out, e0]; rw [e1] at U; exact U.out⟩ | ((repeat apply Exists.intro); exact ⟨⟨k + 1, _, vn, X2, by omega, by go_num, BW.out, KA.out, KR.out, KB.out, by rw [NXI.out, e0]; rw [e1] at U; exact U.out⟩, rfl⟩)
        case measure => simp [intOf]; omega
      · have hqn : q < nn := by have := hnm h0; omega
        have hn0 : 0 < (nn : Int) := by omega
        have NXN := Lib.hid (PNk.out h0)
        obtain ⟨bn, offn, rfl, hbN, cn0⟩ := AN.out q w hqn (Below.refl _ _)
        have hbnw : bn < w.heap.size := Nat.lt_of_lt_of_le hbN hhi
        obtain ⟨s, hs⟩ : ∃ s, names.getD q ⟨#[]⟩ = s := ⟨_, rfl⟩
        rw [hs] at cn0 NXN
        clear hs
        have LN := Lib.hid (show (pkL noV parts (idx.take k)).length ≤ 1048576 by have := LI.out k; omega)
        have FAR := Lib.hid U.out.pb.2
        have H := Lib.hid (show HeldC w wl ([(w.heap.size, 31, #[.int .i64 4, .slice ai items.length ci, .slice (some ⟨bp, offp, none⟩) n cp, .slice (some ⟨bn, offn, none⟩) nn cn, .slice ac cls.length cc, .slice al levels.length cl, .int .i64 code, .int .i64 env]), (b, 31, #[.int .i64 4, .slice none 0 0, vp, vn, .slice none 0 0, .slice none 0 0, .int .i64 0, .int .i64 0])]) from heldC_cons (heldC_cons ⟨BW.out, (fun _ h => by cases h)⟩ KB.out) KA.out)
        have KRW := KR
        go_upto_region 11 with (fail)
        clear a0 a1 a2 a3 a4 a5 a6 a7
        refine run_region (ops := (opsOf Try.f43 11)) (S := fun w' => HeldC w w' ([(w.heap.size, 31, #[.int .i64 4, .slice ai items.length ci, .slice (some ⟨bp, offp, none⟩) n cp, .slice (some ⟨bn, offn, none⟩) nn cn, .slice ac cls.length cc, .slice al levels.length cl, .int .i64 code, .int .i64 env]), (b, 31, #[.int .i64 4, .slice none 0 0, vp, vn, .slice none 0 0, .slice none 0 0, .int .i64 0, .int .i64 0])])) [(0, true), (1, true), (2, true), (3, true), (4, true), (5, true), (6, true), (7, false), (8, false), (9, false), (10, true), (11, false)] (by kernel_rfl) (by kernel_rfl) (by kernel_rfl) (by kernel_rfl) (by kernel_rfl) (fun _ _ _ _ _ h => h) (heldC_drew H.out) ?_
        have H := Lib.hid (heldC_drew H.out)
        have U := Lib.hid (U.out.keep (below_drew' (Below.refl _ _)))
        refine runC_partV (b := b) (by kernel_rfl) (show opAt (opsOf Try.f43 11) 0 = some (some 48, .fieldAddr 31 (.tmp 5) 2, none) from by kernel_rfl) (by kernel_rfl) (by kernel_rfl) (by kernel_rfl) ?_
        refine runC_cell (b := b) (j := 2) (v := vp) load_vecs (show opAt (opsOf Try.f43 11) 1 = some (some 49, .load 29 (.tmp 48), none) from by kernel_rfl) (by kernel_rfl) (by kernel_rfl) (by kernel_rfl) (List.Mem.tail _ (List.Mem.head _)) rfl ?_
        refine runC_partV (b := w.heap.size) (by kernel_rfl) (show opAt (opsOf Try.f43 11) 2 = some (some 50, .fieldAddr 31 (.tmp 2) 2, none) from by kernel_rfl) (by kernel_rfl) (by kernel_rfl) (by kernel_rfl) ?_
        refine runC_cell (b := w.heap.size) (j := 2) (v := .slice (some ⟨bp, offp, none⟩) n cp) load_vecs (show opAt (opsOf Try.f43 11) 3 = some (some 51, .load 29 (.tmp 50), none) from by kernel_rfl) (by kernel_rfl) (by kernel_rfl) (by kernel_rfl) (List.Mem.head _) rfl ?_
        refine run_mov (v := .int .i64 ((q : Int))) (show opAt (opsOf Try.f43 11) 4 = some (some 52, .move (.tmp 7), none) from by kernel_rfl) (by kernel_rfl) (by kernel_rfl) (by kernel_rfl) ?_
        refine run_idx8 (n := n) (c := cp) (b := bp) (off := offp) (k := q) (show opAt (opsOf Try.f43 11) 5 = some (some 53, .indexAddr 29 (.tmp 51) (.tmp 52), none) from by kernel_rfl) (by kernel_rfl) (by kernel_rfl) (by kernel_rfl) (by kernel_rfl) hq ?_
        refine runC_oldV (b := bp) (j := offp + q * 8) (show opAt (opsOf Try.f43 11) 6 = some (some 54, .load 31 (.tmp 53), none) from by kernel_rfl) (by kernel_rfl) (by kernel_rfl) (by kernel_rfl) hbpw p0 p1 p2 p3 p4 p5 p6 p7 ?_
        refine run_call (args := [.agg #[u0, u1, u2, u3, u4, u5, u6, u7]]) (show opAt (opsOf Try.f43 11) 7 = some (some 55, .call { callee := .value (.func 84), args := [(.tmp 54)].toArray, argTypes := [31].toArray }, none) from by kernel_rfl) (by kernel_rfl) (by kernel_rfl) (by kernel_rfl) (by kernel_rfl) ?_
        refine (CC.out _ H.out.1).mono ?_
        have HLO := Lib.hid (Nat.succ_le_of_lt (Array.getElem?_eq_some_iff.1 (heldC_at H.out (List.Mem.tail _ (List.Mem.head _)))).1)
        rintro en rv1 ⟨y, rfl, ho, hb⟩
        obtain ⟨yk, ya1, yn1, ym1, ya2, yn2, ym2, ya3, yn3, ym3, ya4, yn4, ym4, ya5, yn5, ym5, yc, ye, rfl⟩ := ho.agg
        refine ⟨_, rfl, heldC_call H.out hb, ?_⟩
        have HO := Lib.hid ho
        have H := Lib.hid (heldC_call H.out hb)
        have HB := Lib.hid hb
        have KRW := Lib.hid (blk_below hb KRW.out)
        obtain ⟨vals, Fs, v1, v2, v3, v4, v5⟩ := (U.out.below hb).p.ex
        clear ho hb
        refine tail_vec3 (c0 := .int .i64 yk) (c1 := .slice ya1 yn1 ym1) (c2 := .slice ya2 yn2 ym2) (c3 := .slice ya3 yn3 ym3) (c4 := .slice ya4 yn4 ym4) (c5 := .slice ya5 yn5 ym5) (c6 := .int .i64 yc) (c7 := .int .i64 ye) (by intro u hu; simp only [List.mem_cons, List.not_mem_nil, or_false] at hu; rcases hu with rfl | rfl | rfl | rfl | rfl | rfl | rfl | rfl <;> rfl) (show opAt (opsOf Try.f43 11) 8 = some (some 56, .buildSlice 29 1 #[(0, (.tmp 55))], none) from by kernel_rfl) (by kernel_rfl) (by kernel_rfl) (show opAt (opsOf Try.f43 11) 9 = some (some 57, .call { callee := .builtin .append, args := [(.tmp 49), (.tmp 56)].toArray, argTypes := [29, 29].toArray }, none) from by kernel_rfl) (by kernel_rfl) (fun _ => by kernel_rfl) (show opAt (opsOf Try.f43 11) 10 = some (some 58, .fieldAddr 31 (.tmp 5) 2, none) from by kernel_rfl) (by kernel_rfl) (by kernel_rfl) (fun _ _ => by kernel_rfl) (show opAt (opsOf Try.f43 11) 11 = some (none, .store 29 (.tmp 58) (.tmp 57), none) from by kernel_rfl) (by kernel_rfl) (by kernel_rfl) H.out v3 LN.out (Nat.succ_le_of_lt (Array.getElem?_eq_some_iff.1 (heldC_at H.out (List.Mem.tail _ (List.Mem.head _)))).1) W0.out (List.Mem.tail _ (List.Mem.head _)) rfl (Nat.lt_succ_self _) B0'.out (fun q hq => far_two FAR.out (Nat.lt_succ_of_lt hbw) (Nat.lt_succ_self _) hq) ?_
        rintro v' w2 ⟨sa, sn, sc2, rfl⟩ hK hO hB hZ hR hG
        simp only [putAll, Act.put, List.setIfInBounds_toArray, List.set_cons_zero, List.set_cons_succ]
        have KA1 := heldC_at H.out (List.Mem.head _)
        have hwa := (Array.getElem?_eq_some_iff.1 KA1).1
        have hKR := (Array.getElem?_eq_some_iff.1 KRW.out).1
        obtain ⟨X2, hu2⟩ := U.out.snocP HB.out v1 v2 v4 v5 HO.out hO hR (fun g hlo hg hne => hG g hg (by omega) hne) hZ HLO.out
        have U := Lib.hid hu2
        have KA := Lib.hid (show w2.heap[w.heap.size]? = some (.cells #[.int .i64 4, .slice ai items.length ci, .slice (some ⟨bp, offp, none⟩) n cp, .slice (some ⟨bn, offn, none⟩) nn cn, .slice ac cls.length cc, .slice al levels.length cl, .int .i64 code, .int .i64 env] 31 (0, 0)) from (hG _ hwa (by omega) (fun e => by have := FAR.out _ e; omega)).trans KA1)
        have KR := Lib.hid (show w2.heap[w.heap.size + 1]? = some (.cells #[.int .i64 0, .slice none 0 0, .slice none 0 0, .slice none 0 0, .slice none 0 0, .slice none 0 0, .int .i64 0, .int .i64 0] 31 (0, 0)) from (hG _ hKR (by omega) (fun e => by have := FAR.out _ e; omega)).trans KRW.out)
        have KB := Lib.hid (show w2.heap[b]? = some (.cells #[.int .i64 4, .slice none 0 0, .slice sa sn sc2, vn, .slice none 0 0, .slice none 0 0, .int .i64 0, .int .i64 0] 31 (0, 0)) from hK)
        have BW := Lib.hid hB
        clear hu2 hK hO hB hR hG hZ H FAR LN KA1 hKR hwa v1 v2 v3 v4 v5 HO HB HLO
        obtain ⟨a0, a1, a2, a3, a4, a5, a6, a7⟩ := vec8 KA.out
        have LN := Lib.hid (show (pkL ⟨#[]⟩ names (idx.take k)).length ≤ 1048576 by have := LM.out k; omega)
        have FAR := Lib.hid (fun g hg => (U.out.n.lt g hg).1)
        have H := Lib.hid (show HeldC w w2 ([(w.heap.size, 31, #[.int .i64 4, .slice ai items.length ci, .slice (some ⟨bp, offp, none⟩) n cp, .slice (some ⟨bn, offn, none⟩) nn cn, .slice ac cls.length cc, .slice al levels.length cl, .int .i64 code, .int .i64 env]), (b, 31, #[.int .i64 4, .slice none 0 0, .slice sa sn sc2, vn, .slice none 0 0, .slice none 0 0, .int .i64 0, .int .i64 0])]) from heldC_cons (heldC_cons ⟨BW.out, (fun _ h => by cases h)⟩ KB.out) KA.out)
        have hKR := (Array.getElem?_eq_some_iff.1 KR.out).1
        have KRW := KR
        go_upto_region 18 with (fail)
        clear a0 a1 a2 a3 a4 a5 a6 a7
        refine run_region (ops := (opsOf Try.f43 18)) (S := fun w' => HeldC w w' ([(w.heap.size, 31, #[.int .i64 4, .slice ai items.length ci, .slice (some ⟨bp, offp, none⟩) n cp, .slice (some ⟨bn, offn, none⟩) nn cn, .slice ac cls.length cc, .slice al levels.length cl, .int .i64 code, .int .i64 env]), (b, 31, #[.int .i64 4, .slice none 0 0, (.slice sa sn sc2), vn, .slice none 0 0, .slice none 0 0, .int .i64 0, .int .i64 0])])) [(0, true), (1, true), (2, true), (3, true), (4, true), (5, true), (6, true), (7, false), (8, false), (9, true), (10, false)] (by kernel_rfl) (by kernel_rfl) (by kernel_rfl) (by kernel_rfl) (by kernel_rfl) (fun _ _ _ _ _ h => h) (heldC_drew H.out) ?_
        have H := Lib.hid (heldC_drew H.out)
        have U := Lib.hid (U.out.keep (below_drew' (Below.refl _ _)))
        refine runC_partV (b := b) (by kernel_rfl) (show opAt (opsOf Try.f43 18) 0 = some (some 92, .fieldAddr 31 (.tmp 5) 3, none) from by kernel_rfl) (by kernel_rfl) (by kernel_rfl) (by kernel_rfl) ?_
        refine runC_cell (b := b) (j := 3) (v := vn) load_strs (show opAt (opsOf Try.f43 18) 1 = some (some 93, .load 24 (.tmp 92), none) from by kernel_rfl) (by kernel_rfl) (by kernel_rfl) (by kernel_rfl) (List.Mem.tail _ (List.Mem.head _)) rfl ?_
        refine runC_partV (b := w.heap.size) (by kernel_rfl) (show opAt (opsOf Try.f43 18) 2 = some (some 94, .fieldAddr 31 (.tmp 2) 3, none) from by kernel_rfl) (by kernel_rfl) (by kernel_rfl) (by kernel_rfl) ?_
        refine runC_cell (b := w.heap.size) (j := 3) (v := .slice (some ⟨bn, offn, none⟩) nn cn) load_strs (show opAt (opsOf Try.f43 18) 3 = some (some 95, .load 24 (.tmp 94), none) from by kernel_rfl) (by kernel_rfl) (by kernel_rfl) (by kernel_rfl) (List.Mem.head _) rfl ?_
        refine run_mov (v := .int .i64 ((q : Int))) (show opAt (opsOf Try.f43 18) 4 = some (some 96, .move (.tmp 7), none) from by kernel_rfl) (by kernel_rfl) (by kernel_rfl) (by kernel_rfl) ?_
        refine run_idx1 (n := nn) (c := cn) (b := bn) (off := offn) (k := q) (show opAt (opsOf Try.f43 18) 5 = some (some 97, .indexAddr 24 (.tmp 95) (.tmp 96), none) from by kernel_rfl) (by kernel_rfl) (by kernel_rfl) (by kernel_rfl) (by kernel_rfl) hqn Try.underlying24 (by kernel_rfl) infoStr ?_
        refine runC_old (b := bn) (j := offn + q) (v := .string s) load_text (show opAt (opsOf Try.f43 18) 6 = some (some 98, .load 9 (.tmp 97), none) from by kernel_rfl) (by kernel_rfl) (by kernel_rfl) (by kernel_rfl) hbnw cn0 ?_
        refine tail_txs3 s (show opAt (opsOf Try.f43 18) 7 = some (some 99, .buildSlice 24 1 #[(0, (.tmp 98))], none) from by kernel_rfl) (by kernel_rfl) (by kernel_rfl) (show opAt (opsOf Try.f43 18) 8 = some (some 100, .call { callee := .builtin .append, args := [(.tmp 93), (.tmp 99)].toArray, argTypes := [24, 24].toArray }, none) from by kernel_rfl) (by kernel_rfl) (fun _ => by kernel_rfl) (show opAt (opsOf Try.f43 18) 9 = some (some 101, .fieldAddr 31 (.tmp 5) 3, none) from by kernel_rfl) (by kernel_rfl) (by kernel_rfl) (fun _ _ => by kernel_rfl) (show opAt (opsOf Try.f43 18) 10 = some (none, .store 24 (.tmp 101) (.tmp 100), none) from by kernel_rfl) (by kernel_rfl) (by kernel_rfl) H.out U.out.n LN.out (Nat.succ_le_of_lt (Array.getElem?_eq_some_iff.1 (heldC_at H.out (List.Mem.tail _ (List.Mem.head _)))).1) W0.out (List.Mem.tail _ (List.Mem.head _)) rfl (Nat.lt_succ_self _) B0'.out (fun q hq => far_two FAR.out (Nat.lt_succ_of_lt hbw) (Nat.lt_succ_self _) hq) ?_
        rintro v' w3 ⟨sa3, sn3, sc3, rfl⟩ hK hO hB hZ hR hG
        simp only [putAll, Act.put, List.setIfInBounds_toArray, List.set_cons_zero, List.set_cons_succ]
        have KA1 := heldC_at H.out (List.Mem.head _)
        have hwa := (Array.getElem?_eq_some_iff.1 KA1).1
        have U := Lib.hid (U.out.setN hO hR (fun g hlo hg hne => hG g hg (by omega) hne) hZ)
        have KA := Lib.hid (show w3.heap[w.heap.size]? = some (.cells #[.int .i64 4, .slice ai items.length ci, .slice (some ⟨bp, offp, none⟩) n cp, .slice (some ⟨bn, offn, none⟩) nn cn, .slice ac cls.length cc, .slice al levels.length cl, .int .i64 code, .int .i64 env] 31 (0, 0)) from (hG _ hwa (by omega) (fun e => by have := FAR.out _ e; omega)).trans KA1)
        have KR := Lib.hid (show w3.heap[w.heap.size + 1]? = some (.cells #[.int .i64 0, .slice none 0 0, .slice none 0 0, .slice none 0 0, .slice none 0 0, .slice none 0 0, .int .i64 0, .int .i64 0] 31 (0, 0)) from (hG _ hKR (by omega) (fun e => by have := FAR.out _ e; omega)).trans KRW.out)
        have KB := Lib.hid (show w3.heap[b]? = some (.cells #[.int .i64 4, .slice none 0 0, .slice sa sn sc2, .slice sa3 sn3 sc3, .slice none 0 0, .slice none 0 0, .int .i64 0, .int .i64 0] 31 (0, 0)) from hK)
        have BW := Lib.hid hB
        clear hK hO hB hR hG hZ H FAR LN KA1 hwa
        go_wp2
        go_roundw
        case rel => first | exact ⟨k + 1, _, _, X2, by omega, by go_num, BW.out, KA.out, KR.out, KB.out, by rw [NXI.out, NXN.out]; exact U.out⟩ | ((repeat apply Exists.intro); exact ⟨⟨k + 1, _, _, X2, by omega, by go_num, BW.out, KA.out, KR.out, KB.out, by rw [NXI.out, NXN.out]; exact U.out⟩, rfl⟩)
        case measure => simp [intOf]; omega
    · obtain rfl : k = m := by omega
      obtain ⟨xs, hxs⟩ := U.out.p.row
      obtain ⟨sp, qp, rfl⟩ := row_form hxs
      obtain ⟨sn, qn, Fn, rfl, hot, _, hrt, _⟩ := txs_of_row U.out.n
      have CLN := Lib.hid (fun (W : World) (hb : Below wr.heap.size wr W) => specCleanN 4 0 0 none sp sn none none 0 0 (pkL noV parts (idx.take k)).length qp qn 0 0 0 0 (pkL ⟨#[]⟩ names (idx.take k)) (b + 1) wr.heap.size W ((hot.at_ hrt).below hb (Nat.le_refl _)) hb.size (Nat.le_trans (LM.out k) hn))
      clear hot hrt hxs
      obtain ⟨k0, k1, k2, k3, k4, k5, k6, k7⟩ := vec8 KB.out
      have hKR := (Array.getElem?_eq_some_iff.1 KR.out).1
      go_wp2_with fail
      refine (CLN.out _ (Below.refl _ _)).mono ?_
      rintro e w5 ⟨b', hor⟩
      have BW := Lib.hid (below_then BW.out b')
      have KR := Lib.hid (blk_below b' KR.out)
      have O := Lib.hid ((U.out.below b').own 4)
      have hL1 : w.heap.size + 1 < b + 1 := by omega
      clear b' k0 k1 k2 k3 k4 k5 k6 k7
      obtain ⟨z0, z1, z2, z3, z4, z5, z6, z7⟩ := vec8 KR.out
      obtain ⟨f0, f1, f2, f3, f4, f5, f6, f7⟩ := free8 KR.out
      rcases hor with ⟨hex, rfl⟩ | ⟨hem, g, hg, rfl⟩
      · have EN := Lib.hid (clnN_yes (l := pkL ⟨#[]⟩ names (idx.take k)) (by obtain ⟨i, h1, h2⟩ := hex; exact ⟨i, h1, fun h => h2 (empty_of_size h)⟩))
        rw [EN.out] at EV
        rw [← EV.out] at O
        clear EV EN hex
        go_wp2
        exact vec_end rfl rfl rfl KR.out ⟨_, rfl, (O.out.put8 hL1 _ _ _ _ _ _ _ _).wide (by omega) (by rw [put8_size]; exact Nat.le_refl _), put8_below BW.out (Nat.le_succ _)⟩
      · have EN := Lib.hid (clnN_no (l := pkL ⟨#[]⟩ names (idx.take k)) (fun ⟨i, h1, h2⟩ => h2 (show (txtS _ i).size = 0 by rw [hem i h1]; rfl)))
        rw [EN.out] at EV
        have O := Lib.hid (O.out.noNames (some ⟨g, 0, none⟩) 0)
        rw [← EV.out] at O
        clear EV EN hem hg
        go_wp2
        exact vec_end rfl rfl rfl KR.out ⟨_, rfl, (O.out.put8 hL1 _ _ _ _ _ _ _ _).wide (by omega) (by rw [put8_size]; exact Nat.le_refl _), put8_below BW.out (Nat.le_succ _)⟩
end Go.Proofs.Ytfbpbpbmnieieaa

/- DuplicatedIn on both sides. -/
namespace Go.Proofs.Ytfbpbpbmnieieaa
open Go.RowKit
set_option maxRecDepth 100000
set_option linter.unusedVariables false

noncomputable def dupZ (l : List It) (i : Nat) : Int := match bB (DupAt l i) with | true => 1 | false => 0
/-- Which elements are duplicates. -/
noncomputable def dupV (v : Vec) : Vec := match bB (atmS v = ⟨#[]⟩) with | true => mkN 1 (itF (fun i => logI (dupZ (itemsV v) i)) (itemsV v).length) [] | false => noV
theorem dupV_yes {v : Vec} (h : atmS v = ⟨#[]⟩) : dupV v = mkN 1 (itF (fun i => logI (dupZ (itemsV v) i)) (itemsV v).length) [] := by unfold dupV; rw [bB_yes h]
theorem dupV_no {v : Vec} (h : ¬ atmS v = ⟨#[]⟩) : dupV v = noV := by unfold dupV; rw [bB_no h]
theorem atm_len {v : Vec} (h : atmS v = ⟨#[]⟩) : (itemsV v).length ≤ 40 := by
  obtain ⟨h1, h2⟩ := atmS_iff.1 h
  obtain ⟨k, items, parts, names, cls, levels, code, env⟩ := v
  have hf : FlatOk k items parts.length names cls levels code env := h1.1.flat
  have h3 := hf.h_len
  have h4 : k ≤ 3 := h2
  unfold lenV at h3
  rw [if_neg (by omega)] at h3
  show items.length ≤ 40
  omega
/-- The argument's block beside those of a loop that appends. -/
theorem AppN.far1 {w wr : World} {r b : Nat} {kind : Int} {l : List It} {sa : Option Addr} {sn sc : Nat} {names : List ByteArray} {na : Option Addr} {nc : Nat} {F : List Nat} (h : AppN w wr r b kind l sa sn sc names na nc F) {g : Nat} (hg : g ≤ b) {t : TypeId} {C C1 C2 : Array Value} {q : Nat × TypeId × Array Value} (hq : q ∈ [(g, t, C), (r, 31, C1), (b, 31, C2)]) : ∀ k, (Value.slice sa sn sc).ownBlock = some k → q.1 ≠ k := by
  intro k hk e
  have h1 := h.row.lt k hk
  have h2 := h.o2
  simp only [List.mem_cons, List.not_mem_nil, or_false] at hq
  rcases hq with rfl | rfl | rfl <;> (simp only at e; omega)
set_option maxHeartbeats 4000000 in
theorem implDup (d : Nat) (v : Vec) (val : Value) (lo hi : Nat) (w : World) (hv : VecAt lo hi w d v val) (hhi : hi ≤ w.heap.size) (hsm : Small d v) :
    Calls Try.prog 30 #[val] w (ResVS 1 (dupV v) (atmS v) w) := by
  obtain ⟨VV, hVV⟩ : ∃ V, v = V := ⟨_, rfl⟩
  rw [hVV]
  obtain ⟨kk, items, parts, names, cls, levels, code, env⟩ := v
  obtain ⟨d', ai, ci, ap, cp, an, cn, ac, cc, al, cl, ed, rfl, hI, hN, hC, hL, hP, hcap⟩ := vecAt_openC hv
  have C1 := Lib.hid (fun (w1 : World) (hb : Below w.heap.size w w1) (g : Nat) (hg : w1.heap[g]? = some (.cells #[.int .i64 kk, .slice ai items.length ci, .slice ap parts.length cp, .slice an names.length cn, .slice ac cls.length cc, .slice al levels.length cl, .int .i64 code, .int .i64 env] 31 (0, 0))) => (hVV ▸ implAtm1 d kk items parts names cls levels code env ai ap an ac al ci cp cn cc cl g lo hi w1 (hv.below hb hhi) (Nat.le_trans hhi hb.size) hsm hg : Calls Try.prog 66 #[.slice (some ⟨g, 0, none⟩) 1 1] w1 (fun e w' => e = .returned (.string (atmS VV)) ∧ Below w1.heap.size w1 w')))
  have li : items.length ≤ 1048576 := by subst ed; exact hsm.1
  have hic : items.length ≤ ci := hcap.1
  have CD := Lib.hid (fun (k : Nat) (hk : k < items.length) (w1 : World) (hb : Below w.heap.size w w1) => implIsDup items k ai ci lo hi w1 (hI.below hb hhi) (Nat.le_trans hhi hb.size) li hic hk)
  have CT := Lib.hid (fun (k : Nat) (W : World) => (implTruthItem (bB (DupAt items k)) W : Calls Try.prog 67 #[.bool (bB (DupAt items k))] W (fun e w' => e = .returned (.agg #[.int .i64 (logI (dupZ items k)).n, .int .i64 (logI (dupZ items k)).d, .string (logI (dupZ items k)).t]) ∧ Below W.heap.size W w')))
  have XV := Lib.hid (fun (h : atmS VV = ⟨#[]⟩) => (by have e := dupV_yes h; rw [← hVV] at e ⊢; exact e : dupV VV = mkN 1 (itF (fun i => logI (dupZ items i)) items.length) []))
  have XL := Lib.hid (fun (h : atmS VV = ⟨#[]⟩) => (by have e := atm_len h; rw [← hVV] at e; exact e : items.length ≤ 40))
  obtain ⟨n, hn⟩ : ∃ n, items.length = n := ⟨_, rfl⟩
  rw [hn] at C1 CD XV XL li hic ⊢
  clear hv hI hN hC hL hP hsm ed hVV hcap hn
  go_enter Try.func30, Try.ntmps30
  go_wp2_with fail
  obtain ⟨w1, hw1⟩ : ∃ W, ((w.alloc (.cells #[.int .i64 kk, .slice ai n ci, .slice ap parts.length cp, .slice an names.length cn, .slice ac cls.length cc, .slice al levels.length cl, .int .i64 code, .int .i64 env] 31)).alloc (.cells #[.int .i64 0, .slice none 0 0, .slice none 0 0, .slice none 0 0, .slice none 0 0, .slice none 0 0, .int .i64 0, .int .i64 0] 31)).alloc (.cells #[.int .i64 kk, .slice ai n ci, .slice ap parts.length cp, .slice an names.length cn, .slice ac cls.length cc, .slice al levels.length cl, .int .i64 code, .int .i64 env] 31) = W := ⟨_, rfl⟩
  have hsz : (w.alloc (.cells #[.int .i64 kk, .slice ai n ci, .slice ap parts.length cp, .slice an names.length cn, .slice ac cls.length cc, .slice al levels.length cl, .int .i64 code, .int .i64 env] 31)).heap.size = w.heap.size + 1 := by simp
  have hsz2 : ((w.alloc (.cells #[.int .i64 kk, .slice ai n ci, .slice ap parts.length cp, .slice an names.length cn, .slice ac cls.length cc, .slice al levels.length cl, .int .i64 code, .int .i64 env] 31)).alloc (.cells #[.int .i64 0, .slice none 0 0, .slice none 0 0, .slice none 0 0, .slice none 0 0, .slice none 0 0, .int .i64 0, .int .i64 0] 31)).heap.size = w.heap.size + 1 + 1 := by simp
  have B1 := Lib.hid (show Below w.heap.size w w1 from hw1 ▸ ((below1 w _).alloc (by simp) _).alloc (by simp; omega) _)
  have KA := Lib.hid (show w1.heap[w.heap.size]? = some (.cells #[.int .i64 kk, .slice ai n ci, .slice ap parts.length cp, .slice an names.length cn, .slice ac cls.length cc, .slice al levels.length cl, .int .i64 code, .int .i64 env] 31 (0, 0)) from hw1 ▸ blk_old (blk_old (blk_new w _ rfl)))
  have KR := Lib.hid (show w1.heap[w.heap.size + 1]? = some (.cells #[.int .i64 0, .slice none 0 0, .slice none 0 0, .slice none 0 0, .slice none 0 0, .slice none 0 0, .int .i64 0, .int .i64 0] 31 (0, 0)) from hw1 ▸ blk_old (hsz ▸ blk_new (w.alloc (.cells #[.int .i64 kk, .slice ai n ci, .slice ap parts.length cp, .slice an names.length cn, .slice ac cls.length cc, .slice al levels.length cl, .int .i64 code, .int .i64 env] 31)) (.cells #[.int .i64 0, .slice none 0 0, .slice none 0 0, .slice none 0 0, .slice none 0 0, .slice none 0 0, .int .i64 0, .int .i64 0] 31) rfl))
  have KL := Lib.hid (show w1.heap[w.heap.size + 1 + 1]? = some (.cells #[.int .i64 kk, .slice ai n ci, .slice ap parts.length cp, .slice an names.length cn, .slice ac cls.length cc, .slice al levels.length cl, .int .i64 code, .int .i64 env] 31 (0, 0)) from hw1 ▸ hsz2 ▸ blk_new ((w.alloc (.cells #[.int .i64 kk, .slice ai n ci, .slice ap parts.length cp, .slice an names.length cn, .slice ac cls.length cc, .slice al levels.length cl, .int .i64 code, .int .i64 env] 31)).alloc (.cells #[.int .i64 0, .slice none 0 0, .slice none 0 0, .slice none 0 0, .slice none 0 0, .slice none 0 0, .int .i64 0, .int .i64 0] 31)) (.cells #[.int .i64 kk, .slice ai n ci, .slice ap parts.length cp, .slice an names.length cn, .slice ac cls.length cc, .slice al levels.length cl, .int .i64 code, .int .i64 env] 31) rfl)
  rw [hw1]
  clear hw1 hsz hsz2
  refine (C1.out _ B1.out _ KL.out).mono ?_
  rintro e w2 ⟨rfl, b⟩
  have B2 := Lib.hid (below_then B1.out b)
  have KA := Lib.hid (blk_below b KA.out)
  have KR := Lib.hid (blk_below b KR.out)
  clear b KL
  by_cases hs : atmS VV = ⟨#[]⟩
  · have XV1 := Lib.hid (XV.out hs)
    have XS1 := Lib.hid hs
    have hl := XL.out hs
    rw [hs]
    have hltR := (Array.getElem?_eq_some_iff.1 KR.out).1
    have hltA := (Array.getElem?_eq_some_iff.1 KA.out).1
    have ST := Lib.hid (show AppN w (w2.alloc (.cells #[.int .i64 1, .slice none 0 0, .slice none 0 0, .slice none 0 0, .slice none 0 0, .slice none 0 0, .int .i64 0, .int .i64 0] 31)) (w.heap.size + 1) w2.heap.size 1 (itF (fun i => logI (dupZ items i)) 0) none 0 0 [] none 0 [] from
      ⟨blk_old KR.out, blk_new w2 _ rfl, ⟨rfl, .inl ⟨rfl, rfl⟩⟩, .inl ⟨rfl, rfl⟩, Nat.le_refl _, List.nodup_nil, (fun g hg => by cases hg), B2.out.alloc B2.out.size _, by omega, hltR⟩)
    have SK := Lib.hid (show (w2.alloc (.cells #[.int .i64 1, .slice none 0 0, .slice none 0 0, .slice none 0 0, .slice none 0 0, .slice none 0 0, .int .i64 0, .int .i64 0] 31)).heap[w.heap.size]? = some (.cells #[.int .i64 kk, .slice ai n ci, .slice ap parts.length cp, .slice an names.length cn, .slice ac cls.length cc, .slice al levels.length cl, .int .i64 code, .int .i64 env] 31 (0, 0)) from blk_old KA.out)
    obtain ⟨k0, k1, k2, k3, k4, k5, k6, k7⟩ := vec8 KA.out
    clear hs XV XL
    go_wp2
    clear k0 k1 k2 k3 k4 k5 k6 k7
    obtain ⟨b, hb⟩ : ∃ b, w2.heap.size = b := ⟨_, rfl⟩
    rw [hb] at ST hltR ⊢
    clear hb
    go_loopw [18] (fun i wr => ∃ (k : Nat) (sa : Option Addr) (sn sc : Nat), k ≤ n ∧ i = .int .i64 k ∧ AppN w wr (w.heap.size + 1) b 1 (itF (fun i => logI (dupZ items i)) k) sa sn sc [] none 0 [] ∧ wr.heap[w.heap.size]? = some (.cells #[.int .i64 kk, .slice ai n ci, .slice ap parts.length cp, .slice an names.length cn, .slice ac cls.length cc, .slice al levels.length cl, .int .i64 code, .int .i64 env] 31 (0, 0))) (fun i _ => n - (intOf i).toNat)
    case atStart => exact ⟨0, none, 0, 0, Nat.zero_le _, rfl, ST.out, SK.out⟩
    case round =>
      obtain ⟨k, sa, sn, sc, hk, rfl, hap, hka⟩ := hrel
      have AP := Lib.hid hap
      have KA := Lib.hid hka
      clear hap hka
      by_cases hlt : k < n
      · have CD := Lib.hid (fun w1 hb => CD.out k hlt w1 hb)
        have CT := Lib.hid (fun W => CT.out k W)
        have LN := Lib.hid (show (itF (fun i => logI (dupZ items i)) k).length ≤ 1048576 by rw [itF_len]; omega)
        have NX := Lib.hid (itF_succ (fun i => logI (dupZ items i)) k)
        have FAR := Lib.hid (fun C1 C2 C q hq => AP.out.far1 (g := w.heap.size) (t := 31) (C := C) (C1 := C1) (C2 := C2) (q := q) (by omega) hq)
        have W0 := Lib.hid (show w.heap.size ≤ b + 1 by omega)
        have B0' := Lib.hid (show w.heap.size ≤ b by omega)
        have H := Lib.hid (heldC_cons AP.out.heldC KA.out)
        clear XV1 XS1
        go_wp2
        refine run_region (ops := (opsOf Try.f30 8)) (S := fun w' => HeldC w w' ([(w.heap.size, 31, #[.int .i64 kk, .slice ai n ci, .slice ap parts.length cp, .slice an names.length cn, .slice ac cls.length cc, .slice al levels.length cl, .int .i64 code, .int .i64 env]), ((w.heap.size + 1), 31, #[.int .i64 0, .slice none 0 0, .slice none 0 0, .slice none 0 0, .slice none 0 0, .slice none 0 0, .int .i64 0, .int .i64 0]), (b, 31, #[.int .i64 1, .slice sa sn sc, .slice none 0 0, .slice none 0 0, .slice none 0 0, .slice none 0 0, .int .i64 0, .int .i64 0])])) [(0, true), (1, true), (2, true), (3, true), (4, true), (5, false), (6, false), (7, false), (8, false), (9, true), (10, false)] (by kernel_rfl) (by kernel_rfl) (by kernel_rfl) (by kernel_rfl) (by kernel_rfl) (fun _ _ _ _ _ h => h) (heldC_drew H.out) ?_
        have H := Lib.hid (heldC_drew H.out)
        have AP := Lib.hid (AP.out.keep (below_drew' (Below.refl _ _)))
        refine runC_partV (b := b) (by kernel_rfl) (show opAt (opsOf Try.f30 8) 0 = some (some 21, .fieldAddr 31 (.tmp 5) 1, none) from by kernel_rfl) (by kernel_rfl) (by kernel_rfl) (by kernel_rfl) ?_
        refine runC_cell (b := b) (j := 1) (v := .slice sa sn sc) load_its (show opAt (opsOf Try.f30 8) 1 = some (some 22, .load 28 (.tmp 21), none) from by kernel_rfl) (by kernel_rfl) (by kernel_rfl) (by kernel_rfl) (List.Mem.tail _ (List.Mem.tail _ (List.Mem.head _))) rfl ?_
        refine runC_partV (b := w.heap.size) (by kernel_rfl) (show opAt (opsOf Try.f30 8) 2 = some (some 23, .fieldAddr 31 (.tmp 1) 1, none) from by kernel_rfl) (by kernel_rfl) (by kernel_rfl) (by kernel_rfl) ?_
        refine runC_cell (b := w.heap.size) (j := 1) (v := .slice ai n ci) load_its (show opAt (opsOf Try.f30 8) 3 = some (some 24, .load 28 (.tmp 23), none) from by kernel_rfl) (by kernel_rfl) (by kernel_rfl) (by kernel_rfl) (List.Mem.head _) rfl ?_
        refine run_mov (v := .int .i64 ((k : Int))) (show opAt (opsOf Try.f30 8) 4 = some (some 25, .move (.tmp 6), none) from by kernel_rfl) (by kernel_rfl) (by kernel_rfl) (by kernel_rfl) ?_
        refine run_call (args := [.slice ai n ci, .int .i64 ((k : Int))]) (show opAt (opsOf Try.f30 8) 5 = some (some 26, .call { callee := .value (.func 68), args := [(.tmp 24), (.tmp 25)].toArray, argTypes := [28, 3].toArray }, none) from by kernel_rfl) (by kernel_rfl) (by kernel_rfl) (by kernel_rfl) (by kernel_rfl) ?_
        refine (CD.out _ H.out.1).mono ?_
        rintro en rw1 ⟨rfl, hb⟩
        refine ⟨_, rfl, heldC_call H.out hb, ?_⟩
        have H := Lib.hid (heldC_call H.out hb)
        have AP := Lib.hid (AP.out.keep hb)
        clear hb
        refine run_call (args := [.bool (bB (DupAt items k))]) (show opAt (opsOf Try.f30 8) 6 = some (some 27, .call { callee := .value (.func 67), args := [(.tmp 26)].toArray, argTypes := [4].toArray }, none) from by kernel_rfl) (by kernel_rfl) (by kernel_rfl) (by kernel_rfl) (by kernel_rfl) ?_
        refine (CT.out _).mono ?_
        rintro en rw2 ⟨rfl, hb⟩
        refine ⟨_, rfl, heldC_call H.out hb, ?_⟩
        have H := Lib.hid (heldC_call H.out hb)
        have AP := Lib.hid (AP.out.keep hb)
        clear hb
        refine tail_item2 (logI (dupZ items k)) (show opAt (opsOf Try.f30 8) 7 = some (some 28, .buildSlice 28 1 #[(0, (.tmp 27))], none) from by kernel_rfl) (by kernel_rfl) (by kernel_rfl) (show opAt (opsOf Try.f30 8) 8 = some (some 29, .call { callee := .builtin .append, args := [(.tmp 22), (.tmp 28)].toArray, argTypes := [28, 28].toArray }, none) from by kernel_rfl) (by kernel_rfl) (fun _ => by kernel_rfl) (show opAt (opsOf Try.f30 8) 9 = some (some 30, .fieldAddr 31 (.tmp 5) 1, none) from by kernel_rfl) (by kernel_rfl) (by kernel_rfl) (fun _ _ => by kernel_rfl) (show opAt (opsOf Try.f30 8) 10 = some (none, .store 28 (.tmp 30) (.tmp 29), none) from by kernel_rfl) (by kernel_rfl) (by kernel_rfl) H.out AP.out.row LN.out (Nat.succ_le_of_lt (Array.getElem?_eq_some_iff.1 (heldC_at H.out (List.Mem.tail _ (List.Mem.tail _ (List.Mem.head _))))).1) W0.out (List.Mem.tail _ (List.Mem.tail _ (List.Mem.head _))) rfl (Nat.lt_succ_self _) B0'.out (fun q hq => FAR.out _ _ _ q hq) ?_
        rintro v' w2 ⟨sa, sn, sc, rfl⟩ hK hO hB hZ hR hG
        simp only [putAll, Act.put, List.setIfInBounds_toArray, List.set_cons_zero, List.set_cons_succ]
        have AN := Lib.hid (AP.out.next hK hO hB (hR _ (List.Mem.tail _ (List.Mem.head _)) (by simp only; omega)) (fun g hg => by cases hg))
        have KA := Lib.hid (hR _ (List.Mem.head _) (by simp only; omega))
        clear hK hO hB hR hG H FAR LN
        go_wp2
        go_roundw
        case rel => exact ⟨k + 1, sa, sn, sc, by omega, by go_num, NX.out ▸ AN.out, KA.out⟩
        case measure => simp [intOf]; omega
      · obtain rfl : k = n := by omega
        have K1 := Lib.hid AP.out.vec
        have K0 := Lib.hid AP.out.res
        have FN := Lib.hid AP.out.fin
        obtain ⟨k0, k1, k2, k3, k4, k5, k6, k7⟩ := vec8 K1.out
        obtain ⟨z0, z1, z2, z3, z4, z5, z6, z7⟩ := vec8 K0.out
        obtain ⟨f0, f1, f2, f3, f4, f5, f6, f7⟩ := free8 K0.out
        go_wp2
        rw [XV1.out, XS1.out]
        exact vec_endS rfl rfl rfl rfl K0.out FN.out.withS
  · have XV1 := Lib.hid (dupV_no hs)
    obtain ⟨R, hR⟩ : ∃ R, atmS VV = R := ⟨_, rfl⟩
    have XS1 := Lib.hid hR
    rw [hR] at hs ⊢
    have hRb : (R.toList == []) = false := by have h := str_not hs; rw [ByteArray.toList_eq ⟨#[]⟩] at h; exact h
    clear hs hR
    obtain ⟨z0, z1, z2, z3, z4, z5, z6, z7⟩ := vec8 KR.out
    obtain ⟨f0, f1, f2, f3, f4, f5, f6, f7⟩ := free8 KR.out
    go_wp2
    rw [XV1.out, XS1.out]
    exact vec_endS rfl rfl rfl rfl KR.out (zeroS _ w _ (put8_below B2.out (Nat.le_succ _)))
theorem dupZ_min {l : List It} {k : Nat} {r : Int} (hk : k < l.length) (h : FirstIs l (l.getD k noI) r) : (if (k : Int) - r < 1 then (k : Int) - r else 1) = dupZ l k := by
  obtain ⟨h0, h1, h2⟩ := first_dup hk h
  unfold dupZ
  by_cases q : DupAt l k
  · rw [bB_yes q]
    have : r ≠ k := fun e => h2.1 e q
    rw [if_neg (by omega)]
  · rw [bB_no q]
    have := h2.2 q
    rw [if_pos (by omega)]
    show (k : Int) - r = 0
    omega
set_option maxHeartbeats 4000000 in
theorem specDup (d : Nat) (v : Vec) (val : Value) (lo hi : Nat) (w : World) (hv : VecAt lo hi w d v val) (hhi : hi ≤ w.heap.size) (hsm : Small d v) :
    Calls Try.prog 29 #[val] w (ResVS 1 (dupV v) (atmS v) w) := by
  have C1 := Lib.hid (fun (w1 : World) (hb : Below w.heap.size w w1) => specAtm d v val lo hi w1 (hv.below hb hhi) (Nat.le_trans hhi hb.size) hsm)
  obtain ⟨VV, hVV⟩ : ∃ V, v = V := ⟨_, rfl⟩
  rw [hVV] at C1 ⊢
  obtain ⟨kk, items, parts, names, cls, levels, code, env⟩ := v
  obtain ⟨d', ai, ci, ap, cp, an, cn, ac, cc, al, cl, ed, rfl, hI, hN, hC, hL, hP⟩ := vecAt_open hv
  have li : items.length ≤ 1048576 := by subst ed; exact hsm.1
  have AI := Lib.hid (fun (k : Nat) (w1 : World) (hk : k < items.length) (hb : Below w.heap.size w w1) => (hI.below hb hhi).at_ hk)
  have CF := Lib.hid (fun (x : It) (w1 : World) (hb : Below w.heap.size w w1) => specFirst items x ai ci lo hi w1 (hI.below hb hhi) (Nat.le_trans hhi hb.size) li)
  have FD := Lib.hid (fun (k : Nat) (hk : k < items.length) r (h : FirstIs items (items.getD k noI) r) => first_dup hk h)
  have DZ := Lib.hid (fun (k : Nat) (hk : k < items.length) r (h : FirstIs items (items.getD k noI) r) => dupZ_min hk h)
  have XV := Lib.hid (fun (h : atmS VV = ⟨#[]⟩) => (by have e := dupV_yes h; rw [← hVV] at e ⊢; exact e : dupV VV = mkN 1 (itF (fun i => logI (dupZ items i)) items.length) []))
  have XL := Lib.hid (fun (h : atmS VV = ⟨#[]⟩) => (by have e := atm_len h; rw [← hVV] at e; exact e : items.length ≤ 40))
  obtain ⟨n, hn⟩ : ∃ n, items.length = n := ⟨_, rfl⟩
  rw [hn] at C1 AI CF FD DZ XV XL li ⊢
  clear hv hI hN hC hL hP hsm ed hVV hn
  go_enter Try.func29, Try.ntmps29
  go_wp2_with fail
  obtain ⟨w1, hw1⟩ : ∃ W, (w.alloc (.cells #[.int .i64 kk, .slice ai n ci, .slice ap parts.length cp, .slice an names.length cn, .slice ac cls.length cc, .slice al levels.length cl, .int .i64 code, .int .i64 env] 31)).alloc (.cells #[.int .i64 0, .slice none 0 0, .slice none 0 0, .slice none 0 0, .slice none 0 0, .slice none 0 0, .int .i64 0, .int .i64 0] 31) = W := ⟨_, rfl⟩
  have hsz : (w.alloc (.cells #[.int .i64 kk, .slice ai n ci, .slice ap parts.length cp, .slice an names.length cn, .slice ac cls.length cc, .slice al levels.length cl, .int .i64 code, .int .i64 env] 31)).heap.size = w.heap.size + 1 := by simp
  have B1 := Lib.hid (show Below w.heap.size w w1 from hw1 ▸ (below1 w _).alloc (by simp) _)
  have KA := Lib.hid (show w1.heap[w.heap.size]? = some (.cells #[.int .i64 kk, .slice ai n ci, .slice ap parts.length cp, .slice an names.length cn, .slice ac cls.length cc, .slice al levels.length cl, .int .i64 code, .int .i64 env] 31 (0, 0)) from hw1 ▸ blk_old (blk_new w _ rfl))
  have KR := Lib.hid (show w1.heap[w.heap.size + 1]? = some (.cells #[.int .i64 0, .slice none 0 0, .slice none 0 0, .slice none 0 0, .slice none 0 0, .slice none 0 0, .int .i64 0, .int .i64 0] 31 (0, 0)) from hw1 ▸ hsz ▸ blk_new (w.alloc (.cells #[.int .i64 kk, .slice ai n ci, .slice ap parts.length cp, .slice an names.length cn, .slice ac cls.length cc, .slice al levels.length cl, .int .i64 code, .int .i64 env] 31)) (.cells #[.int .i64 0, .slice none 0 0, .slice none 0 0, .slice none 0 0, .slice none 0 0, .slice none 0 0, .int .i64 0, .int .i64 0] 31) rfl)
  rw [hw1]
  clear hw1 hsz
  with_reducible refine (C1.out _ B1.out).mono ?_
  rintro e wb ⟨rfl, b⟩
  have B2 := Lib.hid (below_then B1.out b)
  have KA := Lib.hid (blk_below b KA.out)
  have KR := Lib.hid (blk_below b KR.out)
  clear b
  by_cases hs : atmS VV = ⟨#[]⟩
  · have XV1 := Lib.hid (XV.out hs)
    have XS1 := Lib.hid hs
    have hl := XL.out hs
    rw [hs]
    have LC := Lib.hid (fun (W : World) (sa : Option Addr) (c : Nat) (h : IntsAt W.heap.size W sa n (fun i => dupZ items i)) => (by
      have h' := specLogVec sa n c (fun i => dupZ items i) W.heap.size W h (Nat.le_refl _) (by omega)
      rw [if_pos hl] at h'
      exact h' : Calls Try.prog 65 #[.slice sa n c] W (ResV 1 (vecOf 1 (itF (fun i => logI (dupZ items i)) n)) W)))
    clear hs XV XL
    obtain ⟨w3, hw3⟩ : ∃ W, wb.alloc (.cells #[] 3) = W := ⟨_, rfl⟩
    have ST := Lib.hid (show IntR wb w3 (fun i => dupZ items i) 0 (.slice (some ⟨wb.heap.size, 0, none⟩) 0 0) from hw3 ▸ ⟨⟨rfl, .inr ⟨wb.heap.size, 0, #[], rfl, Nat.le_refl _, blk_new wb _ rfl, Nat.le_refl _, Nat.zero_le _, rfl, rfl⟩⟩, below1 wb _⟩)
    have hwa := (Array.getElem?_eq_some_iff.1 KA.out).1
    obtain ⟨k0, k1, k2, k3, k4, k5, k6, k7⟩ := vec8 KA.out
    have EW := Lib.hid hw3
    clear hw3
    go_wp2
    rw [EW.out]
    clear EW
    go_loopw [5, 6] (fun v i wr => ∃ k : Nat, k ≤ n ∧ i = .int .i64 k ∧ IntR wb wr (fun i => dupZ items i) k v) (fun _ i _ => n - (intOf i).toNat)
    case atStart => exact ⟨0, Nat.zero_le _, rfl, ST.out⟩
    case round =>
      obtain ⟨k, hk, rfl, hir⟩ := hrel
      obtain ⟨sl, scp, rfl, _⟩ := ints_of_row hir.row
      have IR := Lib.hid hir
      clear hir
      have BW := Lib.hid (below_then B2.out IR.out.below)
      have KA := Lib.hid (blk_below IR.out.below KA.out)
      by_cases hlt : k < n
      · obtain ⟨ba, off, rfl, hbB, c0, c1, c2'⟩ := AI.out k wb hlt B2.out
        have c2 : wb.cell? ⟨ba, off + k * 3 + 2, none⟩ = some (.string (items.getD k noI).t) := c2'
        have hbwb : ba < wb.heap.size := Nat.lt_of_lt_of_le (Nat.lt_of_lt_of_le hbB hhi) B2.out.size
        have FD := Lib.hid (FD.out k hlt)
        have DZ := Lib.hid (DZ.out k hlt)
        obtain ⟨y, hy⟩ : ∃ y, items.getD k noI = y := ⟨_, rfl⟩
        rw [hy] at c0 c1 c2 FD DZ
        have CF := Lib.hid (fun w1 (hb : Below wb.heap.size wb w1) => CF.out y w1 (below_then B2.out hb))
        have H := Lib.hid (show HeldC wb wr [] from ⟨IR.out.below, (fun _ h => by cases h)⟩)
        obtain ⟨m0, m1, m2, m3, m4, m5, m6, m7⟩ := vec8 KA.out
        clear hy c2'
        go_upto_region 8 with (fail)
        clear m0 m1 m2 m3 m4 m5 m6 m7
        refine run_region (ops := (opsOf Try.f29 8)) (S := fun w' => HeldC wb w' ([])) [(0, true), (1, true), (2, true), (3, true), (4, true), (5, true), (6, true), (7, true), (8, true), (9, false), (10, true), (11, true), (12, false), (13, false), (14, true)] (by kernel_rfl) (by kernel_rfl) (by kernel_rfl) (by kernel_rfl) (by kernel_rfl) (fun _ _ _ _ _ h => h) (heldC_drew H.out) ?_
        have H := Lib.hid (heldC_drew H.out)
        have IR := Lib.hid (IR.out.keep (below_drew' (Below.refl _ _)))
        refine run_mov (v := .slice sl k scp) (show opAt (opsOf Try.f29 8) 0 = some (some 21, .move (.tmp 5), none) from by kernel_rfl) (by kernel_rfl) (by kernel_rfl) (by kernel_rfl) ?_
        refine run_mov (v := .int .i64 ((k : Int))) (show opAt (opsOf Try.f29 8) 1 = some (some 22, .move (.tmp 6), none) from by kernel_rfl) (by kernel_rfl) (by kernel_rfl) (by kernel_rfl) ?_
        refine runC_partV (b := w.heap.size) (by kernel_rfl) (show opAt (opsOf Try.f29 8) 2 = some (some 23, .fieldAddr 31 (.tmp 1) 1, none) from by kernel_rfl) (by kernel_rfl) (by kernel_rfl) (by kernel_rfl) ?_
        refine runC_old (b := w.heap.size) (j := 1) (v := .slice (some ⟨ba, off, none⟩) n ci) load_its (show opAt (opsOf Try.f29 8) 3 = some (some 24, .load 28 (.tmp 23), none) from by kernel_rfl) (by kernel_rfl) (by kernel_rfl) (by kernel_rfl) hwa k1 ?_
        refine runC_partV (b := w.heap.size) (by kernel_rfl) (show opAt (opsOf Try.f29 8) 4 = some (some 25, .fieldAddr 31 (.tmp 1) 1, none) from by kernel_rfl) (by kernel_rfl) (by kernel_rfl) (by kernel_rfl) ?_
        refine runC_old (b := w.heap.size) (j := 1) (v := .slice (some ⟨ba, off, none⟩) n ci) load_its (show opAt (opsOf Try.f29 8) 5 = some (some 26, .load 28 (.tmp 25), none) from by kernel_rfl) (by kernel_rfl) (by kernel_rfl) (by kernel_rfl) hwa k1 ?_
        refine run_mov (v := .int .i64 ((k : Int))) (show opAt (opsOf Try.f29 8) 6 = some (some 27, .move (.tmp 6), none) from by kernel_rfl) (by kernel_rfl) (by kernel_rfl) (by kernel_rfl) ?_
        refine run_idx3 (n := n) (c := ci) (b := ba) (off := off) (k := k) (show opAt (opsOf Try.f29 8) 7 = some (some 28, .indexAddr 28 (.tmp 26) (.tmp 27), none) from by kernel_rfl) (by kernel_rfl) (by kernel_rfl) (by kernel_rfl) (by kernel_rfl) hlt ?_
        refine runC_oldI (b := ba) (j := off + k * 3) (z := y) (show opAt (opsOf Try.f29 8) 8 = some (some 29, .load 67 (.tmp 28), none) from by kernel_rfl) (by kernel_rfl) (by kernel_rfl) (by kernel_rfl) hbwb c0 c1 c2 ?_
        refine run_call (args := [.slice (some ⟨ba, off, none⟩) n ci, .agg #[.int .i64 y.n, .int .i64 y.d, .string y.t]]) (show opAt (opsOf Try.f29 8) 9 = some (some 30, .call { callee := .value (.func 64), args := [(.tmp 24), (.tmp 29)].toArray, argTypes := [28, 67].toArray }, none) from by kernel_rfl) (by kernel_rfl) (by kernel_rfl) (by kernel_rfl) (by kernel_rfl) ?_
        refine (CF.out _ H.out.1).mono ?_
        rintro en rw1 ⟨r, hr, rfl, hb⟩
        obtain ⟨hr0, hr1, hr2⟩ := FD.out r hr
        have DZ := DZ.out r hr
        refine ⟨_, rfl, heldC_call H.out hb, ?_⟩
        have H := Lib.hid (heldC_call H.out hb)
        have IR := Lib.hid (IR.out.keep hb)
        clear hr hb
        refine run_sub (k := .i64) (p := (k : Int)) (q := r) (z := ((k : Int) - r)) (show opAt (opsOf Try.f29 8) 10 = some (some 31, .binOp .sub 3 (.tmp 22) (.tmp 30) 3, none) from by kernel_rfl) (by kernel_rfl) (by kernel_rfl) (by kernel_rfl) (by kernel_rfl) (wrap64_id (by omega) (by omega)) ?_
        refine run_min2 (p := 1) (q := ((k : Int) - r)) (z := (dupZ items k)) (show opAt (opsOf Try.f29 8) 11 = some (some 32, .call { callee := .builtin .min, args := [(.const (.int .i64 1)), (.tmp 31)].toArray, argTypes := [3, 3].toArray }, none) from by kernel_rfl) (by kernel_rfl) (by kernel_rfl) (by kernel_rfl) (by kernel_rfl) DZ ?_
        refine tail_int (dupZ items k) (show opAt (opsOf Try.f29 8) 12 = some (some 33, .buildSlice 54 1 #[(0, (.tmp 32))], none) from by kernel_rfl) (by kernel_rfl) (by kernel_rfl) (show opAt (opsOf Try.f29 8) 13 = some (some 34, .call { callee := .builtin .append, args := [(.tmp 21), (.tmp 33)].toArray, argTypes := [54, 54].toArray }, none) from by kernel_rfl) (by kernel_rfl) (fun _ => by kernel_rfl) (show opAt (opsOf Try.f29 8) 14 = some (some 5, .assign (.tmp 34), none) from by kernel_rfl) (by kernel_rfl) IR.out (by omega) ?_ rfl
        rintro v' w2 hN
        simp only [putAll, Act.put, List.setIfInBounds_toArray, List.set_cons_zero, List.set_cons_succ]
        have IN := Lib.hid hN
        clear hN
        go_wp2
        go_roundw
        case rel => exact ⟨k + 1, by omega, by go_num, IN.out⟩
        case measure => simp [intOf]; omega
      · obtain rfl : k = n := by omega
        obtain ⟨sa, c, e', hi'⟩ := ints_of_row IR.out.row
        obtain ⟨rfl, rfl⟩ : sl = sa ∧ scp = c := by simpa using e'
        have HI := Lib.hid hi'
        clear e'
        have KR := Lib.hid (blk_below IR.out.below KR.out)
        obtain ⟨m0, m1, m2, m3, m4, m5, m6, m7⟩ := vec8 KA.out
        clear hi'
        go_wp2_with fail
        with_reducible refine (LC.out _ _ _ HI.out).mono ?_
        rintro e w4 ⟨y, rfl, ho, hb⟩
        obtain ⟨yk, ya1, yn1, ym1, ya2, yn2, ym2, ya3, yn3, ym3, ya4, yn4, ym4, ya5, yn5, ym5, yc, ye, rfl⟩ := ho.agg
        have K0 := Lib.hid (blk_below hb KR.out)
        have BB := Lib.hid (below_then BW.out hb)
        have HO := Lib.hid ho
        have hlt0 := (Array.getElem?_eq_some_iff.1 KR.out).1
        clear ho hb m0 m1 m2 m3 m4 m5 m6 m7
        obtain ⟨z0, z1, z2, z3, z4, z5, z6, z7⟩ := vec8 K0.out
        obtain ⟨f0, f1, f2, f3, f4, f5, f6, f7⟩ := free8 K0.out
        go_wp2
        rw [XV1.out, XS1.out]
        exact vec_endS rfl rfl rfl rfl K0.out ⟨_, rfl, (HO.out.put8 hlt0 _ _ _ _ _ _ _ _).wide (by omega) (by rw [put8_size]; exact Nat.le_refl _), put8_below BB.out (Nat.le_succ _)⟩
  · have XV1 := Lib.hid (dupV_no hs)
    obtain ⟨R, hR⟩ : ∃ R, atmS VV = R := ⟨_, rfl⟩
    have XS1 := Lib.hid hR
    rw [hR] at hs ⊢
    have hRb : (R.toList == []) = false := by have h := str_not hs; rw [ByteArray.toList_eq ⟨#[]⟩] at h; exact h
    clear hs hR
    obtain ⟨z0, z1, z2, z3, z4, z5, z6, z7⟩ := vec8 KR.out
    obtain ⟨f0, f1, f2, f3, f4, f5, f6, f7⟩ := free8 KR.out
    go_wp2
    rw [XV1.out, XS1.out]
    exact vec_endS rfl rfl rfl rfl KR.out (zeroS _ w _ (put8_below B2.out (Nat.le_succ _)))
end Go.Proofs.Ytfbpbpbmnieieaa

/- UniqueOf: data, the program. -/
namespace Go.Proofs.Ytfbpbpbmnieieaa
open Go.RowKit
set_option maxRecDepth 100000
set_option linter.unusedVariables false

/-- Which elements have no equal one ahead. -/
noncomputable def uqP (l : List It) (i : Nat) : Bool := !(bB (DupAt l i))
noncomputable def uqI (l : List It) : List Nat := whN (uqP l) l.length
noncomputable def uqV (v : Vec) : Vec := match bB (atmS v = ⟨#[]⟩), v with
  | true, .mk kk items _ _ cls levels _ _ => .mk kk (pkL noI items (uqI items)) [] [] (kpC levels cls) levels 0 0
  | false, _ => noV
theorem uqV_yes {kk : Int} {items : List It} {parts : List Vec} {names cls levels : List ByteArray} {code env : Int} (h : atmS (.mk kk items parts names cls levels code env) = ⟨#[]⟩) : uqV (.mk kk items parts names cls levels code env) = .mk kk (pkL noI items (uqI items)) [] [] (kpC levels cls) levels 0 0 := by unfold uqV; rw [bB_yes h]
theorem uqV_no {v : Vec} (h : ¬ atmS v = ⟨#[]⟩) : uqV v = noV := by unfold uqV; rw [bB_no h]
/-- A vector of the zero value, at any depth. -/
theorem own_zeroD (d lo hi : Nat) (w : World) : Own (d + 1) noV (.agg #[.int .i64 0, .slice none 0 0, .slice none 0 0, .slice none 0 0, .slice none 0 0, .slice none 0 0, .int .i64 0, .int .i64 0]) lo hi w := by
  refine ⟨[], ?_, List.nodup_nil, (fun _ h => by cases h)⟩
  show OwnVec w (d + 1) (.mk 0 [] [] [] [] [] 0 0) _ []
  unfold OwnVec
  exact ⟨none, 0, none, 0, none, 0, none, 0, none, 0, [], [], [], [], [], rfl, rfl, ⟨Nat.le_refl _, Nat.le_refl _, Nat.le_refl _, Nat.le_refl _, Nat.le_refl _⟩, .inl ⟨rfl, rfl⟩, .inl ⟨rfl, rfl⟩, .inl ⟨rfl, rfl⟩, .inl ⟨rfl, rfl⟩, .inl ⟨rfl, rfl⟩⟩
theorem zeroSD (d : Nat) (s : ByteArray) (w w' : World) (hb : Below w.heap.size w w') : ResVS (d + 1) noV s w (.returned (.tuple #[.agg #[.int .i64 0, .slice none 0 0, .slice none 0 0, .slice none 0 0, .slice none 0 0, .slice none 0 0, .int .i64 0, .int .i64 0], .string s])) w' := ⟨_, rfl, own_zeroD _ _ _ _, hb⟩
theorem atm_parts {kk : Int} {items : List It} {parts : List Vec} {names cls levels : List ByteArray} {code env : Int} (h : atmS (.mk kk items parts names cls levels code env) = ⟨#[]⟩) : ¬ kk = 4 ∧ ¬ kk = 5 ∧ parts.length = 0 ∧ (names.length ≠ 0 → names.length = items.length) ∧ items.length ≤ 40 := by
  obtain ⟨h1, h2⟩ := atmS_iff.1 h
  have hf : FlatOk kk items parts.length names cls levels code env := h1.1.flat
  have h3 : kk ≤ 3 := h2
  have h4 := hf.h_noParts (by omega)
  have h5 := hf.h_names
  have h6 := hf.h_len
  unfold lenV at h5 h6
  rw [if_neg (by omega)] at h5 h6
  exact ⟨by omega, by omega, h4, fun h => by omega, by omega⟩
theorem IntsAt.congr {B : Nat} {w : World} {a : Option Addr} {n : Nat} {f g : Nat → Int} (h : IntsAt B w a n f) (e : ∀ i, i < n → f i = g i) : IntsAt B w a n g := fun i hi => by rw [← e i hi]; exact h i hi
theorem whZ_ix (p : Nat → Bool) (n i : Nat) (hi : i < (whN p n).length) : (whZ p n).getD i 0 = ixF (whN p n) i := by
  unfold whZ ixF; simp [List.getD_eq_getElem?_getD, hi]
theorem implUqClo (kk : Int) (items : List It) (ai ap an ac al : Option Addr) (ci np cp nn cn nc cc nl cl : Nat) (code env : Int) (k g lo hi : Nat) (w : World) (hI : ItemsAt lo hi w ai items) (hhi : hi ≤ w.heap.size) (hlt : k < items.length) (hn : items.length ≤ 1048576) (hcap : items.length ≤ ci)
    (hg : w.heap[g]? = some (.cells #[.int .i64 kk, .slice ai items.length ci, .slice ap np cp, .slice an nn cn, .slice ac nc cc, .slice al nl cl, .int .i64 code, .int .i64 env] 31 (0, 0))) :
    Calls Try.prog 70 #[.int .i64 (k : Int), .pointer (some ⟨g, 0, none⟩)] w fun e w' => e = .returned (.bool (uqP items k)) ∧ Below w.heap.size w w' := by
  have CD := Lib.hid (fun (w1 : World) (hb : Below w.heap.size w w1) => implIsDup items k ai ci lo hi w1 (hI.below hb hhi) (Nat.le_trans hhi hb.size) hn hcap hlt)
  have TP := Lib.hid (show uqP items k = !(bB (DupAt items k)) from rfl)
  obtain ⟨n, hn'⟩ : ∃ n, items.length = n := ⟨_, rfl⟩
  rw [hn'] at hg hlt hn CD
  obtain ⟨t, ht⟩ : ∃ t, bB (DupAt items k) = t := ⟨_, rfl⟩
  rw [ht] at CD TP
  obtain ⟨k0, k1, k2, k3, k4, k5, k6, k7⟩ := vec8 hg
  clear hn' hI ht hcap
  go_enter Try.func70, Try.ntmps70
  go_wp2_with fail
  with_reducible refine (CD.out _ (Below.refl _ _)).mono ?_
  rintro e w2 ⟨rfl, b⟩
  go_wp2
  go_ret
  exact ⟨ret_bB (by rw [TP.out]), b⟩
set_option maxHeartbeats 4000000 in
theorem implUniq (d : Nat) (v : Vec) (val : Value) (lo hi : Nat) (w : World) (hv : VecAt lo hi w d v val) (hhi : hi ≤ w.heap.size) (hsm : Small d v) :
    Calls Try.prog 32 #[val] w (ResVS d (uqV v) (atmS v) w) := by
  obtain ⟨VV, hVV⟩ : ∃ V, v = V := ⟨_, rfl⟩
  rw [hVV]
  obtain ⟨kk, items, parts, names, cls, levels, code, env⟩ := v
  obtain ⟨d', ai, ci, ap, cp, an, cn, ac, cc, al, cl, ed, rfl, hI, hN, hC, hL, hP, hcap⟩ := vecAt_openC hv
  have C1 := Lib.hid (fun (w1 : World) (hb : Below w.heap.size w w1) (g : Nat) (hg : w1.heap[g]? = some (.cells #[.int .i64 kk, .slice ai items.length ci, .slice ap parts.length cp, .slice an names.length cn, .slice ac cls.length cc, .slice al levels.length cl, .int .i64 code, .int .i64 env] 31 (0, 0))) => (hVV ▸ implAtm1 d kk items parts names cls levels code env ai ap an ac al ci cp cn cc cl g lo hi w1 (hv.below hb hhi) (Nat.le_trans hhi hb.size) hsm hg : Calls Try.prog 66 #[.slice (some ⟨g, 0, none⟩) 1 1] w1 (fun e w' => e = .returned (.string (atmS VV)) ∧ Below w1.heap.size w1 w')))
  subst ed
  have li : items.length ≤ 1048576 := hsm.1
  have lp : parts.length ≤ 1048576 := hsm.2.1
  have ln : names.length ≤ 1048576 := hsm.2.2.1
  have lc : cls.length ≤ 1048576 := hsm.2.2.2.1
  have ll : levels.length ≤ 1048576 := hsm.2.2.2.2.1
  have hsp : ∀ p ∈ parts, Small d' p := hsm.2.2.2.2.2.2.2.2.2
  have hic : items.length ≤ ci := hcap.1
  have XA := Lib.hid (fun (h : atmS VV = ⟨#[]⟩) => (by rw [← hVV] at h; exact atm_parts h : ¬ kk = 4 ∧ ¬ kk = 5 ∧ parts.length = 0 ∧ (names.length ≠ 0 → names.length = items.length) ∧ items.length ≤ 40))
  have XV := Lib.hid (fun (h : atmS VV = ⟨#[]⟩) => (by rw [← hVV] at h ⊢; exact uqV_yes h : uqV VV = .mk kk (pkL noI items (uqI items)) [] [] (kpC levels cls) levels 0 0))
  have CW := Lib.hid (fun (g : Nat) (W : World) (hb : Below w.heap.size w W) (hg : W.heap[g]? = some (.cells #[.int .i64 kk, .slice ai items.length ci, .slice ap parts.length cp, .slice an names.length cn, .slice ac cls.length cc, .slice al levels.length cl, .int .i64 code, .int .i64 env] 31 (0, 0))) =>
    (implWhere 70 #[.pointer (some ⟨g, 0, none⟩)] (uqP items) ai items.length ci W li (by kernel_rfl) (fun i W' hi1 hb' => implUqClo kk items ai ap an ac al ci parts.length cp names.length cn cls.length cc levels.length cl code env i g lo hi W' (hI.below (hb.trans (hb'.mono hb.size)) hhi) (Nat.le_trans hhi (Nat.le_trans hb.size hb'.size)) hi1 li hic (blk_below hb' hg)) :
    Calls Try.prog 69 #[.slice ai items.length ci, .func (.func 70) #[] #[.pointer (some ⟨g, 0, none⟩)]] W (fun e w' => ∃ v, e = .returned v ∧ IntZ W w' (whZ (uqP items) items.length) v)))
  have CS := Lib.hid (fun (h : parts.length = 0) (hnm : names.length ≠ 0 → names.length = items.length) (xi : Option Addr) (xc : Nat) (W : World) (hb : Below w.heap.size w W) (hs : IntsAt W.heap.size W xi (uqI items).length (ixF (uqI items))) =>
    (by
      have hb' : ∀ i, i < (uqI items).length → (uqI items).getD i 0 < items.length := fun i hi => (whN_at (p := uqP items) (k := items.length) hi).1
      exact implSelect d' kk items parts names cls levels code env ai ap an ac al xi ci cp cn cc cl xc lo hi W.heap.size (uqI items) W (hI.below hb hhi) (hP.below hb hhi) (hN.below hb hhi) (hC.below hb hhi) (hL.below hb hhi) (Nat.le_trans hhi hb.size) li lp ln lc ll hsp hs (Nat.le_refl _) (by have := whN_len (uqP items) items.length; unfold uqI; omega) (fun _ => hb') (fun h0 => absurd h h0) (fun h0 i hi => by rw [hnm h0]; exact hb' i hi) :
    Calls Try.prog 62 #[.agg #[.int .i64 kk, .slice ai items.length ci, .slice ap parts.length cp, .slice an names.length cn, .slice ac cls.length cc, .slice al levels.length cl, .int .i64 code, .int .i64 env], .slice xi (uqI items).length xc] W (ResV (d' + 1) (selV kk items parts names cls levels (uqI items)) W)))
  have IX := Lib.hid (fun i (hi : i < (uqI items).length) => show (whZ (uqP items) items.length).getD i 0 = ixF (uqI items) i from whZ_ix (uqP items) items.length i hi)
  have EL := Lib.hid (show (whZ (uqP items) items.length).length = (uqI items).length from whZ_len _ _)
  have SV := Lib.hid (fun (h : parts.length = 0) => (by unfold selV; rw [List.eq_nil_of_length_eq_zero h]; rfl : selV kk items parts names cls levels (uqI items) = .mk kk (pkL noI items (uqI items)) [] (clnN (pkL ⟨#[]⟩ names (uqI items))) (kpC levels cls) levels 0 0))
  obtain ⟨ix, hix⟩ : ∃ ix, uqI items = ix := ⟨_, rfl⟩
  obtain ⟨Z, hZ⟩ : ∃ Z, whZ (uqP items) items.length = Z := ⟨_, rfl⟩
  rw [hZ] at CW IX EL
  rw [hix] at XV CS IX EL SV
  clear hv hI hN hC hL hP hsm hVV hcap hix hZ
  go_enter Try.func32, Try.ntmps32
  go_wp2_with fail
  obtain ⟨w1, hw1⟩ : ∃ W, ((w.alloc (.cells #[.int .i64 kk, .slice ai items.length ci, .slice ap parts.length cp, .slice an names.length cn, .slice ac cls.length cc, .slice al levels.length cl, .int .i64 code, .int .i64 env] 31)).alloc (.cells #[.int .i64 0, .slice none 0 0, .slice none 0 0, .slice none 0 0, .slice none 0 0, .slice none 0 0, .int .i64 0, .int .i64 0] 31)).alloc (.cells #[.int .i64 kk, .slice ai items.length ci, .slice ap parts.length cp, .slice an names.length cn, .slice ac cls.length cc, .slice al levels.length cl, .int .i64 code, .int .i64 env] 31) = W := ⟨_, rfl⟩
  have hsz : (w.alloc (.cells #[.int .i64 kk, .slice ai items.length ci, .slice ap parts.length cp, .slice an names.length cn, .slice ac cls.length cc, .slice al levels.length cl, .int .i64 code, .int .i64 env] 31)).heap.size = w.heap.size + 1 := by simp
  have hsz2 : ((w.alloc (.cells #[.int .i64 kk, .slice ai items.length ci, .slice ap parts.length cp, .slice an names.length cn, .slice ac cls.length cc, .slice al levels.length cl, .int .i64 code, .int .i64 env] 31)).alloc (.cells #[.int .i64 0, .slice none 0 0, .slice none 0 0, .slice none 0 0, .slice none 0 0, .slice none 0 0, .int .i64 0, .int .i64 0] 31)).heap.size = w.heap.size + 1 + 1 := by simp
  have B1 := Lib.hid (show Below w.heap.size w w1 from hw1 ▸ ((below1 w _).alloc (by simp) _).alloc (by simp; omega) _)
  have KA := Lib.hid (show w1.heap[w.heap.size]? = some (.cells #[.int .i64 kk, .slice ai items.length ci, .slice ap parts.length cp, .slice an names.length cn, .slice ac cls.length cc, .slice al levels.length cl, .int .i64 code, .int .i64 env] 31 (0, 0)) from hw1 ▸ blk_old (blk_old (blk_new w _ rfl)))
  have KR := Lib.hid (show w1.heap[w.heap.size + 1]? = some (.cells #[.int .i64 0, .slice none 0 0, .slice none 0 0, .slice none 0 0, .slice none 0 0, .slice none 0 0, .int .i64 0, .int .i64 0] 31 (0, 0)) from hw1 ▸ blk_old (hsz ▸ blk_new (w.alloc (.cells #[.int .i64 kk, .slice ai items.length ci, .slice ap parts.length cp, .slice an names.length cn, .slice ac cls.length cc, .slice al levels.length cl, .int .i64 code, .int .i64 env] 31)) (.cells #[.int .i64 0, .slice none 0 0, .slice none 0 0, .slice none 0 0, .slice none 0 0, .slice none 0 0, .int .i64 0, .int .i64 0] 31) rfl))
  have KL := Lib.hid (show w1.heap[w.heap.size + 1 + 1]? = some (.cells #[.int .i64 kk, .slice ai items.length ci, .slice ap parts.length cp, .slice an names.length cn, .slice ac cls.length cc, .slice al levels.length cl, .int .i64 code, .int .i64 env] 31 (0, 0)) from hw1 ▸ hsz2 ▸ blk_new ((w.alloc (.cells #[.int .i64 kk, .slice ai items.length ci, .slice ap parts.length cp, .slice an names.length cn, .slice ac cls.length cc, .slice al levels.length cl, .int .i64 code, .int .i64 env] 31)).alloc (.cells #[.int .i64 0, .slice none 0 0, .slice none 0 0, .slice none 0 0, .slice none 0 0, .slice none 0 0, .int .i64 0, .int .i64 0] 31)) (.cells #[.int .i64 kk, .slice ai items.length ci, .slice ap parts.length cp, .slice an names.length cn, .slice ac cls.length cc, .slice al levels.length cl, .int .i64 code, .int .i64 env] 31) rfl)
  rw [hw1]
  clear hw1 hsz hsz2
  refine (C1.out _ B1.out _ KL.out).mono ?_
  rintro e w2 ⟨rfl, b⟩
  have B2 := Lib.hid (below_then B1.out b)
  have KA := Lib.hid (blk_below b KA.out)
  have KR := Lib.hid (blk_below b KR.out)
  clear b KL
  by_cases hs : atmS VV = ⟨#[]⟩
  · have XV1 := Lib.hid (XV.out hs)
    have XS1 := Lib.hid hs
    have XA1 := Lib.hid (XA.out hs)
    have CS := Lib.hid (CS.out XA1.out.2.2.1 XA1.out.2.2.2.1)
    have SV := SV.out XA1.out.2.2.1
    rw [hs]
    obtain ⟨k0, k1, k2, k3, k4, k5, k6, k7⟩ := vec8 KA.out
    have hltA := (Array.getElem?_eq_some_iff.1 KA.out).1
    clear hs XV XA XA1
    go_wp2_with fail
    refine (CW.out _ _ B2.out KA.out).mono ?_
    rintro e w3 ⟨v3, rfl, hz⟩
    obtain ⟨sa, c, rfl, hi'⟩ := hz.ints
    have HI := Lib.hid (by rw [EL.out] at hi'; exact hi'.congr IX.out : IntsAt w3.heap.size w3 sa ix.length (ixF ix))
    have B3 := Lib.hid (below_then B2.out hz.below)
    have KA := Lib.hid (blk_below hz.below KA.out)
    have KR := Lib.hid (blk_below hz.below KR.out)
    have EL2 := EL.out
    have hr3 := (Array.getElem?_eq_some_iff.1 KR.out).1
    clear hz hi' k0 k1 k2 k3 k4 k5 k6 k7
    rw [EL2]
    clear EL2
    obtain ⟨k0, k1, k2, k3, k4, k5, k6, k7⟩ := vec8 KA.out
    go_wp2_with fail
    refine (CS.out _ _ _ B3.out HI.out).mono ?_
    rintro e w5 ⟨y, rfl, ho, hb⟩
    obtain ⟨yk, ya1, yn1, ym1, ya2, yn2, ym2, ya3, yn3, ym3, ya4, yn4, ym4, ya5, yn5, ym5, yc, ye, rfl⟩ := ho.agg
    have B5 := Lib.hid (below_then B3.out hb)
    have KR := Lib.hid (blk_below hb KR.out)
    rw [SV] at ho
    have O := Lib.hid (ho.noNames none 0)
    clear ho hb k0 k1 k2 k3 k4 k5 k6 k7 SV
    have hrb := (Array.getElem?_eq_some_iff.1 KR.out).1
    go_upto_region 7 with (fail)
    obtain ⟨w6, hw6⟩ : ∃ W, w5.alloc (.cells #[.int .i64 yk, .slice ya1 yn1 ym1, .slice ya2 yn2 ym2, .slice none 0 0, .slice ya4 yn4 ym4, .slice ya5 yn5 ym5, .int .i64 yc, .int .i64 ye] 31) = W := ⟨_, rfl⟩
    have N6 := Lib.hid (show w6.heap[w5.heap.size]? = some (.cells #[.int .i64 yk, .slice ya1 yn1 ym1, .slice ya2 yn2 ym2, .slice none 0 0, .slice ya4 yn4 ym4, .slice ya5 yn5 ym5, .int .i64 yc, .int .i64 ye] 31 (0, 0)) from hw6 ▸ blk_new w5 _ rfl)
    have BB := Lib.hid (show Below w5.heap.size w5 w6 from hw6 ▸ below1 w5 _)
    have B6 := Lib.hid (below_then B5.out BB.out)
    have KR := Lib.hid (blk_below BB.out KR.out)
    have O := Lib.hid (O.out.below BB.out (Nat.le_refl _))
    have hs6 := BB.out.size
    rw [hw6]
    clear hw6 BB
    obtain ⟨n0, n1, n2, n3, n4, n5, n6, n7⟩ := vec8 N6.out
    obtain ⟨z0, z1, z2, z3, z4, z5, z6, z7⟩ := vec8 KR.out
    obtain ⟨f0, f1, f2, f3, f4, f5, f6, f7⟩ := free8 KR.out
    go_wp2
    rw [XV1.out, XS1.out]
    exact vec_endS rfl rfl rfl rfl KR.out ⟨_, rfl, (O.out.put8 (by omega) _ _ _ _ _ _ _ _).wide (by omega) (by rw [put8_size]; omega), put8_below B6.out (Nat.le_succ _)⟩
  · have XV1 := Lib.hid (uqV_no hs)
    obtain ⟨R, hR⟩ : ∃ R, atmS VV = R := ⟨_, rfl⟩
    have XS1 := Lib.hid hR
    rw [hR] at hs ⊢
    have hRb : (R.toList == []) = false := by have h := str_not hs; rw [ByteArray.toList_eq ⟨#[]⟩] at h; exact h
    clear hs hR
    obtain ⟨z0, z1, z2, z3, z4, z5, z6, z7⟩ := vec8 KR.out
    obtain ⟨f0, f1, f2, f3, f4, f5, f6, f7⟩ := free8 KR.out
    go_wp2
    rw [XV1.out, XS1.out]
    exact vec_endS rfl rfl rfl rfl KR.out (zeroSD _ _ w _ (put8_below B2.out (Nat.le_succ _)))
end Go.Proofs.Ytfbpbpbmnieieaa

/- ReverseOf: data, both sides. -/
namespace Go.Proofs.Ytfbpbpbmnieieaa
open Go.RowKit
set_option maxRecDepth 100000
set_option linter.unusedVariables false

/-- The indexes backwards. -/
def rvI (n : Nat) : List Nat := (List.range n).map (fun p => n - 1 - p)
theorem rvI_len (n : Nat) : (rvI n).length = n := by unfold rvI; simp
theorem rvI_at {n i : Nat} (h : i < n) : (rvI n).getD i 0 = n - 1 - i := by unfold rvI; simp [List.getD_eq_getElem?_getD, h]
noncomputable def revS (v : Vec) : ByteArray := match bB (ValidV v), bB (kindV v = 5) with | false, _ => badB | true, true => nelB | true, false => ⟨#[]⟩
noncomputable def revV (v : Vec) : Vec := match bB (ValidV v ∧ ¬ kindV v = 5), v with
  | true, .mk kk items parts names cls levels _ _ => selV kk items parts names cls levels (rvI (items.length + parts.length))
  | false, _ => noV
theorem revS_bad {v : Vec} (h : ¬ ValidV v) : revS v = badB := by unfold revS; rw [bB_no h]
theorem revS_fun {v : Vec} (h : ValidV v) (hk : kindV v = 5) : revS v = nelB := by unfold revS; rw [bB_yes h, bB_yes hk]
theorem revS_yes {v : Vec} (h : ValidV v) (hk : ¬ kindV v = 5) : revS v = ⟨#[]⟩ := by unfold revS; rw [bB_yes h, bB_no hk]
theorem revV_yes {kk : Int} {items : List It} {parts : List Vec} {names cls levels : List ByteArray} {code env : Int} (h : ValidV (.mk kk items parts names cls levels code env)) (hk : ¬ kk = 5) : revV (.mk kk items parts names cls levels code env) = selV kk items parts names cls levels (rvI (items.length + parts.length)) := by
  unfold revV; rw [bB_yes ⟨h, hk⟩]
theorem revV_no {v : Vec} (h : ¬ (ValidV v ∧ ¬ kindV v = 5)) : revV v = noV := by unfold revV; rw [bB_no h]
/-- The reference's l4Pick, of any valid vector but a function. -/
theorem specPickV (d : Nat) (kk : Int) (items : List It) (parts : List Vec) (names cls levels : List ByteArray) (code env : Int) (ai ap an ac al xi : Option Addr) (ci cp cn cc cl xc lo hi B : Nat) (idx : List Nat) (w : World) (hI : ItemsAt lo hi w ai items) (hP : VecsAt lo hi w d ap parts) (hN : TextsAt lo hi w an names) (hC : TextsAt lo hi w ac cls) (hL : TextsAt lo hi w al levels) (hhi : hi ≤ w.heap.size)
    (hsm : Small (d + 1) (.mk kk items parts names cls levels code env)) (hv : ValidV (.mk kk items parts names cls levels code env)) (h5 : ¬ kk = 5) (hs : IntsAt B w xi idx.length (fun i => ixF idx i + 1)) (hB : B ≤ w.heap.size) (hn : idx.length ≤ 1048576) (hin : ∀ i, i < idx.length → idx.getD i 0 < items.length + parts.length) :
    Calls Try.prog 43 #[.agg #[.int .i64 kk, .slice ai items.length ci, .slice ap parts.length cp, .slice an names.length cn, .slice ac cls.length cc, .slice al levels.length cl, .int .i64 code, .int .i64 env], .slice xi idx.length xc] w (ResV (d + 1) (selV kk items parts names cls levels idx) w) := by
  have hf : FlatOk kk items parts.length names cls levels code env := hv.1.flat
  have hnm : names.length ≠ 0 → names.length = items.length + parts.length := fun h => by
    rcases hf.h_names with e | e
    · exact absurd e h
    · unfold lenV at e; rw [if_neg h5] at e; exact e
  obtain ⟨li, lp, ln, lc, ll, _, _, _, _, hsp⟩ := hsm
  by_cases h4 : kk = 4
  · subst h4
    have l0 := hf.h_list rfl
    exact specPickP d items parts names cls levels code env ai ap an ac al xi ci cp cn cc cl xc lo hi B idx w hP hN hhi l0 lp ln (hf.h_noLevels (by decide)) hsp (fun i hi => ⟨(part_is hv.1 d i hi).1, (part_is hv.1 d i hi).2.1⟩) hs hB hn (fun i hi => by have := hin i hi; omega) (fun h => by have := hnm h; omega)
  · have lp0 := hf.h_noParts h4
    exact specPickA d kk items parts names cls levels code env ai ap an ac al xi ci cp cn cc cl xc lo hi B idx w hI hN hC hL hhi li lp0 ln lc ll hs hB hn h4 h5 (fun i hi => by have := hin i hi; omega) (fun h => by have := hnm h; omega)
def upL (k : Nat) : List Int := (List.range k).map (fun (i : Nat) => (i : Int))
theorem upL_succ (k : Nat) : upL (k + 1) = upL k ++ [(k : Int)] := by unfold upL; rw [List.range_succ, List.map_append]; rfl
theorem upL_len (k : Nat) : (upL k).length = k := by unfold upL; simp
set_option maxHeartbeats 1000000 in
theorem implUpTo (n : Nat) (w : World) (hn : n ≤ 1048576) :
    Calls Try.prog 59 #[.int .i64 (n : Int)] w fun e w' => ∃ v, e = .returned v ∧ IntZ w w' (upL n) v := by
  have NX0 := Lib.hid upL_succ
  have LE := Lib.hid upL_len
  have ST := Lib.hid (IntZ.nil w w (Below.refl _ _))
  go_enter Try.func59, Try.ntmps59
  go_wp2
  go_loopw [3, 6] (fun v i wr => ∃ k : Nat, k ≤ n ∧ i = .int .i64 k ∧ IntZ w wr (upL k) v) (fun _ i _ => n - (intOf i).toNat)
  case atStart => exact ⟨0, Nat.zero_le _, rfl, ST.out⟩
  case round =>
    obtain ⟨k, hk, rfl, hir⟩ := hrel
    have IR := Lib.hid hir
    clear hir
    by_cases hlt : k < n
    · have LN := Lib.hid (show (upL k).length ≤ 1048576 by rw [LE.out]; omega)
      have NX := Lib.hid (NX0.out k)
      go_wp2_with (at_builtin; go_loud (refine wpList_appInt rfl _ _ rfl (k : Int) (upL k) _ _ rfl rfl (IR.out.keep (below1 _ _)) (blk_new _ _ rfl) LN.out ?_))
      intro v' w3 hir
      have IN := Lib.hid (NX.out ▸ hir)
      clear hir
      go_wp2
      go_roundw
      case rel => exact ⟨k + 1, by omega, by go_num, IN.out⟩
      case measure => simp [intOf]; omega
    · obtain rfl : k = n := by omega
      go_wp2
      go_ret
      exact ⟨_, rfl, IR.out⟩
set_option maxHeartbeats 4000000 in
theorem implReverse (d : Nat) (v : Vec) (val : Value) (lo hi : Nat) (w : World) (hv : VecAt lo hi w d v val) (hhi : hi ≤ w.heap.size) (hsm : Small d v) :
    Calls Try.prog 28 #[val] w (ResVS d (revV v) (revS v) w) := by
  have C1 := Lib.hid (fun (w1 : World) (hb : Below w.heap.size w w1) => implIsVector d v val lo hi w1 (hv.below hb hhi) (Nat.le_trans hhi hb.size) hsm)
  obtain ⟨VV, hVV⟩ : ∃ V, v = V := ⟨_, rfl⟩
  rw [hVV] at C1 ⊢
  obtain ⟨kk, items, parts, names, cls, levels, code, env⟩ := v
  obtain ⟨d', ai, ci, ap, cp, an, cn, ac, cc, al, cl, ed, rfl, hI, hN, hC, hL, hP⟩ := vecAt_open hv
  subst ed
  have li : items.length ≤ 1048576 := hsm.1
  have lp : parts.length ≤ 1048576 := hsm.2.1
  have ln : names.length ≤ 1048576 := hsm.2.2.1
  have lc : cls.length ≤ 1048576 := hsm.2.2.2.1
  have ll : levels.length ≤ 1048576 := hsm.2.2.2.2.1
  have hsp : ∀ p ∈ parts, Small d' p := hsm.2.2.2.2.2.2.2.2.2
  have XK : kindV VV = kk := by rw [← hVV]; rfl
  have XV := Lib.hid (fun (h : ValidV VV) (h5 : ¬ kk = 5) => (by rw [← hVV] at h ⊢; exact revV_yes h h5 : revV VV = selV kk items parts names cls levels (rvI (items.length + parts.length))))
  have XN := Lib.hid (fun (h5 : ¬ kk = 5) => (by unfold lenV; rw [if_neg h5] : lenV kk items.length parts.length = items.length + parts.length))
  have X40 := Lib.hid (fun (h : ValidV VV) (h5 : ¬ kk = 5) => (by rw [← hVV] at h; have := (show FlatOk kk items parts.length names cls levels code env from h.1.flat).h_len; unfold lenV at this; rw [if_neg h5] at this; exact this : items.length + parts.length ≤ 40))
  have LN := Lib.hid (fun (W : World) => implLen kk ai ap an ac al items.length ci parts.length cp names.length cn cls.length cc levels.length cl code env W li lp)
  have CS := Lib.hid (fun (h : ValidV VV) (h5 : ¬ kk = 5) (xi : Option Addr) (xc : Nat) (W : World) (hb : Below w.heap.size w W) (hs : IntsAt W.heap.size W xi (items.length + parts.length) (fun i => ixF (rvI (items.length + parts.length)) i)) =>
    (by
      rw [← hVV] at h
      have hl := rvI_len (items.length + parts.length)
      have hn : (items.length + parts.length) ≤ 2097152 := by omega
      have h40 : items.length + parts.length ≤ 40 := by have := (show FlatOk kk items parts.length names cls levels code env from h.1.flat).h_len; unfold lenV at this; rw [if_neg h5] at this; exact this
      have e := implSelect d' kk items parts names cls levels code env ai ap an ac al xi ci cp cn cc cl xc lo hi W.heap.size (rvI (items.length + parts.length)) W (hI.below hb hhi) (hP.below hb hhi) (hN.below hb hhi) (hC.below hb hhi) (hL.below hb hhi) (Nat.le_trans hhi hb.size) li lp ln lc ll hsp (by rw [hl]; exact hs) (Nat.le_refl _) (by omega)
        (fun h0 i hi => by rw [hl] at hi; rw [rvI_at hi]; have hf := (show FlatOk kk items parts.length names cls levels code env from h.1.flat); have := hf.h_noParts (fun h4 => by have := hf.h_list h4; omega); omega)
        (fun h0 i hi => by rw [hl] at hi; rw [rvI_at hi]; have hf := (show FlatOk kk items parts.length names cls levels code env from h.1.flat); have := hf.h_list (by apply Classical.byContradiction; intro h4; exact h0 (hf.h_noParts h4)); omega)
        (fun h0 i hi => by rw [hl] at hi; rw [rvI_at hi]; have hf := (show FlatOk kk items parts.length names cls levels code env from h.1.flat); rcases hf.h_names with e | e; exact absurd e h0; unfold lenV at e; rw [if_neg h5] at e; omega)
      rw [hl] at e
      exact e :
    Calls Try.prog 62 #[.agg #[.int .i64 kk, .slice ai items.length ci, .slice ap parts.length cp, .slice an names.length cn, .slice ac cls.length cc, .slice al levels.length cl, .int .i64 code, .int .i64 env], .slice xi (items.length + parts.length) xc] W (ResV (d' + 1) (selV kk items parts names cls levels (rvI (items.length + parts.length))) W)))
  obtain ⟨N, hN'⟩ : ∃ N, items.length + parts.length = N := ⟨_, rfl⟩
  rw [hN'] at XV XN X40 CS
  clear hv hI hN hC hL hP hsm hVV hN' hsp li lp ln lc ll
  go_enter Try.func28, Try.ntmps28
  go_wp2_with fail
  obtain ⟨w1, hw1⟩ : ∃ W, (w.alloc (.cells #[.int .i64 kk, .slice ai items.length ci, .slice ap parts.length cp, .slice an names.length cn, .slice ac cls.length cc, .slice al levels.length cl, .int .i64 code, .int .i64 env] 31)).alloc (.cells #[.int .i64 0, .slice none 0 0, .slice none 0 0, .slice none 0 0, .slice none 0 0, .slice none 0 0, .int .i64 0, .int .i64 0] 31) = W := ⟨_, rfl⟩
  have hsz : (w.alloc (.cells #[.int .i64 kk, .slice ai items.length ci, .slice ap parts.length cp, .slice an names.length cn, .slice ac cls.length cc, .slice al levels.length cl, .int .i64 code, .int .i64 env] 31)).heap.size = w.heap.size + 1 := by simp
  have B1 := Lib.hid (show Below w.heap.size w w1 from hw1 ▸ (below1 w _).alloc (by simp) _)
  have KA := Lib.hid (show w1.heap[w.heap.size]? = some (.cells #[.int .i64 kk, .slice ai items.length ci, .slice ap parts.length cp, .slice an names.length cn, .slice ac cls.length cc, .slice al levels.length cl, .int .i64 code, .int .i64 env] 31 (0, 0)) from hw1 ▸ blk_old (blk_new w _ rfl))
  have KR := Lib.hid (show w1.heap[w.heap.size + 1]? = some (.cells #[.int .i64 0, .slice none 0 0, .slice none 0 0, .slice none 0 0, .slice none 0 0, .slice none 0 0, .int .i64 0, .int .i64 0] 31 (0, 0)) from hw1 ▸ hsz ▸ blk_new (w.alloc (.cells #[.int .i64 kk, .slice ai items.length ci, .slice ap parts.length cp, .slice an names.length cn, .slice ac cls.length cc, .slice al levels.length cl, .int .i64 code, .int .i64 env] 31)) (.cells #[.int .i64 0, .slice none 0 0, .slice none 0 0, .slice none 0 0, .slice none 0 0, .slice none 0 0, .int .i64 0, .int .i64 0] 31) rfl)
  rw [hw1]
  clear hw1 hsz
  with_reducible refine (C1.out _ B1.out).mono ?_
  rintro e w2 ⟨rfl, b⟩
  have B2 := Lib.hid (below_then B1.out b)
  have KA := Lib.hid (blk_below b KA.out)
  have KR := Lib.hid (blk_below b KR.out)
  clear b
  by_cases q : ValidV VV
  · rw [bB_yes q]
    by_cases h5 : kk = 5
    · have XV1 := Lib.hid (revV_no (fun h : ValidV VV ∧ ¬ kindV VV = 5 => h.2 (XK.trans h5)))
      have XS1 := Lib.hid (revS_fun q (XK.trans h5))
      subst h5
      clear q XK XV XN X40 LN CS
      obtain ⟨k0, k1, k2, k3, k4, k5, k6, k7⟩ := vec8 KA.out
      obtain ⟨z0, z1, z2, z3, z4, z5, z6, z7⟩ := vec8 KR.out
      obtain ⟨f0, f1, f2, f3, f4, f5, f6, f7⟩ := free8 KR.out
      go_wp2
      rw [XV1.out, XS1.out]
      exact vec_endS rfl rfl rfl rfl KR.out (zeroSD _ _ w _ (put8_below B2.out (Nat.le_succ _)))
    · have XV1 := Lib.hid (XV.out q h5)
      have XS1 := Lib.hid (revS_yes q (fun h => h5 (XK ▸ h)))
      have hl := X40.out q h5
      have CS := Lib.hid (CS.out q h5)
      have LN := Lib.hid (fun W => by have h := LN.out W; rw [XN.out h5] at h; exact h)
      have h5b : (kk == 5) = false := beq_eq_false_iff_ne.2 h5
      clear q XK XV XN X40 h5

      have UP := Lib.hid (fun W => implUpTo N W (by omega))
      have RV := Lib.hid (fun W0 W v (h : IntZ W0 W (upL N) v) => implRev (fun i => (i : Int)) N W0 W v h (by omega))
      have RL := Lib.hid (show ((List.range N).map (fun p => ((N - 1 - p : Nat) : Int))).length = N by simp)
      have RA := Lib.hid (fun i (hi : i < N) => (by unfold ixF; rw [rvI_at hi]; simp [List.getD_eq_getElem?_getD, hi] : ((List.range N).map (fun p => ((N - 1 - p : Nat) : Int))).getD i 0 = ixF (rvI N) i))
      obtain ⟨k0, k1, k2, k3, k4, k5, k6, k7⟩ := vec8 KA.out
      go_wp2_with fail
      refine (LN.out _).mono ?_
      rintro e w3 ⟨rfl, b⟩
      have B3 := Lib.hid (below_then B2.out b)
      have KA := Lib.hid (blk_below b KA.out)
      have KR := Lib.hid (blk_below b KR.out)
      clear b k0 k1 k2 k3 k4 k5 k6 k7
      go_wp2_with fail
      refine (UP.out _).mono ?_
      rintro e w4 ⟨v4, rfl, hz⟩
      have HZ := Lib.hid hz
      clear hz
      go_wp2_with fail
      refine (RV.out _ _ _ HZ.out).mono ?_
      rintro e w5 ⟨rfl, hz⟩
      obtain ⟨sa, c, rfl, hi'⟩ := hz.ints
      have HI := Lib.hid (by rw [RL.out] at hi'; exact hi'.congr RA.out : IntsAt w5.heap.size w5 sa N (ixF (rvI N)))
      have B5 := Lib.hid (below_then B3.out hz.below)
      have KA := Lib.hid (blk_below hz.below KA.out)
      have KR := Lib.hid (blk_below hz.below KR.out)
      have RL2 := RL.out
      clear hi' hz
      rw [RL2]
      clear RL2 HZ
      obtain ⟨k0, k1, k2, k3, k4, k5, k6, k7⟩ := vec8 KA.out
      go_wp2_with fail
      refine (CS.out _ _ _ B5.out HI.out).mono ?_
      rintro e w6 ⟨y, rfl, ho, hb⟩
      obtain ⟨yk, ya1, yn1, ym1, ya2, yn2, ym2, ya3, yn3, ym3, ya4, yn4, ym4, ya5, yn5, ym5, yc, ye, rfl⟩ := ho.agg
      have hr5 := (Array.getElem?_eq_some_iff.1 KR.out).1
      have B6 := Lib.hid (below_then B5.out hb)
      have KR := Lib.hid (blk_below hb KR.out)
      have HO := Lib.hid ho
      clear ho hb k0 k1 k2 k3 k4 k5 k6 k7
      obtain ⟨z0, z1, z2, z3, z4, z5, z6, z7⟩ := vec8 KR.out
      obtain ⟨f0, f1, f2, f3, f4, f5, f6, f7⟩ := free8 KR.out
      go_wp2
      rw [XV1.out, XS1.out]
      exact vec_endS rfl rfl rfl rfl KR.out ⟨_, rfl, (HO.out.put8 (by omega) _ _ _ _ _ _ _ _).wide (by omega) (by rw [put8_size]; exact Nat.le_refl _), put8_below B6.out (Nat.le_succ _)⟩
  · rw [bB_no q]
    have XV1 := Lib.hid (revV_no (fun h : ValidV VV ∧ ¬ kindV VV = 5 => q h.1))
    have XS1 := Lib.hid (revS_bad q)
    clear q XK XV XN X40 LN CS
    obtain ⟨z0, z1, z2, z3, z4, z5, z6, z7⟩ := vec8 KR.out
    obtain ⟨f0, f1, f2, f3, f4, f5, f6, f7⟩ := free8 KR.out
    go_wp2
    rw [XV1.out, XS1.out]
    exact vec_endS rfl rfl rfl rfl KR.out (zeroSD _ _ w _ (put8_below B2.out (Nat.le_succ _)))
def dnL (n k : Nat) : List Int := (List.range k).map (fun (i : Nat) => (n : Int) - i)
theorem dnL_succ (n k : Nat) : dnL n (k + 1) = dnL n k ++ [(n : Int) - k] := by unfold dnL; rw [List.range_succ, List.map_append]; rfl
theorem dnL_len (n k : Nat) : (dnL n k).length = k := by unfold dnL; simp
set_option maxHeartbeats 4000000 in
theorem specReverse (d : Nat) (v : Vec) (val : Value) (lo hi : Nat) (w : World) (hv : VecAt lo hi w d v val) (hhi : hi ≤ w.heap.size) (hsm : Small d v) :
    Calls Try.prog 27 #[val] w (ResVS d (revV v) (revS v) w) := by
  have C1 := Lib.hid (fun (w1 : World) (hb : Below w.heap.size w w1) => specIsVector d v val lo hi w1 (hv.below hb hhi) (Nat.le_trans hhi hb.size) hsm)
  obtain ⟨VV, hVV⟩ : ∃ V, v = V := ⟨_, rfl⟩
  rw [hVV] at C1 ⊢
  obtain ⟨kk, items, parts, names, cls, levels, code, env⟩ := v
  obtain ⟨d', ai, ci, ap, cp, an, cn, ac, cc, al, cl, ed, rfl, hI, hN, hC, hL, hP⟩ := vecAt_open hv
  subst ed
  have li : items.length ≤ 1048576 := hsm.1
  have lp : parts.length ≤ 1048576 := hsm.2.1
  have ln : names.length ≤ 1048576 := hsm.2.2.1
  have lc : cls.length ≤ 1048576 := hsm.2.2.2.1
  have ll : levels.length ≤ 1048576 := hsm.2.2.2.2.1
  have hsp : ∀ p ∈ parts, Small d' p := hsm.2.2.2.2.2.2.2.2.2
  have XK : kindV VV = kk := by rw [← hVV]; rfl
  have XV := Lib.hid (fun (h : ValidV VV) (h5 : ¬ kk = 5) => (by rw [← hVV] at h ⊢; exact revV_yes h h5 : revV VV = selV kk items parts names cls levels (rvI (items.length + parts.length))))
  have XN := Lib.hid (fun (h5 : ¬ kk = 5) => (by unfold lenV; rw [if_neg h5] : lenV kk items.length parts.length = items.length + parts.length))
  have X40 := Lib.hid (fun (h : ValidV VV) (h5 : ¬ kk = 5) => (by rw [← hVV] at h; have := (show FlatOk kk items parts.length names cls levels code env from h.1.flat).h_len; unfold lenV at this; rw [if_neg h5] at this; exact this : items.length + parts.length ≤ 40))
  have LN := Lib.hid (fun (W : World) => specLen kk ai ap an ac al items.length ci parts.length cp names.length cn cls.length cc levels.length cl code env W li lp)
  have CS := Lib.hid (fun (h : ValidV VV) (h5 : ¬ kk = 5) (xi : Option Addr) (xc : Nat) (W : World) (hb : Below w.heap.size w W) (hs : IntsAt W.heap.size W xi (items.length + parts.length) (fun i => ixF (rvI (items.length + parts.length)) i + 1)) =>
    (by
      rw [← hVV] at h
      have hl := rvI_len (items.length + parts.length)
      have hn : (items.length + parts.length) ≤ 2097152 := by omega
      have h40 : items.length + parts.length ≤ 40 := by have := (show FlatOk kk items parts.length names cls levels code env from h.1.flat).h_len; unfold lenV at this; rw [if_neg h5] at this; exact this
      have e := specPickV d' kk items parts names cls levels code env ai ap an ac al xi ci cp cn cc cl xc lo hi W.heap.size (rvI (items.length + parts.length)) W (hI.below hb hhi) (hP.below hb hhi) (hN.below hb hhi) (hC.below hb hhi) (hL.below hb hhi) (Nat.le_trans hhi hb.size) hsm h h5 (by rw [hl]; exact hs) (Nat.le_refl _) (by omega) (fun i hi => by rw [hl] at hi; rw [rvI_at hi]; omega)
      rw [hl] at e
      exact e :
    Calls Try.prog 43 #[.agg #[.int .i64 kk, .slice ai items.length ci, .slice ap parts.length cp, .slice an names.length cn, .slice ac cls.length cc, .slice al levels.length cl, .int .i64 code, .int .i64 env], .slice xi (items.length + parts.length) xc] W (ResV (d' + 1) (selV kk items parts names cls levels (rvI (items.length + parts.length))) W)))
  obtain ⟨N, hN'⟩ : ∃ N, items.length + parts.length = N := ⟨_, rfl⟩
  rw [hN'] at XV XN X40 CS
  clear hv hI hN hC hL hP hsm hVV hN' hsp li lp ln lc ll
  go_enter Try.func27, Try.ntmps27
  go_wp2_with fail
  obtain ⟨w1, hw1⟩ : ∃ W, (w.alloc (.cells #[.int .i64 kk, .slice ai items.length ci, .slice ap parts.length cp, .slice an names.length cn, .slice ac cls.length cc, .slice al levels.length cl, .int .i64 code, .int .i64 env] 31)).alloc (.cells #[.int .i64 0, .slice none 0 0, .slice none 0 0, .slice none 0 0, .slice none 0 0, .slice none 0 0, .int .i64 0, .int .i64 0] 31) = W := ⟨_, rfl⟩
  have hsz : (w.alloc (.cells #[.int .i64 kk, .slice ai items.length ci, .slice ap parts.length cp, .slice an names.length cn, .slice ac cls.length cc, .slice al levels.length cl, .int .i64 code, .int .i64 env] 31)).heap.size = w.heap.size + 1 := by simp
  have B1 := Lib.hid (show Below w.heap.size w w1 from hw1 ▸ (below1 w _).alloc (by simp) _)
  have KA := Lib.hid (show w1.heap[w.heap.size]? = some (.cells #[.int .i64 kk, .slice ai items.length ci, .slice ap parts.length cp, .slice an names.length cn, .slice ac cls.length cc, .slice al levels.length cl, .int .i64 code, .int .i64 env] 31 (0, 0)) from hw1 ▸ blk_old (blk_new w _ rfl))
  have KR := Lib.hid (show w1.heap[w.heap.size + 1]? = some (.cells #[.int .i64 0, .slice none 0 0, .slice none 0 0, .slice none 0 0, .slice none 0 0, .slice none 0 0, .int .i64 0, .int .i64 0] 31 (0, 0)) from hw1 ▸ hsz ▸ blk_new (w.alloc (.cells #[.int .i64 kk, .slice ai items.length ci, .slice ap parts.length cp, .slice an names.length cn, .slice ac cls.length cc, .slice al levels.length cl, .int .i64 code, .int .i64 env] 31)) (.cells #[.int .i64 0, .slice none 0 0, .slice none 0 0, .slice none 0 0, .slice none 0 0, .slice none 0 0, .int .i64 0, .int .i64 0] 31) rfl)
  rw [hw1]
  clear hw1 hsz
  with_reducible refine (C1.out _ B1.out).mono ?_
  rintro e w2 ⟨rfl, b⟩
  have B2 := Lib.hid (below_then B1.out b)
  have KA := Lib.hid (blk_below b KA.out)
  have KR := Lib.hid (blk_below b KR.out)
  clear b
  by_cases q : ValidV VV
  · rw [bB_yes q]
    by_cases h5 : kk = 5
    · have XV1 := Lib.hid (revV_no (fun h : ValidV VV ∧ ¬ kindV VV = 5 => h.2 (XK.trans h5)))
      have XS1 := Lib.hid (revS_fun q (XK.trans h5))
      subst h5
      clear q XK XV XN X40 LN CS
      obtain ⟨k0, k1, k2, k3, k4, k5, k6, k7⟩ := vec8 KA.out
      obtain ⟨z0, z1, z2, z3, z4, z5, z6, z7⟩ := vec8 KR.out
      obtain ⟨f0, f1, f2, f3, f4, f5, f6, f7⟩ := free8 KR.out
      go_wp2
      rw [XV1.out, XS1.out]
      exact vec_endS rfl rfl rfl rfl KR.out (zeroSD _ _ w _ (put8_below B2.out (Nat.le_succ _)))
    · have XV1 := Lib.hid (XV.out q h5)
      have XS1 := Lib.hid (revS_yes q (fun h => h5 (XK ▸ h)))
      have hl := X40.out q h5
      have CS := Lib.hid (CS.out q h5)
      have LN := Lib.hid (fun W => by have h := LN.out W; rw [XN.out h5] at h; exact h)
      have h5b : (kk == 5) = false := beq_eq_false_iff_ne.2 h5
      clear q XK XV XN X40 h5

      have RA := Lib.hid (fun i (hi : i < N) => (by unfold ixF dnL; rw [rvI_at hi]; simp [List.getD_eq_getElem?_getD, hi]; omega : (dnL N N).getD i 0 = ixF (rvI N) i + 1))
      have RL := Lib.hid (dnL_len N)
      have NX0 := Lib.hid (dnL_succ N)
      obtain ⟨w3, hw3⟩ : ∃ W, w2.alloc (.cells #[] 3) = W := ⟨_, rfl⟩
      have ST := Lib.hid (show IntZ w2 w3 (dnL N 0) (.slice (some ⟨w2.heap.size, 0, none⟩) 0 0) from hw3 ▸ IntZ.nil0 w2 w2 (Below.refl _ _))
      have B3 := Lib.hid (show Below w2.heap.size w2 w3 from hw3 ▸ below1 w2 _)
      have KA3 := Lib.hid (blk_below B3.out KA.out)
      obtain ⟨k0, k1, k2, k3, k4, k5, k6, k7⟩ := vec8 KA.out
      have EW := Lib.hid hw3
      clear hw3
      go_upto_region 6 with (fail)
      rw [EW.out]
      clear EW k0 k1 k2 k3 k4 k5 k6 k7
      obtain ⟨k0, k1, k2, k3, k4, k5, k6, k7⟩ := vec8 KA3.out
      go_wp2_with fail
      refine (LN.out _).mono ?_
      rintro e w4 ⟨rfl, b⟩
      have ST := Lib.hid (ST.out.keep b)
      clear b k0 k1 k2 k3 k4 k5 k6 k7
      go_wp2
      go_loopw [4, 5] (fun v i wr => ∃ k : Nat, k ≤ N ∧ i = .int .i64 ((N : Int) - k) ∧ IntZ w2 wr (dnL N k) v) (fun _ i _ => (intOf i).toNat)
      case atStart => exact ⟨0, Nat.zero_le _, by simp, ST.out⟩
      case round =>
        obtain ⟨k, hk, rfl, hir⟩ := hrel
        have IR := Lib.hid hir
        clear hir
        by_cases hlt : k < N
        · have LN2 := Lib.hid (show (dnL N k).length ≤ 1048576 by rw [RL.out]; omega)
          have NX := Lib.hid (NX0.out k)
          have hgt : 0 < (N : Int) - k := by omega
          go_wp2_with (at_builtin; go_loud (refine wpList_appInt rfl _ _ rfl ((N : Int) - k) (dnL N k) _ _ rfl rfl (IR.out.keep (below1 _ _)) (blk_new _ _ rfl) LN2.out ?_))
          intro v' w3 hir
          have IN := Lib.hid (NX.out ▸ hir)
          clear hir
          go_wp2
          go_roundw
          case rel => exact ⟨k + 1, by omega, by first | go_num | (congr 1; omega), IN.out⟩
          case measure => simp [intOf]; omega
        · obtain rfl : k = N := by omega
          have hle : (k : Int) - k ≤ 0 := by omega
          obtain ⟨sa, c, rfl, hi'⟩ := IR.out.ints
          have HI := Lib.hid (by rw [RL.out] at hi'; exact hi'.congr RA.out : IntsAt wr.heap.size wr sa k (fun i => ixF (rvI k) i + 1))
          have B5 := Lib.hid (below_then B2.out IR.out.below)
          have KA := Lib.hid (blk_below IR.out.below KA.out)
          have KR := Lib.hid (blk_below IR.out.below KR.out)
          have RL2 := RL.out k
          clear hi'
          rw [RL2]
          clear RL2
          obtain ⟨k0, k1, k2, k3, k4, k5, k6, k7⟩ := vec8 KA.out
          go_wp2_with fail
          refine (CS.out _ _ _ B5.out HI.out).mono ?_
          rintro e w6 ⟨y, rfl, ho, hb⟩
          obtain ⟨yk, ya1, yn1, ym1, ya2, yn2, ym2, ya3, yn3, ym3, ya4, yn4, ym4, ya5, yn5, ym5, yc, ye, rfl⟩ := ho.agg
          have hr5 := (Array.getElem?_eq_some_iff.1 KR.out).1
          have B6 := Lib.hid (below_then B5.out hb)
          have KR := Lib.hid (blk_below hb KR.out)
          have HO := Lib.hid ho
          clear ho hb k0 k1 k2 k3 k4 k5 k6 k7
          obtain ⟨z0, z1, z2, z3, z4, z5, z6, z7⟩ := vec8 KR.out
          obtain ⟨f0, f1, f2, f3, f4, f5, f6, f7⟩ := free8 KR.out
          go_wp2
          rw [XV1.out, XS1.out]
          exact vec_endS rfl rfl rfl rfl KR.out ⟨_, rfl, (HO.out.put8 (by omega) _ _ _ _ _ _ _ _).wide (by omega) (by rw [put8_size]; exact Nat.le_refl _), put8_below B6.out (Nat.le_succ _)⟩
  · rw [bB_no q]
    have XV1 := Lib.hid (revV_no (fun h : ValidV VV ∧ ¬ kindV VV = 5 => q h.1))
    have XS1 := Lib.hid (revS_bad q)
    clear q XK XV XN X40 LN CS
    go_wp2_with fail
    with_reducible refine (specBad _).mono ?_
    rintro e w3 ⟨rfl, b⟩
    have B2 := Lib.hid (below_then B2.out b)
    have KR := Lib.hid (blk_below b KR.out)
    clear b
    obtain ⟨z0, z1, z2, z3, z4, z5, z6, z7⟩ := vec8 KR.out
    obtain ⟨f0, f1, f2, f3, f4, f5, f6, f7⟩ := free8 KR.out
    go_wp2
    rw [XV1.out, XS1.out]
    exact vec_endS rfl rfl rfl rfl KR.out (zeroSD _ _ w _ (put8_below B2.out (Nat.le_succ _)))
end Go.Proofs.Ytfbpbpbmnieieaa

/- RepeatVector: data. -/
namespace Go.Proofs.Ytfbpbpbmnieieaa
open Go.RowKit
set_option maxRecDepth 100000
set_option linter.unusedVariables false

/-- A list, m times. -/
def repL {α : Type} (m : Nat) (l : List α) : List α := (List.replicate m l).flatten
theorem repL_zero {α : Type} (l : List α) : repL 0 l = [] := rfl
theorem repL_succ {α : Type} (m : Nat) (l : List α) : repL (m + 1) l = repL m l ++ l := by
  unfold repL
  rw [List.replicate_succ', List.flatten_append]
  simp
theorem repL_nil {α : Type} (m : Nat) : repL m ([] : List α) = [] := by
  induction m with
  | zero => rfl
  | succ m ih => rw [repL_succ, ih]; rfl
theorem repL_len {α : Type} (m : Nat) (l : List α) : (repL m l).length = l.length * m := by
  induction m with
  | zero => rfl
  | succ m ih => rw [repL_succ, List.length_append, ih, Nat.mul_succ]
theorem repL_mem {α : Type} {m : Nat} {l : List α} {x : α} (h : x ∈ repL m l) : x ∈ l := by
  induction m with
  | zero => cases h
  | succ m ih =>
    rw [repL_succ] at h
    rcases List.mem_append.1 h with h | h
    · exact ih h
    · exact h
/-- The indexes of L elements, m times. -/
def rpI (L m : Nat) : List Nat := (List.range (L * m)).map (fun i => i % L)
theorem rpI_len (L m : Nat) : (rpI L m).length = L * m := by unfold rpI; simp
theorem rpI_at {L m i : Nat} (h : i < L * m) : (rpI L m).getD i 0 = i % L := by unfold rpI; simp [List.getD_eq_getElem?_getD, h]
theorem map_getD {α : Type} (z : α) (l : List α) : (List.range l.length).map (fun i => l.getD i z) = l := by
  apply List.ext_getElem
  · simp
  · intro i h1 h2
    simp [List.getD_eq_getElem?_getD, h2]
theorem pk_rep {α : Type} {z : α} {l : List α} {L : Nat} (h : l.length ≠ 0 → l.length = L) (m : Nat) : pkL z l (rpI L m) = repL m l := by
  by_cases h0 : l.length = 0
  · rw [List.eq_nil_of_length_eq_zero h0, repL_nil]; rfl
  · obtain rfl := h h0
    rw [pkL_some h0]
    unfold rpI
    rw [List.map_map]
    induction m with
    | zero => rfl
    | succ m ih =>
      rw [repL_succ, Nat.mul_succ, List.range_add, List.map_append, ih, List.map_map]
      congr 1
      refine Eq.trans ?_ (map_getD z l)
      refine List.map_congr_left (fun i hi => ?_)
      have hlt := List.mem_range.1 hi
      show l.getD ((l.length * m + i) % l.length) z = l.getD i z
      rw [Nat.mul_add_mod, Nat.mod_eq_of_lt hlt]
def rptR (m : Nat) (v : Vec) : Vec := match v with | .mk kk items parts names cls levels _ _ => .mk kk (repL m items) (repL m parts) (repL m names) (kpC levels cls) levels 0 0
def OkR (n : Int) (v : Vec) : Prop := ValidV v ∧ ¬ kindV v = 5 ∧ (0 ≤ n ∧ n ≤ 40) ∧ ValidV (rptR n.toNat v)
noncomputable def rptV (n : Int) (v : Vec) : Vec := match bB (OkR n v) with | true => rptR n.toNat v | false => noV
noncomputable def rptS (n : Int) (v : Vec) : ByteArray := match bB (ValidV v), bB (kindV v = 5), bB (OkR n v) with | false, _, _ => badB | true, true, _ => nelB | true, false, false => bigB | true, false, true => ⟨#[]⟩
theorem rptV_yes {n : Int} {v : Vec} (h : OkR n v) : rptV n v = rptR n.toNat v := by unfold rptV; rw [bB_yes h]
theorem rptV_no {n : Int} {v : Vec} (h : ¬ OkR n v) : rptV n v = noV := by unfold rptV; rw [bB_no h]
theorem rptS_bad {n : Int} {v : Vec} (h : ¬ ValidV v) : rptS n v = badB := by unfold rptS; rw [bB_no h]
theorem rptS_fun {n : Int} {v : Vec} (h : ValidV v) (hk : kindV v = 5) : rptS n v = nelB := by unfold rptS; rw [bB_yes h, bB_yes hk]
theorem rptS_big {n : Int} {v : Vec} (h : ValidV v) (hk : ¬ kindV v = 5) (ho : ¬ OkR n v) : rptS n v = bigB := by unfold rptS; rw [bB_yes h, bB_no hk, bB_no ho]
theorem rptS_yes {n : Int} {v : Vec} (h : OkR n v) : rptS n v = ⟨#[]⟩ := by unfold rptS; rw [bB_yes h.1, bB_no h.2.1, bB_yes h]
theorem rpt_sel {kk : Int} {items : List It} {parts : List Vec} {names cls levels : List ByteArray} {code env : Int} (hv : ValidV (.mk kk items parts names cls levels code env)) (h5 : ¬ kk = 5) (m : Nat) : selV kk items parts names cls levels (rpI (items.length + parts.length) m) = rptR m (.mk kk items parts names cls levels code env) := by
  have hf : FlatOk kk items parts.length names cls levels code env := hv.1.flat
  have hIP : items.length = 0 ∨ parts.length = 0 := by
    by_cases h4 : kk = 4
    · exact .inl (hf.h_list h4)
    · exact .inr (hf.h_noParts h4)
  have hn : names.length ≠ 0 → names.length = items.length + parts.length := fun h => by
    rcases hf.h_names with e | e
    · exact absurd e h
    · unfold lenV at e; rw [if_neg h5] at e; exact e
  have e1 : pkL noI items (rpI (items.length + parts.length) m) = repL m items := pk_rep (fun h => by omega) m
  have e2 : pkL noV parts (rpI (items.length + parts.length) m) = repL m parts := pk_rep (fun h => by omega) m
  have e3 : pkL ⟨#[]⟩ names (rpI (items.length + parts.length) m) = repL m names := pk_rep hn m
  have e4 : clnN (repL m names) = repL m names := by
    by_cases h0 : names.length = 0
    · rw [List.eq_nil_of_length_eq_zero h0, repL_nil]
      exact clnN_no (fun ⟨i, hi, _⟩ => Nat.not_lt_zero _ hi)
    · cases m with
      | zero => exact clnN_no (fun ⟨i, hi, _⟩ => Nat.not_lt_zero _ hi)
      | succ m =>
        obtain ⟨i, hi, hs⟩ := hf.h_named.2.resolve_left h0
        refine clnN_yes ⟨(repL m names).length + i, by rw [repL_succ, List.length_append]; omega, ?_⟩
        rw [repL_succ, List.getD_eq_getElem?_getD, List.getElem?_append_right (by omega), Nat.add_sub_cancel_left, ← List.getD_eq_getElem?_getD]
        exact hs
  unfold selV
  rw [e1, e2, e3, e4]
  rfl
theorem rpt_len {kk : Int} {items : List It} {parts : List Vec} {names cls levels : List ByteArray} {code env : Int} {m : Nat} (h5 : ¬ kk = 5) (h : ValidV (rptR m (.mk kk items parts names cls levels code env))) : (items.length + parts.length) * m ≤ 40 := by
  have hf : FlatOk kk (repL m items) (repL m parts).length (repL m names) (kpC levels cls) levels 0 0 := h.1.flat
  have := hf.h_len
  unfold lenV at this
  rw [if_neg h5, repL_len, repL_len] at this
  rw [Nat.add_mul]
  exact this
end Go.Proofs.Ytfbpbpbmnieieaa

/- RepeatVector of the reference. -/
namespace Go.Proofs.Ytfbpbpbmnieieaa
open Go.RowKit
set_option maxRecDepth 100000
set_option linter.unusedVariables false

theorem kpC_len (levels cls : List ByteArray) : (kpC levels cls).length ≤ cls.length := by
  cases levels with
  | nil => exact Nat.zero_le _
  | cons x l => exact Nat.le_refl _
theorem kpC_mem {levels cls : List ByteArray} {s : ByteArray} (h : s ∈ kpC levels cls) : s ∈ cls := by
  cases levels with
  | nil => cases h
  | cons x l => exact h
theorem small_rpt {d m : Nat} {v : Vec} (hsm : Small d v) (hv : ValidV v) (hm : m ≤ 40) : Small d (rptR m v) := by
  cases d with
  | zero => exact hsm.elim
  | succ d =>
    obtain ⟨kk, items, parts, names, cls, levels, code, env⟩ := v
    have hf : FlatOk kk items parts.length names cls levels code env := hv.1.flat
    obtain ⟨s1, s2, s3, s4, s5, s6, s7, s8, s9, s10⟩ := hsm
    have hl : items.length ≤ 40 ∧ parts.length ≤ 40 ∧ names.length ≤ 40 := by
      have h1 := hf.h_len
      have h2 := hf.h_noParts
      have h3 := hf.h_names
      have h4 := hf.h_func
      unfold lenV at h1 h3
      by_cases h5 : kk = 5
      · have := h4 h5; have := h2 (by omega); omega
      · rw [if_neg h5] at h1 h3; omega
    have e1 := repL_len m items
    have e2 := repL_len m parts
    have e3 := repL_len m names
    have m1 : items.length * m ≤ 40 * 40 := Nat.mul_le_mul hl.1 hm
    have m2 : parts.length * m ≤ 40 * 40 := Nat.mul_le_mul hl.2.1 hm
    have m3 : names.length * m ≤ 40 * 40 := Nat.mul_le_mul hl.2.2 hm
    have hk := kpC_len levels cls
    show Small (d + 1) (.mk kk (repL m items) (repL m parts) (repL m names) (kpC levels cls) levels 0 0)
    unfold Small
    exact ⟨by omega, by omega, by omega, by omega, s5, fun x hx => s6 x (repL_mem hx), fun s hs => s7 s (repL_mem hs), fun s hs => s8 s (kpC_mem hs), s9, fun p hp => s10 p (repL_mem hp)⟩
def rzL (L k : Nat) : List Int := (List.range k).map (fun (i : Nat) => ((i % L : Nat) : Int) + 1)
theorem rzL_succ (L k : Nat) : rzL L (k + 1) = rzL L k ++ [((k % L : Nat) : Int) + 1] := by unfold rzL; rw [List.range_succ, List.map_append]; rfl
theorem rzL_len (L k : Nat) : (rzL L k).length = k := by unfold rzL; simp
theorem rzL_at {L m i : Nat} (h : i < L * m) : (rzL L (L * m)).getD i 0 = ixF (rpI L m) i + 1 := by unfold ixF rzL; rw [rpI_at h]; simp [List.getD_eq_getElem?_getD, h]
set_option maxHeartbeats 4000000 in
theorem specRepeat (d : Nat) (v : Vec) (val : Value) (a : Int) (lo hi : Nat) (w : World) (hv : VecAt lo hi w d v val) (hhi : hi ≤ w.heap.size) (hsm : Small d v) :
    Calls Try.prog 11 #[val, .int .i64 a] w (ResVS d (rptV a v) (rptS a v) w) := by
  have C1 := Lib.hid (fun (w1 : World) (hb : Below w.heap.size w w1) => specIsVector d v val lo hi w1 (hv.below hb hhi) (Nat.le_trans hhi hb.size) hsm)
  obtain ⟨VV, hVV⟩ : ∃ V, v = V := ⟨_, rfl⟩
  rw [hVV] at C1 ⊢
  obtain ⟨kk, items, parts, names, cls, levels, code, env⟩ := v
  obtain ⟨d', ai, ci, ap, cp, an, cn, ac, cc, al, cl, ed, rfl, hI, hN, hC, hL, hP⟩ := vecAt_open hv
  subst ed
  have li : items.length ≤ 1048576 := hsm.1
  have lp : parts.length ≤ 1048576 := hsm.2.1
  have XK : kindV VV = kk := by rw [← hVV]; rfl
  have XN := Lib.hid (fun (h5 : ¬ kk = 5) => (by unfold lenV; rw [if_neg h5] : lenV kk items.length parts.length = items.length + parts.length))
  have XL := Lib.hid (fun (h5 : ¬ kk = 5) (m : Nat) (h : ValidV (rptR m VV)) => (by rw [← hVV] at h; exact rpt_len h5 h : (items.length + parts.length) * m ≤ 40))
  have X40 := Lib.hid (fun (h : ValidV VV) (h5 : ¬ kk = 5) => (by rw [← hVV] at h; have := (show FlatOk kk items parts.length names cls levels code env from h.1.flat).h_len; unfold lenV at this; rw [if_neg h5] at this; exact this : items.length + parts.length ≤ 40))
  have LN := Lib.hid (fun (W : World) => specLen kk ai ap an ac al items.length ci parts.length cp names.length cn cls.length cc levels.length cl code env W li lp)
  have SR := Lib.hid (fun (h : ValidV VV) (m : Nat) (hm : m ≤ 40) => (by rw [← hVV] at h ⊢; exact small_rpt hsm h hm : Small (d' + 1) (rptR m VV)))
  have CS := Lib.hid (fun (h : ValidV VV) (h5 : ¬ kk = 5) (m : Nat) (hm : (items.length + parts.length) * m ≤ 40) (xi : Option Addr) (xc : Nat) (W : World) (hb : Below w.heap.size w W) (hs : IntsAt W.heap.size W xi ((items.length + parts.length) * m) (fun i => ixF (rpI (items.length + parts.length) m) i + 1)) =>
    (by
      rw [← hVV] at h ⊢
      have hl := rpI_len (items.length + parts.length) m
      have e := specPickV d' kk items parts names cls levels code env ai ap an ac al xi ci cp cn cc cl xc lo hi W.heap.size (rpI (items.length + parts.length) m) W (hI.below hb hhi) (hP.below hb hhi) (hN.below hb hhi) (hC.below hb hhi) (hL.below hb hhi) (Nat.le_trans hhi hb.size) hsm h h5 (by rw [hl]; exact hs) (Nat.le_refl _) (by omega) (fun i hi => by rw [hl] at hi; rw [rpI_at hi]; exact Nat.mod_lt _ (Nat.pos_of_ne_zero (fun h0 => by rw [h0, Nat.zero_mul] at hi; omega)))
      rw [hl, rpt_sel h h5] at e
      exact e :
    Calls Try.prog 43 #[.agg #[.int .i64 kk, .slice ai items.length ci, .slice ap parts.length cp, .slice an names.length cn, .slice ac cls.length cc, .slice al levels.length cl, .int .i64 code, .int .i64 env], .slice xi ((items.length + parts.length) * m) xc] W (ResV (d' + 1) (rptR m VV) W)))
  obtain ⟨L, hL'⟩ : ∃ L, items.length + parts.length = L := ⟨_, rfl⟩
  rw [hL'] at XN XL X40 CS
  clear hv hI hN hC hL hP hsm hVV hL' li lp
  go_enter Try.func11, Try.ntmps11
  go_wp2_with fail
  obtain ⟨w1, hw1⟩ : ∃ W, (w.alloc (.cells #[.int .i64 kk, .slice ai items.length ci, .slice ap parts.length cp, .slice an names.length cn, .slice ac cls.length cc, .slice al levels.length cl, .int .i64 code, .int .i64 env] 31)).alloc (.cells #[.int .i64 0, .slice none 0 0, .slice none 0 0, .slice none 0 0, .slice none 0 0, .slice none 0 0, .int .i64 0, .int .i64 0] 31) = W := ⟨_, rfl⟩
  have hsz : (w.alloc (.cells #[.int .i64 kk, .slice ai items.length ci, .slice ap parts.length cp, .slice an names.length cn, .slice ac cls.length cc, .slice al levels.length cl, .int .i64 code, .int .i64 env] 31)).heap.size = w.heap.size + 1 := by simp
  have B1 := Lib.hid (show Below w.heap.size w w1 from hw1 ▸ (below1 w _).alloc (by simp) _)
  have KA := Lib.hid (show w1.heap[w.heap.size]? = some (.cells #[.int .i64 kk, .slice ai items.length ci, .slice ap parts.length cp, .slice an names.length cn, .slice ac cls.length cc, .slice al levels.length cl, .int .i64 code, .int .i64 env] 31 (0, 0)) from hw1 ▸ blk_old (blk_new w _ rfl))
  have KR := Lib.hid (show w1.heap[w.heap.size + 1]? = some (.cells #[.int .i64 0, .slice none 0 0, .slice none 0 0, .slice none 0 0, .slice none 0 0, .slice none 0 0, .int .i64 0, .int .i64 0] 31 (0, 0)) from hw1 ▸ hsz ▸ blk_new (w.alloc (.cells #[.int .i64 kk, .slice ai items.length ci, .slice ap parts.length cp, .slice an names.length cn, .slice ac cls.length cc, .slice al levels.length cl, .int .i64 code, .int .i64 env] 31)) (.cells #[.int .i64 0, .slice none 0 0, .slice none 0 0, .slice none 0 0, .slice none 0 0, .slice none 0 0, .int .i64 0, .int .i64 0] 31) rfl)
  rw [hw1]
  clear hw1 hsz
  with_reducible refine (C1.out _ B1.out).mono ?_
  rintro e w2 ⟨rfl, b⟩
  have B2 := Lib.hid (below_then B1.out b)
  have KA := Lib.hid (blk_below b KA.out)
  have KR := Lib.hid (blk_below b KR.out)
  clear b
  by_cases q : ValidV VV
  · rw [bB_yes q]
    by_cases h5 : kk = 5
    · have XV1 := Lib.hid (rptV_no (fun h : OkR a VV => h.2.1 (XK.trans h5)))
      have XS1 := Lib.hid (rptS_fun (n := a) q (XK.trans h5))
      subst h5
      clear q XK XN XL X40 LN CS SR
      obtain ⟨k0, k1, k2, k3, k4, k5, k6, k7⟩ := vec8 KA.out
      obtain ⟨z0, z1, z2, z3, z4, z5, z6, z7⟩ := vec8 KR.out
      obtain ⟨f0, f1, f2, f3, f4, f5, f6, f7⟩ := free8 KR.out
      go_wp2
      rw [XV1.out, XS1.out]
      exact vec_endS rfl rfl rfl rfl KR.out (zeroSD _ _ w _ (put8_below B2.out (Nat.le_succ _)))
    · have h5b : (kk == 5) = false := beq_eq_false_iff_ne.2 h5
      have LN := Lib.hid (fun W => by have h := LN.out W; rw [XN.out h5] at h; exact h)
      have hl := X40.out q h5
      have CS := Lib.hid (CS.out q h5)
      have XL := Lib.hid (XL.out h5)
      have SR := Lib.hid (SR.out q)
      have XB := Lib.hid (fun (h : ¬ OkR a VV) => (⟨rptV_no h, rptS_big q (fun h' => h5 (XK ▸ h')) h⟩ : rptV a VV = noV ∧ rptS a VV = bigB))
      have XY := Lib.hid (fun (m : Nat) (hm : a = (m : Int)) (h40 : m ≤ 40) (h : ValidV (rptR m VV)) => (by
        subst hm
        have ho : OkR (m : Int) VV := ⟨q, fun h' => h5 (XK ▸ h'), ⟨by omega, by omega⟩, by rw [Int.toNat_natCast]; exact h⟩
        exact ⟨by rw [rptV_yes ho, Int.toNat_natCast], rptS_yes ho⟩ : rptV a VV = rptR m VV ∧ rptS a VV = ⟨#[]⟩))
      clear XK XN X40 h5 q
      by_cases hr : 0 ≤ a ∧ a ≤ 40
      · obtain ⟨m, rfl⟩ : ∃ m : Nat, a = (m : Int) := ⟨a.toNat, by omega⟩
        have h40 : m ≤ 40 := by omega
        have IY := Lib.hid (fun W => inYes (m : Int) 0 40 W hr.1 hr.2)
        have XY := Lib.hid (XY.out m rfl h40)
        have SR := Lib.hid (SR.out m h40)
        have CS := Lib.hid (CS.out m)
        obtain ⟨P, hP⟩ : ∃ P, L * m = P := ⟨_, rfl⟩
        have hPi : (L : Int) * (m : Int) = (P : Int) := by rw [← hP]; exact (Int.natCast_mul L m).symm
        have hPb : P ≤ 1600 := by rw [← hP]; exact Nat.mul_le_mul hl h40
        have XL := Lib.hid (fun h => (by have := XL.out m h; rw [hP] at this; exact this : P ≤ 40))
        rw [hP] at CS
        clear hr
        obtain ⟨k0, k1, k2, k3, k4, k5, k6, k7⟩ := vec8 KA.out
        go_wp2_with fail
        with_reducible refine (IY.out _).mono ?_
        rintro e w3 ⟨rfl, rfl⟩
        go_wp2_with fail
        refine (LN.out _).mono ?_
        rintro e w3 ⟨rfl, b⟩
        have B3 := Lib.hid (below_then B2.out b)
        have KA := Lib.hid (blk_below b KA.out)
        have KR := Lib.hid (blk_below b KR.out)
        clear b k0 k1 k2 k3 k4 k5 k6 k7
        by_cases hP40 : P ≤ 40
        · have RA := Lib.hid (fun i (hi : i < P) => (by have := rzL_at (L := L) (m := m) (i := i) (by rw [hP]; exact hi); rw [hP] at this; exact this : (rzL L P).getD i 0 = ixF (rpI L m) i + 1))
          have RL := Lib.hid (rzL_len L)
          have NX0 := Lib.hid (rzL_succ L)
          have CS := Lib.hid (CS.out hP40)
          have HP := Lib.hid hP
          clear hP
          obtain ⟨k0, k1, k2, k3, k4, k5, k6, k7⟩ := vec8 KA.out
          have hn40 : ¬ (40 : Int) < (P : Int) := by omega
          go_upto_region 8 with (fail)
          obtain ⟨w4, hw4⟩ : ∃ W, w3.alloc (.cells #[] 3) = W := ⟨_, rfl⟩
          have ST := Lib.hid (show IntZ w3 w4 (rzL L 0) (.slice (some ⟨w3.heap.size, 0, none⟩) 0 0) from hw4 ▸ IntZ.nil0 w3 w3 (Below.refl _ _))
          rw [hw4]
          clear hw4 k0 k1 k2 k3 k4 k5 k6 k7
          go_wp2
          go_loopw [6, 7] (fun v i wr => ∃ k : Nat, k ≤ P ∧ i = .int .i64 k ∧ IntZ w3 wr (rzL L k) v) (fun _ i _ => P - (intOf i).toNat)
          case atStart => exact ⟨0, Nat.zero_le _, rfl, ST.out⟩
          case round =>
            obtain ⟨k, hk, rfl, hir⟩ := hrel
            have IR := Lib.hid hir
            clear hir
            have KA1 := Lib.hid (blk_below IR.out.below KA.out)
            obtain ⟨k0, k1, k2, k3, k4, k5, k6, k7⟩ := vec8 KA1.out
            go_wp2_with fail
            refine (LN.out _).mono ?_
            rintro e w5 ⟨rfl, b⟩
            have IR := Lib.hid (IR.out.keep b)
            clear b k0 k1 k2 k3 k4 k5 k6 k7 KA1
            have KA1 := Lib.hid (blk_below IR.out.below KA.out)
            obtain ⟨k0, k1, k2, k3, k4, k5, k6, k7⟩ := vec8 KA1.out
            by_cases hlt : k < P
            · have hL0 : ¬ L = 0 := fun h0 => by have h := HP.out; rw [h0, Nat.zero_mul] at h; omega
              have hL0i : ((L : Int) == 0) = false := beq_eq_false_iff_ne.2 (by omega)
              have hmod : Int.tmod (k : Int) (L : Int) = ((k % L : Nat) : Int) := by rw [Int.tmod_eq_emod_of_nonneg (by omega)]; exact (Int.natCast_emod k L).symm
              have hml : k % L < L := Nat.mod_lt _ (by omega)
              have LN2 := Lib.hid (show (rzL L k).length ≤ 1048576 by rw [RL.out]; omega)
              have NX := Lib.hid (NX0.out k)
              go_wp2_with fail
              refine (LN.out _).mono ?_
              rintro e w6 ⟨rfl, b⟩
              have IR := Lib.hid (IR.out.keep b)
              clear b k0 k1 k2 k3 k4 k5 k6 k7 KA1
              go_wp2_with (at_builtin; go_loud (refine wpList_appInt rfl _ _ rfl (((k % L : Nat) : Int) + 1) (rzL L k) _ _ rfl rfl (IR.out.keep (below1 _ _)) (blk_new _ _ rfl) LN2.out ?_))
              intro v' w7 hir
              have IN := Lib.hid (NX.out ▸ hir)
              clear hir
              go_wp2
              go_roundw
              case rel => exact ⟨k + 1, by omega, by go_num, IN.out⟩
              case measure => simp [intOf]; omega
            · obtain rfl : k = P := by omega
              clear k0 k1 k2 k3 k4 k5 k6 k7 KA1
              obtain ⟨sa, c, rfl, hi'⟩ := IR.out.ints
              have HI := Lib.hid (by rw [RL.out] at hi'; exact hi'.congr RA.out : IntsAt w5.heap.size w5 sa k (fun i => ixF (rpI L m) i + 1))
              have B5 := Lib.hid (below_then B3.out IR.out.below)
              have KA := Lib.hid (blk_below IR.out.below KA.out)
              have KR := Lib.hid (blk_below IR.out.below KR.out)
              have RL2 := RL.out k
              clear hi'
              rw [RL2]
              clear RL2
              obtain ⟨k0, k1, k2, k3, k4, k5, k6, k7⟩ := vec8 KA.out
              go_wp2_with fail
              refine (CS.out _ _ _ B5.out HI.out).mono ?_
              rintro e w6 ⟨y, rfl, ho, hb⟩
              obtain ⟨yk, ya1, yn1, ym1, ya2, yn2, ym2, ya3, yn3, ym3, ya4, yn4, ym4, ya5, yn5, ym5, yc, ye, rfl⟩ := ho.agg
              have hr5 := (Array.getElem?_eq_some_iff.1 KR.out).1
              have h65 := hb.size
              have B6 := Lib.hid (below_then B5.out hb)
              have KR := Lib.hid (blk_below hb KR.out)
              have HO := Lib.hid ho
              have FT := Lib.hid (specFit (d' + 1) (rptR m VV) _ 0 w6.heap.size w6 (ho.vat (Nat.le_refl _)) (Nat.le_refl _) SR.out)
              clear ho hb k0 k1 k2 k3 k4 k5 k6 k7
              go_wp2_with fail
              refine FT.out.mono ?_
              rintro e w7 ⟨b, hor⟩
              have B7 := Lib.hid (below_then B6.out b)
              have KR := Lib.hid (blk_below b KR.out)
              have HO := Lib.hid (HO.out.below b (Nat.le_refl _))
              have h76 := b.size
              clear b FT
              rcases hor with ⟨hvr, rfl⟩ | ⟨hvr, rfl⟩
              · obtain ⟨x1, x2⟩ := XY.out hvr
                have XV1 := Lib.hid x1
                have XS1 := Lib.hid x2
                clear x1 x2 XY XB hvr
                go_upto_region 13 with (fail)
                obtain ⟨w8, hw8⟩ : ∃ W, w7.alloc (.cells #[.int .i64 yk, .slice ya1 yn1 ym1, .slice ya2 yn2 ym2, .slice ya3 yn3 ym3, .slice ya4 yn4 ym4, .slice ya5 yn5 ym5, .int .i64 yc, .int .i64 ye] 31) = W := ⟨_, rfl⟩
                have N8 := Lib.hid (show w8.heap[w7.heap.size]? = some (.cells #[.int .i64 yk, .slice ya1 yn1 ym1, .slice ya2 yn2 ym2, .slice ya3 yn3 ym3, .slice ya4 yn4 ym4, .slice ya5 yn5 ym5, .int .i64 yc, .int .i64 ye] 31 (0, 0)) from hw8 ▸ blk_new w7 _ rfl)
                have B78 := Lib.hid (show Below w7.heap.size w7 w8 from hw8 ▸ below1 w7 _)
                have B8 := Lib.hid (below_then B7.out B78.out)
                have KR := Lib.hid (blk_below B78.out KR.out)
                have hs8 := B78.out.size
                rw [hw8]
                clear hw8
                obtain ⟨n0, n1, n2, n3, n4, n5, n6, n7⟩ := vec8 N8.out
                obtain ⟨z0, z1, z2, z3, z4, z5, z6, z7⟩ := vec8 KR.out
                obtain ⟨f0, f1, f2, f3, f4, f5, f6, f7⟩ := free8 KR.out
                go_wp2
                rw [XV1.out, XS1.out]
                exact vec_endS rfl rfl rfl rfl KR.out ⟨_, rfl, ((HO.out.below B78.out (by omega)).put8 (by omega) _ _ _ _ _ _ _ _).wide (by omega) (by rw [put8_size]; omega), put8_below B8.out (Nat.le_succ _)⟩
              · obtain ⟨x1, x2⟩ := XB.out (fun h => hvr (by have := h.2.2.2; rw [Int.toNat_natCast] at this; exact this))
                have XV1 := Lib.hid x1
                have XS1 := Lib.hid x2
                clear x1 x2 XY XB hvr
                go_upto_region 13 with (fail)
                obtain ⟨w8, hw8⟩ : ∃ W, w7.alloc (.cells #[.int .i64 0, .slice none 0 0, .slice none 0 0, .slice none 0 0, .slice none 0 0, .slice none 0 0, .int .i64 0, .int .i64 0] 31) = W := ⟨_, rfl⟩
                have N8 := Lib.hid (show w8.heap[w7.heap.size]? = some (.cells #[.int .i64 0, .slice none 0 0, .slice none 0 0, .slice none 0 0, .slice none 0 0, .slice none 0 0, .int .i64 0, .int .i64 0] 31 (0, 0)) from hw8 ▸ blk_new w7 _ rfl)
                have B78 := Lib.hid (show Below w7.heap.size w7 w8 from hw8 ▸ below1 w7 _)
                have B8 := Lib.hid (below_then B7.out B78.out)
                have KR := Lib.hid (blk_below B78.out KR.out)
                have hs8 := B78.out.size
                rw [hw8]
                clear hw8
                obtain ⟨n0, n1, n2, n3, n4, n5, n6, n7⟩ := vec8 N8.out
                obtain ⟨z0, z1, z2, z3, z4, z5, z6, z7⟩ := vec8 KR.out
                obtain ⟨f0, f1, f2, f3, f4, f5, f6, f7⟩ := free8 KR.out
                go_wp2
                rw [XV1.out, XS1.out]
                exact vec_endS rfl rfl rfl rfl KR.out (zeroSD _ _ w _ (put8_below B8.out (Nat.le_succ _)))
        · obtain ⟨x1, x2⟩ := XB.out (fun h => hP40 (XL.out (by have := h.2.2.2; rw [Int.toNat_natCast] at this; exact this)))
          have XV1 := Lib.hid x1
          have XS1 := Lib.hid x2
          have h40p : (40 : Int) < (P : Int) := by omega
          clear x1 x2 XY XB
          obtain ⟨z0, z1, z2, z3, z4, z5, z6, z7⟩ := vec8 KR.out
          obtain ⟨f0, f1, f2, f3, f4, f5, f6, f7⟩ := free8 KR.out
          go_wp2
          rw [XV1.out, XS1.out]
          exact vec_endS rfl rfl rfl rfl KR.out (zeroSD _ _ w _ (put8_below B3.out (Nat.le_succ _)))
      · obtain ⟨x1, x2⟩ := XB.out (fun h => hr h.2.2.1)
        have XV1 := Lib.hid x1
        have XS1 := Lib.hid x2
        have IY := Lib.hid (fun W => inNo a 0 40 W (by omega))
        clear x1 x2 XY XB hr
        obtain ⟨k0, k1, k2, k3, k4, k5, k6, k7⟩ := vec8 KA.out
        go_wp2_with fail
        with_reducible refine (IY.out _).mono ?_
        rintro e w3 ⟨rfl, rfl⟩
        obtain ⟨z0, z1, z2, z3, z4, z5, z6, z7⟩ := vec8 KR.out
        obtain ⟨f0, f1, f2, f3, f4, f5, f6, f7⟩ := free8 KR.out
        go_wp2
        rw [XV1.out, XS1.out]
        exact vec_endS rfl rfl rfl rfl KR.out (zeroSD _ _ w _ (put8_below B2.out (Nat.le_succ _)))
  · rw [bB_no q]
    have XV1 := Lib.hid (rptV_no (fun h : OkR a VV => q h.1))
    have XS1 := Lib.hid (rptS_bad (n := a) q)
    clear q XK XN XL X40 LN CS SR
    go_wp2_with fail
    with_reducible refine (specBad _).mono ?_
    rintro e w3 ⟨rfl, b⟩
    have B2 := Lib.hid (below_then B2.out b)
    have KR := Lib.hid (blk_below b KR.out)
    clear b
    obtain ⟨z0, z1, z2, z3, z4, z5, z6, z7⟩ := vec8 KR.out
    obtain ⟨f0, f1, f2, f3, f4, f5, f6, f7⟩ := free8 KR.out
    go_wp2
    rw [XV1.out, XS1.out]
    exact vec_endS rfl rfl rfl rfl KR.out (zeroSD _ _ w _ (put8_below B2.out (Nat.le_succ _)))
end Go.Proofs.Ytfbpbpbmnieieaa

/- Many elements appended; parts onto a vector under way. -/
namespace Go.Proofs.Ytfbpbpbmnieieaa
open Go.RowKit
set_option maxRecDepth 100000
set_option linter.unusedVariables false

theorem grownM (w : World) (r : Option Nat) : w.grownBy w r := ⟨rfl, rfl, rfl, Nat.le_refl _, fun _ _ _ => rfl⟩
theorem row_cells {w : World} {base : Nat} {el : TypeId} {size n : Nat} {v : Value} {xs : List Value} (h : w.ownsRow base el size v n xs) (hn : 0 < n) : ∃ g cap, v = .slice (some ⟨g, 0, none⟩) n cap ∧ ∀ j u, xs[j]? = some u → w.cell? ((⟨g, 0, none⟩ : Addr).add j) = some u := by
  obtain ⟨h1, ⟨_, h0⟩ | ⟨g, cap, cur, e, _, hg, _, _, _, ht⟩⟩ := h
  · omega
  · refine ⟨g, cap, e, fun j u hj => ?_⟩
    have hlt := (List.getElem?_eq_some_iff.1 hj).1
    rw [addr_add, Nat.zero_add]
    refine cellOf hg ?_
    rw [← hj, ← ht, List.getElem?_take, if_pos (by rw [← ht] at hlt; simp at hlt; omega), Array.getElem?_toList]
theorem own_oneM {w : World} {d : Nat} {v : Vec} {val : Value} {F : List Nat} (h : OwnVec w d v val F) : ∀ u ∈ cl8 val, u.oneCell' = true := by
  cases d with
  | zero => exact h.elim
  | succ d =>
    obtain ⟨k, items, parts, names, cls, levels, code, env⟩ := v
    unfold OwnVec at h
    obtain ⟨ai, ci, ap, cp, an, cn, ac, cc, al, cl, Fi, Fp, Fn, Fc, Fl, rfl, _, _⟩ := h
    intro u hu
    have hu' : u ∈ ([.int .i64 k, .slice ai items.length ci, .slice ap parts.length cp, .slice an names.length cn, .slice ac cls.length cc, .slice al levels.length cl, .int .i64 code, .int .i64 env] : List Value) := hu
    simp only [List.mem_cons, List.not_mem_nil, or_false] at hu'
    rcases hu' with rfl | rfl | rfl | rfl | rfl | rfl | rfl | rfl <;> rfl
theorem flat_oneM {w : World} {d : Nat} {Q : List Vec} {vals : List Value} {Fs : List (List Nat)} (g1 : vals.length = Q.length) (g4 : ∀ i, i < Q.length → OwnVec w d (Q.getD i noV) (vals.getD i undef) (Fs.getD i [])) : ∀ u ∈ vals.flatMap cl8, u.oneCell' = true := by
  intro u hu
  obtain ⟨val, hv, hu'⟩ := List.mem_flatMap.1 hu
  obtain ⟨i, hi⟩ := List.getElem?_of_mem hv
  have hlt := (List.getElem?_eq_some_iff.1 hi).1
  have h := g4 i (by omega)
  rw [show vals.getD i undef = val by rw [List.getD_eq_getElem?_getD, hi]; rfl] at h
  exact own_oneM h u hu'
theorem RowX.appX {lo : Nat} {w w' : World} {d : Nat} {parts Q : List Vec} {v' : Value} {vals vals2 : List Value} {Fs Fs2 : List (List Nat)} (h1 : vals.length = parts.length) (h2 : Fs.length = parts.length)
    (h4 : ∀ i, i < parts.length → OwnVec w d (parts.getD i noV) (vals.getD i undef) (Fs.getD i [])) (g1 : vals2.length = Q.length) (g2 : Fs2.length = Q.length) (g4 : ∀ i, i < Q.length → OwnVec w' d (Q.getD i noV) (vals2.getD i undef) (Fs2.getD i []))
    (hr : w'.ownsRow lo 31 8 v' (parts.length + Q.length) (vals.flatMap cl8 ++ vals2.flatMap cl8)) (hX : ∀ g ∈ Fs.flatten, w'.heap[g]? = w.heap[g]?) : RowX lo w' d (parts ++ Q) v' (Fs.flatten ++ Fs2.flatten) := by
  have hl : (parts ++ Q).length = parts.length + Q.length := by simp
  refine ⟨vals ++ vals2, Fs ++ Fs2, by simp [h1, g1], by simp [h2, g2], ?_, fun i hi => ?_, by simp⟩
  · rw [hl, List.flatMap_append]
    exact hr
  · rw [hl] at hi
    by_cases e : i < parts.length
    · have e0 : (parts ++ Q).getD i noV = parts.getD i noV := by rw [List.getD_eq_getElem?_getD, List.getD_eq_getElem?_getD, List.getElem?_append_left (by omega)]
      have e1 : (vals ++ vals2).getD i undef = vals.getD i undef := by rw [List.getD_eq_getElem?_getD, List.getD_eq_getElem?_getD, List.getElem?_append_left (by omega)]
      have e2 : (Fs ++ Fs2).getD i [] = Fs.getD i [] := by rw [List.getD_eq_getElem?_getD, List.getD_eq_getElem?_getD, List.getElem?_append_left (by omega)]
      rw [e0, e1, e2]
      exact (h4 i e).kept _ _ _ _ (fun b hb => hX b (mem_flat (by omega) hb))
    · have e0 : (parts ++ Q).getD i noV = Q.getD (i - parts.length) noV := by rw [List.getD_eq_getElem?_getD, List.getD_eq_getElem?_getD, List.getElem?_append_right (by omega)]
      have e1 : (vals ++ vals2).getD i undef = vals2.getD (i - parts.length) undef := by rw [List.getD_eq_getElem?_getD, List.getD_eq_getElem?_getD, List.getElem?_append_right (by omega), h1]
      have e2 : (Fs ++ Fs2).getD i [] = Fs2.getD (i - parts.length) [] := by rw [List.getD_eq_getElem?_getD, List.getD_eq_getElem?_getD, List.getElem?_append_right (by omega), h2]
      rw [e0, e1, e2]
      exact g4 _ (by omega)
theorem Und.appP {lo : Nat} {w0 w1 w2 : World} {d : Nat} {items : List It} {parts Q : List Vec} {names cls lev : List ByteArray} {vi vp vn vc vl v' : Value} {X X7 : List Nat} {vals vals2 : List Value} {Fs Fs2 : List (List Nat)} (h : Und lo w0 d items parts names cls lev vi vp vn vc vl X) (hb : Below w0.heap.size w0 w1)
    (h1 : vals.length = parts.length) (h2 : Fs.length = parts.length) (h4 : ∀ i, i < parts.length → OwnVec w1 d (parts.getD i noV) (vals.getD i undef) (Fs.getD i [])) (h5 : Fs.flatten = X)
    (g1 : vals2.length = Q.length) (g2 : Fs2.length = Q.length) (g4 : ∀ i, i < Q.length → OwnVec w1 d (Q.getD i noV) (vals2.getD i undef) (Fs2.getD i [])) (g5 : Fs2.flatten = X7) (n7 : X7.Nodup) (r7 : ∀ g ∈ X7, w0.heap.size ≤ g ∧ g < w1.heap.size)
    (hr : w2.ownsRow lo 31 8 v' (parts.length + Q.length) (vals.flatMap cl8 ++ vals2.flatMap cl8)) (hm : Moved w1 vp v') (hG : ∀ g, lo ≤ g → g < w1.heap.size → vp.ownBlock ≠ some g → w2.heap[g]? = w1.heap[g]?) (hs : w1.heap.size ≤ w2.heap.size) (hlo : lo ≤ w0.heap.size) :
    Und lo w2 d items (parts ++ Q) names cls lev vi v' vn vc vl (X ++ X7) := by
  subst h5
  subst g5
  have hpb := h.pb
  have h01 := hb.size
  have hF : ∀ g ∈ Fs2.flatten, vp.ownBlock ≠ some g := fun g hg e => by have := hpb.1 g e; have := r7 g hg; omega
  have hXk : ∀ g ∈ Fs.flatten, w2.heap[g]? = w1.heap[g]? := fun g hg => by
    have hr := h.rg g hg
    exact hG g hr.1 (by omega) (fun e => h.off.2.1 g e hg)
  have hR := RowX.appX h1 h2 h4 g1 g2 (fun i hi => (g4 i hi).kept _ _ _ _ (fun g hg => by have hm := mem_flat (by omega) hg; have := r7 g hm; exact hG g (by omega) (by omega) (hF g hm))) hr hXk
  have hm0 : Moved w0 vp v' := by
    rcases hm with e | ⟨g, e, hg⟩
    · exact .inl e
    · exact .inr ⟨g, e, by omega⟩
  refine h.setP hR hm0 (fun g hg hlt hne => (hG g hg (by omega) hne).trans (hb.block g hlt)) (by omega) ?_ (fun g hg => ?_) hlo ?_
  · rw [List.nodup_append]
    refine ⟨h.nd, n7, fun a ha b hb' e => ?_⟩
    have := (h.rg a ha).2
    have := (r7 b hb').1
    omega
  · rcases List.mem_append.1 hg with h' | h'
    · have := (h.rg g h').2; exact ⟨.inl h', by omega⟩
    · have := r7 g h'; exact ⟨.inr this.1, by omega⟩
  · intro g hg hx
    rcases hm with e | ⟨g', e, hge⟩
    · rcases List.mem_append.1 hx with h' | h'
      · exact h.off.2.1 g (e ▸ hg) h'
      · exact hF g h' (e ▸ hg)
    · rw [e] at hg
      obtain rfl := Option.some.inj hg
      rcases List.mem_append.1 hx with h' | h'
      · have := (h.rg _ h').2; omega
      · have := (r7 _ h').2; omega
section
variable {P : Program} {ops : Array Oper} {Q : Exit → Act → World → Prop} {S : World → Prop}
variable {r : List (Nat × Bool)} {a : Act} {e : List (Nat × Value)} {w : World} {i d : Nat} {g : Option (Nat × Bool)} {v : Value}
/-- Many elements appended, none too. -/
theorem run_appM {t el : TypeId} {x y : Operand} {v0 : Value} (ho : opAt ops i = some (some d, .call { callee := .builtin .append, args := [x, y].toArray, argTypes := [t, t].toArray }, g)) (hd : Nat.blt d a.tmps.size = true) (hw : wantE ops a e g = some true)
    (hx : lookO a e x = v0) (ad : Option Addr) (m c : Nat) (hy : lookO a e y = .slice ad m c)
    (base : Nat) (ie : TypeInfo) (z : Value) (size bytes : Nat) (ht : P.underlying t = some (.slice el)) (hi : P.info? el = some ie) (hz : ie.zero = some z) (hsize : ie.size = size) (hby : ie.bytes = bytes) (hzs : z.cells.size = size) (hsz : 0 < size)
    (n : Nat) (xs : List Value) (hown : w.ownsRow base el size v0 n xs) (h0 : m = 0 → n = 0) (news : List Value) (hl : news.length = m * size) (hnews : 0 < m → ∃ b : Addr, ad = some b ∧ ∀ j u, news[j]? = some u → w.cell? (b.add j) = some u) (h1 : ∀ u ∈ news, u.oneCell' = true)
    (h63 : n + m ≤ maxLen) (hbytes : (n + m) * bytes ≤ 140737488355328) (hbase : base ≤ w.heap.size)
    (h : ∀ v' w', w'.ownsRow base el size v' (n + m) (xs ++ news) → w.grownBy w' v0.ownBlock → (v'.ownBlock = v0.ownBlock ∨ v'.ownBlock = some w.heap.size) → S w' ∧ RunE P ops Q S r a ((d, v') :: e) w') : RunE P ops Q S ((i, false) :: r) a e w := by
  by_cases hm : 0 < m
  · obtain ⟨b, rfl, hn2⟩ := hnews hm
    exact run_appAt ho hd hw hx b m c hy base ie z size bytes ht hi hz hsize hby hzs hsz n xs hown news hl hn2 h1 h63 hbytes hbase h
  · obtain rfl : m = 0 := by omega
    obtain rfl := h0 rfl
    have hxs : xs = [] := List.eq_nil_of_length_eq_zero (by rw [hown.1, Nat.zero_mul])
    subst hxs
    exact run_appW ho hd hw hx ad 0 c hy base ie z size bytes ht hi hz hsize hby hzs hsz hown news hl (fun h => absurd h (Nat.lt_irrefl _)) h1 (Nat.zero_le _) (by omega) hbase h
end
theorem wpList_appM {P : Program} {w : World} {ops : Array Oper} {rest : List Oper} {o : Oper} {a : Act} {Q : Exit → Act → World → Prop} (hgd : o.guard = none) (s x : Operand) (t : TypeId) {el : TypeId}
    (ho : o.op = .call { callee := .builtin .append, args := #[s, x], argTypes := #[t, t] }) (base : Nat) (ie : TypeInfo) (z : Value) (size bytes : Nat) (ht : P.underlying t = some (.slice el)) (hi : P.info? el = some ie) (hz : ie.zero = some z) (hsize : ie.size = size) (hby : ie.bytes = bytes) (hzs : z.cells.size = size) (hsz : 0 < size)
    (v0 : Value) (n : Nat) (xs : List Value) (hs : a.eval s = v0) (hown : w.ownsRow base el size v0 n xs) (ad : Option Addr) (m c : Nat) (news : List Value) (hx : a.eval x = .slice ad m c) (h0 : m = 0 → n = 0) (hl : news.length = m * size) (hnews : 0 < m → ∃ b : Addr, ad = some b ∧ ∀ j u, news[j]? = some u → w.cell? (b.add j) = some u) (h1 : ∀ u ∈ news, u.oneCell' = true)
    (h63 : n + m ≤ maxLen) (hbytes : (n + m) * bytes ≤ 140737488355328) (hbase : base ≤ w.heap.size)
    (h : ∀ v' w', w'.ownsRow base el size v' (n + m) (xs ++ news) → w.grownBy w' v0.ownBlock → Moved w v0 v' → wpList P ops Q rest (a.put o.dst v') w') : wpList P ops Q (o :: rest) a w := by
  by_cases hm : 0 < m
  · obtain ⟨b, rfl, hn2⟩ := hnews hm
    exact wpList_append_own_at w hgd s x t ho base el ie z size bytes ht hi hz hsize hby hzs hsz v0 n xs hs hown b m c news hx hl hn2 h1 h63 hbytes hbase (fun v' w' q1 q2 _ q4 => h v' w' q1 q2 (q4.imp id (fun e => ⟨_, e, Nat.le_refl _⟩)))
  · obtain rfl : m = 0 := by omega
    obtain rfl := h0 rfl
    have hxs : xs = [] := List.eq_nil_of_length_eq_zero (by rw [hown.1, Nat.zero_mul])
    have hns : news = [] := List.eq_nil_of_length_eq_zero (by rw [hl, Nat.zero_mul])
    subst hxs
    subst hns
    have hrun := fun ty => run_app0W (P := P) (w := w) (ty := ty) (v0 := v0) ht hi (by
      obtain ⟨_, ⟨e, _⟩ | ⟨g, k, _, e, _⟩⟩ := hown
      · exact .inl e
      · exact .inr ⟨g, k, e⟩) ad c
    refine wpList_plain hgd fun K hK => ?_
    have hnext := h v0 w hown (grownM _ _) (.inl rfl)
    unfold Oper.wp
    simp [execOp, ho, resolve, invoke, builtin, hs, hx, hrun, Result.andThen]
    exact hK _ _ hnext
/-- Parts appended to a vector's field: the end of a drawn region. -/
theorem tail_vecsM {ops : Array Oper} {Q : Exit → Act → World → Prop} {a : Act} {e : List (Nat × Value)} {w0 w1 : World} {L : List (Nat × TypeId × Array Value)} {i2 i3 i4 d2 d4 b j base : Nat} {s y p : Operand} {v0 c : Value} {C : Array Value} {tt : TypeId} {n m cap : Nat} {ad : Option Addr} {xs news : List Value}
    (ho2 : opAt ops i2 = some (some d2, .call { callee := .builtin .append, args := [s, y].toArray, argTypes := [29, 29].toArray }, none)) (hd2 : Nat.blt d2 a.tmps.size = true) (hs : lookO a e s = v0) (hy : lookO a e y = .slice ad m cap)
    (ho4 : opAt ops i4 = some (some d4, .fieldAddr 31 p j, none)) (hd4 : Nat.blt d4 a.tmps.size = true) (hf : Nat.blt j 8 = true) (hp : ∀ u', lookO a ((d2, u') :: e) p = .pointer (some ⟨b, 0, none⟩))
    (ho3 : opAt ops i3 = some (none, .store 29 (.tmp d4) (.tmp d2), none)) (hl : lastK ops i3 = true) (hne : Nat.beq d4 d2 = false)
    (H : HeldC w0 w1 L) (hown : w1.ownsRow base 31 8 v0 n xs) (h0 : m = 0 → n = 0) (hnl : news.length = m * 8) (hnews : 0 < m → ∃ b : Addr, ad = some b ∧ ∀ j u, news[j]? = some u → w1.cell? (b.add j) = some u) (h1 : ∀ u ∈ news, u.oneCell' = true) (hn : n + m ≤ 1048576) (hbase : base ≤ w1.heap.size) (hw0 : w0.heap.size ≤ base) (hm : (b, tt, C) ∈ L) (hj : C[j]? = some c)
    (hL : ∀ q ∈ L, ∀ k, v0.ownBlock = some k → q.1 ≠ k)
    (h : ∀ v' W, (∃ sa n c, v' = .slice sa n c) → W.ownsRow base 31 8 v' (n + m) (xs ++ news) → w1.grownBy W v0.ownBlock → Moved w1 v0 v' → HeldC w0 W L → Q .normal (putAll a ((d4, .pointer (some ⟨b, j, none⟩)) :: (d2, v') :: e)) (W.setCell ⟨b, j, none⟩ v')) :
    RunE Try.prog ops Q (fun w' => HeldC w0 w' L) [(i2, false), (i4, true), (i3, false)] a e w1 := by
  obtain ⟨ie, hie, hz, hsz, hby⟩ := info_parts infoVec8
  refine run_appM ho2 hd2 rfl hs ad m cap hy base ie _ 8 144 Try.underlying29 hie hz hsz hby rfl (by decide) n xs hown h0 news hnl hnews h1 (by unfold maxLen; omega) (by omega) hbase (fun v' W2 hO2 hg2 hwh => ?_)
  have H2 : HeldC w0 W2 L := heldC_grown H hg2 (fun k hk => ⟨by have := (hown.lt k hk).1; omega, fun q hq => hL q hq k hk⟩)
  have hv : ∃ sa n c, v' = .slice sa n c := by
    obtain ⟨_, h | ⟨g, cap, cur, e, _⟩⟩ := hO2
    · exact ⟨_, _, _, h.1⟩
    · exact ⟨_, _, _, e⟩
  have hM : Moved w1 v0 v' := hwh.imp id (fun e => ⟨_, e, Nat.le_refl _⟩)
  have hq := h v' W2 hv hO2 hg2 hM H2
  obtain ⟨sa, n', c', rfl⟩ := hv
  exact ⟨H2, runC_partV hf ho4 hd4 rfl (hp _) (run_last_field hl ho3 rfl store_vecs (look_new _ _) (look_next hne) (heldC_at H2 hm) hj (fun W3 hW3 => run_done (hW3 ▸ hq)))⟩
/-- The class and the levels, made before the rest, beside the rest. -/
theorem Und.join {lo b : Nat} {w : World} {d : Nat} {items : List It} {parts : List Vec} {names cls lev : List ByteArray} {vi vp vn vc vl : Value} {X : List Nat} (h : Und b w d items parts names [] [] vi vp vn (.slice none 0 0) (.slice none 0 0) X) (hc : w.ownsRow lo 9 1 vc cls.length (cls.map Value.string)) (hl : w.ownsRow lo 9 1 vl lev.length (lev.map Value.string))
    (hcl : Apart2 vc vl) (bc : ∀ g, vc.ownBlock = some g → g < b) (bl : ∀ g, vl.ownBlock = some g → g < b) (hlo : lo ≤ b) : Und lo w d items parts names cls lev vi vp vn vc vl X := by
  have h' := h.wide hlo
  have ap : ∀ {u v : Value}, (∀ g, u.ownBlock = some g → b ≤ g) → (∀ g, v.ownBlock = some g → g < b) → Apart2 u v := fun hu hv g e1 e2 => by have := hu g e1; have := hv g e2; omega
  have li := fun g hg => (h.i.lt g hg).1
  have lp := h.pb.2
  have ln := fun g hg => (h.n.lt g hg).1
  exact ⟨h'.i, h'.p, h'.n, hc, hl, h.nd, h'.rg, ⟨⟨h.two.1.1, h.two.1.2.1, ap li bc, ap li bl⟩, ⟨h.two.2.1.1, ap lp bc, ap lp bl⟩, ⟨ap ln bc, ap ln bl⟩, hcl⟩, ⟨h.off.1, h.off.2.1, h.off.2.2.1, fun g e hx => by have := bc g e; have := (h.rg g hx).1; omega, fun g e hx => by have := bl g e; have := (h.rg g hx).1; omega⟩⟩
end Go.Proofs.Ytfbpbpbmnieieaa

/- The program's last look at a result: withinLimits. -/
namespace Go.Proofs.Ytfbpbpbmnieieaa
set_option maxRecDepth 100000
open Go.RowKit
set_option linter.unusedVariables false
set_option maxHeartbeats 4000000 in
theorem implFit (d : Nat) (v : Vec) (val : Value) (lo hi : Nat) (w : World) (hv : VecAt lo hi w d v val) (hhi : hi ≤ w.heap.size) (hsm : Small d v) :
    Calls Try.prog 48 #[val] w fun e w' => Below w.heap.size w w' ∧ ((ValidV v ∧ e = .returned (.tuple #[val, .string ⟨#[]⟩])) ∨ (¬ ValidV v ∧ e = .returned (.tuple #[.agg #[.int .i64 0, .slice none 0 0, .slice none 0 0, .slice none 0 0, .slice none 0 0, .slice none 0 0, .int .i64 0, .int .i64 0], .string bigB]))) := by
  have C1 := Lib.hid (fun (w1 : World) (hb : Below w.heap.size w w1) => implIsVector d v val lo hi w1 (hv.below hb hhi) (Nat.le_trans hhi hb.size) hsm)
  obtain ⟨VV, hVV⟩ : ∃ V, v = V := ⟨_, rfl⟩
  rw [hVV] at C1 ⊢
  obtain ⟨kk, items, parts, names, cls, levels, code, env⟩ := v
  obtain ⟨d', ai, ci, ap, cp, an, cn, ac, cc, al, cl, ed, rfl, hI, hN, hC, hL, hP⟩ := vecAt_open hv
  clear hv hI hN hC hL hP hsm ed hVV
  go_enter Try.func48, Try.ntmps48
  go_wp2_with fail
  obtain ⟨w1, hw1⟩ : ∃ W, (w.alloc (.cells #[.int .i64 kk, .slice ai items.length ci, .slice ap parts.length cp, .slice an names.length cn, .slice ac cls.length cc, .slice al levels.length cl, .int .i64 code, .int .i64 env] 31)).alloc (.cells #[.int .i64 0, .slice none 0 0, .slice none 0 0, .slice none 0 0, .slice none 0 0, .slice none 0 0, .int .i64 0, .int .i64 0] 31) = W := ⟨_, rfl⟩
  have hsz : (w.alloc (.cells #[.int .i64 kk, .slice ai items.length ci, .slice ap parts.length cp, .slice an names.length cn, .slice ac cls.length cc, .slice al levels.length cl, .int .i64 code, .int .i64 env] 31)).heap.size = w.heap.size + 1 := by simp
  have B1 := Lib.hid (show Below w.heap.size w w1 from hw1 ▸ (below1 w _).alloc (by simp) _)
  have KA := Lib.hid (show w1.heap[w.heap.size]? = some (.cells #[.int .i64 kk, .slice ai items.length ci, .slice ap parts.length cp, .slice an names.length cn, .slice ac cls.length cc, .slice al levels.length cl, .int .i64 code, .int .i64 env] 31 (0, 0)) from hw1 ▸ blk_old (blk_new w _ rfl))
  have KR := Lib.hid (show w1.heap[w.heap.size + 1]? = some (.cells #[.int .i64 0, .slice none 0 0, .slice none 0 0, .slice none 0 0, .slice none 0 0, .slice none 0 0, .int .i64 0, .int .i64 0] 31 (0, 0)) from hw1 ▸ hsz ▸ blk_new (w.alloc (.cells #[.int .i64 kk, .slice ai items.length ci, .slice ap parts.length cp, .slice an names.length cn, .slice ac cls.length cc, .slice al levels.length cl, .int .i64 code, .int .i64 env] 31)) (.cells #[.int .i64 0, .slice none 0 0, .slice none 0 0, .slice none 0 0, .slice none 0 0, .slice none 0 0, .int .i64 0, .int .i64 0] 31) rfl)
  rw [hw1]
  clear hw1 hsz
  with_reducible refine (C1.out _ B1.out).mono ?_
  rintro e w2 ⟨rfl, b⟩
  have B2 := Lib.hid (below_then B1.out b)
  have KA2 := Lib.hid (blk_below b KA.out)
  have KR2 := Lib.hid (blk_below b KR.out)
  clear b
  obtain ⟨k0, k1, k2, k3, k4, k5, k6, k7⟩ := vec8 KA2.out
  obtain ⟨z0, z1, z2, z3, z4, z5, z6, z7⟩ := vec8 KR2.out
  obtain ⟨f0, f1, f2, f3, f4, f5, f6, f7⟩ := free8 KR2.out
  by_cases q : ValidV VV
  · rw [bB_yes q]
    have Q := Lib.hid q
    clear q
    go_wp2
    exact vec_endS rfl rfl rfl rfl KR2.out ⟨put8_below B2.out (Nat.le_succ _), .inl ⟨Q.out, rfl⟩⟩
  · rw [bB_no q]
    have Q := Lib.hid q
    clear q
    go_wp2
    exact vec_endS rfl rfl rfl rfl KR2.out ⟨put8_below B2.out (Nat.le_succ _), .inr ⟨Q.out, rfl⟩⟩
end Go.Proofs.Ytfbpbpbmnieieaa

/- RepeatVector of the program. -/
namespace Go.Proofs.Ytfbpbpbmnieieaa
open Go.RowKit
set_option maxRecDepth 100000
set_option linter.unusedVariables false

theorem infoI : ∃ ie : TypeInfo, Try.prog.info? 67 = some ie ∧ ie.zero = some (.agg #[.int .i64 0, .int .i64 0, .string ⟨#[]⟩]) ∧ ie.size = 3 ∧ ie.bytes = 32 := info_parts infoItm3
theorem infoS : ∃ ie : TypeInfo, Try.prog.info? 9 = some ie ∧ ie.zero = some (.string ⟨#[]⟩) ∧ ie.size = 1 ∧ ie.bytes = 16 := info_parts infoStr
set_option maxHeartbeats 8000000 in
theorem implRepeat (d : Nat) (v : Vec) (val : Value) (a : Int) (lo hi : Nat) (w : World) (hv : VecAt lo hi w d v val) (hhi : hi ≤ w.heap.size) (hsm : Small d v) :
    Calls Try.prog 13 #[val, .int .i64 a] w (ResVS d (rptV a v) (rptS a v) w) := by
  have C1 := Lib.hid (fun (w1 : World) (hb : Below w.heap.size w w1) => implIsVector d v val lo hi w1 (hv.below hb hhi) (Nat.le_trans hhi hb.size) hsm)
  obtain ⟨VV, hVV⟩ : ∃ V, v = V := ⟨_, rfl⟩
  rw [hVV] at C1 ⊢
  obtain ⟨kk, items, parts, names, cls, levels, code, env⟩ := v
  obtain ⟨d', ai, ci, ap, cp, an, cn, ac, cc, al, cl, ed, rfl, hI, hN, hC, hL, hP⟩ := vecAt_open hv
  subst ed
  have XK : kindV VV = kk := by rw [← hVV]; rfl
  have XR := Lib.hid (fun m => (by rw [← hVV]; rfl : rptR m VV = .mk kk (repL m items) (repL m parts) (repL m names) (kpC levels cls) levels 0 0))
  have X40 := Lib.hid (fun (h : ValidV VV) (h5 : ¬ kk = 5) => (by
    rw [← hVV] at h
    have hf := (show FlatOk kk items parts.length names cls levels code env from h.1.flat)
    have h1 := hf.h_len
    have h2 := hf.h_names
    unfold lenV at h1 h2
    rw [if_neg h5] at h1 h2
    omega : items.length + parts.length ≤ 40 ∧ names.length ≤ 40))
  have SR := Lib.hid (fun (h : ValidV VV) (m : Nat) (hm : m ≤ 40) => (by rw [← hVV] at h ⊢; exact small_rpt hsm h hm : Small (d' + 1) (rptR m VV)))
  have CW := Lib.hid (fun (W : World) (hb : Below w.heap.size w W) => implWithout d' kk items parts names cls levels code env ai ap an ac al ci cp cn cc cl lo hi W (hC.below hb hhi) (hL.below hb hhi) (Nat.le_trans hhi hb.size) hsm.2.2.2.1 hsm.2.2.2.2.1)
  have CV := Lib.hid (fun (W : World) (hb : Below w.heap.size w W) => (icsAll d').out parts ap cp lo hi W (hP.below hb hhi) (Nat.le_trans hhi hb.size) (fun i hi => hsm.2.2.2.2.2.2.2.2.2 _ (by rw [List.getD_eq_getElem?_getD, List.getElem?_eq_getElem hi]; exact List.getElem_mem hi)) hsm.2.1)
  have NI := Lib.hid (fun (W : World) (hb : Below w.heap.size w W) (h : 0 < items.length) => (by
    obtain ⟨g, off, rfl⟩ := items_some hI h
    exact ⟨⟨g, off, none⟩, rfl, itCells_in (hI.below hb hhi)⟩ : ∃ g : Addr, ai = some g ∧ ∀ j u, (itCells items)[j]? = some u → W.cell? (g.add j) = some u))
  have NN := Lib.hid (fun (W : World) (hb : Below w.heap.size w W) (h : 0 < names.length) => (by
    obtain ⟨g, off, rfl⟩ := texts_some hN h
    exact ⟨⟨g, off, none⟩, rfl, news_cells (hN.below hb hhi)⟩ : ∃ g : Addr, an = some g ∧ ∀ j u, (names.map Value.string)[j]? = some u → W.cell? (g.add j) = some u))
  have HI0 := Lib.hid (fun k (h : items.length = 0) => (by rw [repL_len, h, Nat.zero_mul] : (repL k items).length = 0))
  have HP0 := Lib.hid (fun k (h : parts.length = 0) => (by rw [repL_len, h, Nat.zero_mul] : (repL k parts).length = 0))
  have HN0 := Lib.hid (fun k (h : names.length = 0) => (by rw [repL_len, h, Nat.zero_mul] : (repL k names).length = 0))
  have LEI := Lib.hid (fun k => repL_len k items)
  have LEP := Lib.hid (fun k => repL_len k parts)
  have LEN := Lib.hid (fun k => repL_len k names)
  have SI := Lib.hid (fun k => repL_succ k items)
  have SP := Lib.hid (fun k => repL_succ k parts)
  have SN := Lib.hid (fun k => repL_succ k names)
  clear hv hI hN hC hL hP hsm hVV
  go_enter Try.func13, Try.ntmps13
  go_wp2_with fail
  obtain ⟨w1, hw1⟩ : ∃ W, (w.alloc (.cells #[.int .i64 kk, .slice ai items.length ci, .slice ap parts.length cp, .slice an names.length cn, .slice ac cls.length cc, .slice al levels.length cl, .int .i64 code, .int .i64 env] 31)).alloc (.cells #[.int .i64 0, .slice none 0 0, .slice none 0 0, .slice none 0 0, .slice none 0 0, .slice none 0 0, .int .i64 0, .int .i64 0] 31) = W := ⟨_, rfl⟩
  have hsz : (w.alloc (.cells #[.int .i64 kk, .slice ai items.length ci, .slice ap parts.length cp, .slice an names.length cn, .slice ac cls.length cc, .slice al levels.length cl, .int .i64 code, .int .i64 env] 31)).heap.size = w.heap.size + 1 := by simp
  have B1 := Lib.hid (show Below w.heap.size w w1 from hw1 ▸ (below1 w _).alloc (by simp) _)
  have KA := Lib.hid (show w1.heap[w.heap.size]? = some (.cells #[.int .i64 kk, .slice ai items.length ci, .slice ap parts.length cp, .slice an names.length cn, .slice ac cls.length cc, .slice al levels.length cl, .int .i64 code, .int .i64 env] 31 (0, 0)) from hw1 ▸ blk_old (blk_new w _ rfl))
  have KR := Lib.hid (show w1.heap[w.heap.size + 1]? = some (.cells #[.int .i64 0, .slice none 0 0, .slice none 0 0, .slice none 0 0, .slice none 0 0, .slice none 0 0, .int .i64 0, .int .i64 0] 31 (0, 0)) from hw1 ▸ hsz ▸ blk_new (w.alloc (.cells #[.int .i64 kk, .slice ai items.length ci, .slice ap parts.length cp, .slice an names.length cn, .slice ac cls.length cc, .slice al levels.length cl, .int .i64 code, .int .i64 env] 31)) (.cells #[.int .i64 0, .slice none 0 0, .slice none 0 0, .slice none 0 0, .slice none 0 0, .slice none 0 0, .int .i64 0, .int .i64 0] 31) rfl)
  rw [hw1]
  clear hw1 hsz
  with_reducible refine (C1.out _ B1.out).mono ?_
  rintro e w2 ⟨rfl, b⟩
  have B2 := Lib.hid (below_then B1.out b)
  have KA := Lib.hid (blk_below b KA.out)
  have KR := Lib.hid (blk_below b KR.out)
  clear b
  by_cases q : ValidV VV
  · rw [bB_yes q]
    by_cases h5 : kk = 5
    · have XV1 := Lib.hid (rptV_no (fun h : OkR a VV => h.2.1 (XK.trans h5)))
      have XS1 := Lib.hid (rptS_fun (n := a) q (XK.trans h5))
      subst h5
      clear q XK XR X40 SR CW CV NI NN HI0 HP0 HN0 LEI LEP LEN SI SP SN
      obtain ⟨k0, k1, k2, k3, k4, k5, k6, k7⟩ := vec8 KA.out
      obtain ⟨z0, z1, z2, z3, z4, z5, z6, z7⟩ := vec8 KR.out
      obtain ⟨f0, f1, f2, f3, f4, f5, f6, f7⟩ := free8 KR.out
      go_wp2
      rw [XV1.out, XS1.out]
      exact vec_endS rfl rfl rfl rfl KR.out (zeroSD _ _ w _ (put8_below B2.out (Nat.le_succ _)))
    · have h5b : (kk == 5) = false := beq_eq_false_iff_ne.2 h5
      have XB := Lib.hid (fun (h : ¬ OkR a VV) => (⟨rptV_no h, rptS_big q (fun h' => h5 (XK ▸ h')) h⟩ : rptV a VV = noV ∧ rptS a VV = bigB))
      have XY := Lib.hid (fun (m : Nat) (hm : a = (m : Int)) (h40 : m ≤ 40) (h : ValidV (rptR m VV)) => (by
        subst hm
        have ho : OkR (m : Int) VV := ⟨q, fun h' => h5 (XK ▸ h'), ⟨by omega, by omega⟩, by rw [Int.toNat_natCast]; exact h⟩
        exact ⟨by rw [rptV_yes ho, Int.toNat_natCast], rptS_yes ho⟩ : rptV a VV = rptR m VV ∧ rptS a VV = ⟨#[]⟩))
      have h40' := Lib.hid (X40.out q h5)
      have SR := Lib.hid (SR.out q)
      clear XK X40 h5 q
      by_cases hr : 0 ≤ a ∧ a ≤ 40
      · obtain ⟨m, rfl⟩ : ∃ m : Nat, a = (m : Int) := ⟨a.toNat, by omega⟩
        have hm40 : m ≤ 40 := by omega
        have XY := Lib.hid (XY.out m rfl hm40)
        have SR := Lib.hid (SR.out m hm40)
        have ha0 : ¬ (m : Int) < 0 := by omega
        have ha1 : ¬ (40 : Int) < (m : Int) := by omega
        clear hr
        obtain ⟨a0, a1, a2, a3, a4, a5, a6, a7⟩ := vec8 KA.out
        go_wp2_with fail
        with_reducible refine (CW.out _ B2.out).mono ?_
        rintro e w3 ⟨sc, nc, qc, sl, nl, ql, rfl, hu, b'⟩
        have KR1 := KR
        have B3 := Lib.hid (below_then B2.out b')
        have KA := Lib.hid (blk_below b' KA.out)
        have KR := Lib.hid (blk_below b' KR.out)
        have hrb := (Array.getElem?_eq_some_iff.1 KR.out).1
        have UF := Lib.hid (hu.free (b := w3.heap.size) (Nat.le_refl _))
        have hL1 := (Array.getElem?_eq_some_iff.1 KR1.out).1
        have SL := b'.size
        have hwL := B2.out.size
        obtain ⟨L0, hL0⟩ : ∃ L0, w2.heap.size = L0 := ⟨_, rfl⟩
        rw [hL0] at hu SL hL1 hwL
        have U := Lib.hid hu
        clear hu b' a0 a1 a2 a3 a4 a5 a6 a7 KR1 hL0
        go_upto_region 8 with (fail)
        obtain ⟨w4, hw4⟩ : ∃ W, w3.alloc (.cells #[.int .i64 kk, .slice none 0 0, .slice none 0 0, .slice none 0 0, .slice sc nc qc, .slice sl nl ql, .int .i64 0, .int .i64 0] 31) = W := ⟨_, rfl⟩
        have KB := Lib.hid (show w4.heap[w3.heap.size]? = some (.cells #[.int .i64 kk, .slice none 0 0, .slice none 0 0, .slice none 0 0, .slice sc nc qc, .slice sl nl ql, .int .i64 0, .int .i64 0] 31 (0, 0)) from hw4 ▸ blk_new w3 _ rfl)
        have KA := Lib.hid (show w4.heap[w.heap.size]? = some (.cells #[.int .i64 kk, .slice ai items.length ci, .slice ap parts.length cp, .slice an names.length cn, .slice ac cls.length cc, .slice al levels.length cl, .int .i64 code, .int .i64 env] 31 (0, 0)) from hw4 ▸ blk_old KA.out)
        have KR := Lib.hid (show w4.heap[w.heap.size + 1]? = some (.cells #[.int .i64 0, .slice none 0 0, .slice none 0 0, .slice none 0 0, .slice none 0 0, .slice none 0 0, .int .i64 0, .int .i64 0] 31 (0, 0)) from hw4 ▸ blk_old KR.out)
        have BW := Lib.hid (show Below w.heap.size w w4 from hw4 ▸ B3.out.alloc B3.out.size _)
        have U := Lib.hid (show Und L0 w4 _ _ _ _ _ _ _ _ _ _ _ _ from hw4 ▸ U.out.below (below1 w3 _))
        rw [hw4]
        clear hw4
        have hLb := SL
        obtain ⟨b, hb⟩ : ∃ b, w3.heap.size = b := ⟨_, rfl⟩
        rw [hb] at KB UF hrb hLb ⊢
        clear hb SL B3
        have hb4 := (Array.getElem?_eq_some_iff.1 KB.out).1
        go_wp2
        go_loopw [28] (fun i wr => ∃ (k : Nat) (vi vp vn : Value) (X : List Nat), k ≤ m ∧ i = .int .i64 k ∧ Below w.heap.size w wr ∧ wr.heap[w.heap.size]? = some (.cells #[.int .i64 kk, .slice ai items.length ci, .slice ap parts.length cp, .slice an names.length cn, .slice ac cls.length cc, .slice al levels.length cl, .int .i64 code, .int .i64 env] 31 (0, 0)) ∧ wr.heap[w.heap.size + 1]? = some (.cells #[.int .i64 0, .slice none 0 0, .slice none 0 0, .slice none 0 0, .slice none 0 0, .slice none 0 0, .int .i64 0, .int .i64 0] 31 (0, 0)) ∧ wr.heap[b]? = some (.cells #[.int .i64 kk, vi, vp, vn, .slice sc nc qc, .slice sl nl ql, .int .i64 0, .int .i64 0] 31 (0, 0)) ∧ Und L0 wr d' (repL k items) (repL k parts) (repL k names) (kpC levels cls) levels vi vp vn (.slice sc nc qc) (.slice sl nl ql) X ∧ UFree b vi vp vn (.slice sc nc qc) (.slice sl nl ql) X ∧ b < wr.heap.size) (fun i _ => m - (intOf i).toNat)
        case atStart => exact ⟨0, .slice none 0 0, .slice none 0 0, .slice none 0 0, [], Nat.zero_le _, rfl, BW.out, KA.out, KR.out, KB.out, U.out, UF.out, hb4⟩
        case round =>
          obtain ⟨k, vi, vp, vn, X, hk, rfl, hbw', hka, hkr, hkb, hu, huf, hbk⟩ := hrel
          have BW := Lib.hid hbw'
          have KA := Lib.hid hka
          have KR := Lib.hid hkr
          have KB := Lib.hid hkb
          have U := Lib.hid hu
          have UF := Lib.hid huf
          have SL : L0 ≤ wr.heap.size := Nat.le_trans hLb (Nat.le_of_lt hbk)
          clear hbw' hka hkr hkb hu huf hbk hb4
          by_cases hlt : k < m
          · have hk40 : k ≤ 40 := by omega
            have EI := Lib.hid (show (repL k items).length ≤ 1600 by rw [LEI.out]; exact Nat.mul_le_mul (Nat.le_trans (Nat.le_add_right _ _) h40'.out.1) hk40)
            have EP := Lib.hid (show (repL k parts).length ≤ 1600 by rw [LEP.out]; exact Nat.mul_le_mul (Nat.le_trans (Nat.le_add_left _ _) h40'.out.1) hk40)
            have EN := Lib.hid (show (repL k names).length ≤ 1600 by rw [LEN.out]; exact Nat.mul_le_mul h40'.out.2 hk40)
            obtain ⟨ieI, hieI⟩ := infoI
            obtain ⟨ieS, hieS⟩ := infoS
            obtain ⟨a0, a1, a2, a3, a4, a5, a6, a7⟩ := vec8 KA.out
            obtain ⟨k0, k1, k2, k3, k4, k5, k6, k7⟩ := vec8 KB.out
            obtain ⟨g0, g1, g2, g3, g4, g5, g6, g7⟩ := free8 KB.out
            have hbw := (Array.getElem?_eq_some_iff.1 KB.out).1
            have hwa := (Array.getElem?_eq_some_iff.1 KA.out).1
            have hwr := (Array.getElem?_eq_some_iff.1 KR.out).1
            go_wp2_with (at_builtin; go_loud (refine wpList_appM (P := Try.prog) rfl _ _ 28 rfl L0 ieI _ 3 32 Try.underlying28 hieI.1 hieI.2.1 hieI.2.2.1 hieI.2.2.2 rfl (by decide) vi (repL k items).length (itCells (repL k items)) rfl U.out.i ai items.length ci (itCells items) rfl (HI0.out k) (by rw [itCells_len]) (NI.out _ BW.out) (itCells_one items) (by have := EI.out; have := h40'.out.1; unfold maxLen; omega) (by have := EI.out; have := h40'.out.1; omega) SL ?_))
            intro v4 w4 hO hg hM
            obtain ⟨si, qi, rfl⟩ := row_form hO
            have KAn := (show w4.heap[w.heap.size]? = some (.cells #[.int .i64 kk, .slice ai items.length ci, .slice ap parts.length cp, .slice an names.length cn, .slice ac cls.length cc, .slice al levels.length cl, .int .i64 code, .int .i64 env] 31 (0, 0)) from (hg.block _ hwa (fun e => by have := (U.out.i.lt _ e.symm).1; omega)).trans KA.out)
            have KRn := (show w4.heap[w.heap.size + 1]? = some (.cells #[.int .i64 0, .slice none 0 0, .slice none 0 0, .slice none 0 0, .slice none 0 0, .slice none 0 0, .int .i64 0, .int .i64 0] 31 (0, 0)) from (hg.block _ hwr (fun e => by have := (U.out.i.lt _ e.symm).1; omega)).trans KR.out)
            have KBn := (show w4.heap[b]? = _ from (hg.block _ hbw (fun e => UF.out.1 e.symm)).trans KB.out)
            have BW := Lib.hid (BW.out.grown hg BW.out.size (fun g e => by have := (U.out.i.lt g e).1; omega))
            have UFn := (show UFree b _ _ _ _ _ _ from ⟨ufree_of UF.out.1 hM hbw, UF.out.2⟩)
            have Un := U.out.setI (items' := repL k items ++ items) (by rw [List.length_append, itCells_app]; exact hO) hM (fun g _ hlt hne => hg.block g hlt (fun e => hne e.symm)) hg.size
            clear a0 a1 a2 a3 a4 a5 a6 a7 k0 k1 k2 k3 k4 k5 k6 k7 g0 g1 g2 g3 g4 g5 g6 g7 hbw hwa hwr
            have KA := Lib.hid KAn
            have KR := Lib.hid KRn
            have KB := Lib.hid KBn
            have U := Lib.hid Un
            have UF := Lib.hid UFn
            have SL := Nat.le_trans SL hg.size
            clear KAn KRn KBn UFn Un hO hg hM
            obtain ⟨ni, hni⟩ : ∃ n, (repL k items).length + items.length = n := ⟨_, rfl⟩
            rw [hni] at U UF ⊢
            clear hni
            obtain ⟨a0, a1, a2, a3, a4, a5, a6, a7⟩ := vec8 KA.out
            obtain ⟨k0, k1, k2, k3, k4, k5, k6, k7⟩ := vec8 KB.out
            obtain ⟨g0, g1, g2, g3, g4, g5, g6, g7⟩ := free8 KB.out
            have hbw := (Array.getElem?_eq_some_iff.1 KB.out).1
            have hwa := (Array.getElem?_eq_some_iff.1 KA.out).1
            have hwr := (Array.getElem?_eq_some_iff.1 KR.out).1
            go_upto_region 11 with (fail)
            clear a0 a1 a2 a3 a4 a5 a6 a7 k0 k1 k2 k3 k4 k5 k6 k7 g0 g1 g2 g3 g4 g5 g6 g7 hbw hwa hwr
            obtain ⟨w41, hw⟩ : ∃ W, w4.setCell ⟨b, 1, none⟩ (.slice si ni qi) = W := ⟨_, rfl⟩
            have KB := Lib.hid (show w41.heap[b]? = some (.cells #[.int .i64 kk, .slice si ni qi, vp, vn, .slice sc nc qc, .slice sl nl ql, .int .i64 0, .int .i64 0] 31 (0, 0)) from hw ▸ Joins.block_setCell KB.out _)
            have KA := Lib.hid (show w41.heap[w.heap.size]? = some (.cells #[.int .i64 kk, .slice ai items.length ci, .slice ap parts.length cp, .slice an names.length cn, .slice ac cls.length cc, .slice al levels.length cl, .int .i64 code, .int .i64 env] 31 (0, 0)) from hw ▸ (Below.heap_setCell _ _ _ _ (show w.heap.size ≠ b by omega)).trans KA.out)
            have KR := Lib.hid (show w41.heap[w.heap.size + 1]? = some (.cells #[.int .i64 0, .slice none 0 0, .slice none 0 0, .slice none 0 0, .slice none 0 0, .slice none 0 0, .int .i64 0, .int .i64 0] 31 (0, 0)) from hw ▸ (Below.heap_setCell _ _ _ _ (show w.heap.size + 1 ≠ b by omega)).trans KR.out)
            have BW := Lib.hid (show Below w.heap.size w w41 from hw ▸ BW.out.setCell (p := ⟨b, 1, none⟩) (show w.heap.size ≤ b by omega) _)
            have U := Lib.hid (show Und L0 w41 _ _ _ _ _ _ _ _ _ _ _ _ from hw ▸ U.out.put2 UF.out)
            have SL := Nat.le_trans SL (show w4.heap.size ≤ w41.heap.size from hw ▸ (by simp))
            rw [hw]
            clear hw
            have KRW := KR
            have LNP := Lib.hid (show (repL k parts).length + parts.length ≤ 1048576 by have := EP.out; have := h40'.out.1; omega)
            have H := Lib.hid (show HeldC w w41 ([(w.heap.size, 31, #[.int .i64 kk, .slice ai items.length ci, .slice ap parts.length cp, .slice an names.length cn, .slice ac cls.length cc, .slice al levels.length cl, .int .i64 code, .int .i64 env]), (b, 31, #[.int .i64 kk, .slice si ni qi, vp, vn, .slice sc nc qc, .slice sl nl ql, .int .i64 0, .int .i64 0])]) from heldC_cons (heldC_cons ⟨BW.out, (fun _ h => by cases h)⟩ KB.out) KA.out)
            refine run_region (ops := (opsOf Try.f13 11)) (S := fun w' => HeldC w w' ([(w.heap.size, 31, #[.int .i64 kk, .slice ai items.length ci, .slice ap parts.length cp, .slice an names.length cn, .slice ac cls.length cc, .slice al levels.length cl, .int .i64 code, .int .i64 env]), (b, 31, #[.int .i64 kk, (.slice si ni qi), vp, vn, .slice sc nc qc, .slice sl nl ql, .int .i64 0, .int .i64 0])])) [(0, true), (1, true), (2, true), (3, true), (4, false), (5, false), (6, true), (7, false)] (by kernel_rfl) (by kernel_rfl) (by kernel_rfl) (by kernel_rfl) (by kernel_rfl) (fun _ _ _ _ _ h => h) (heldC_drew H.out) ?_
            have H := Lib.hid (heldC_drew H.out)
            have U := Lib.hid (U.out.keep (below_drew' (Below.refl _ _)))
            refine runC_partV (b := b) (by kernel_rfl) (show opAt (opsOf Try.f13 11) 0 = some (some 36, .fieldAddr 31 (.tmp 6) 2, none) from by kernel_rfl) (by kernel_rfl) (by kernel_rfl) (by kernel_rfl) ?_
            refine runC_cell (b := b) (j := 2) (v := vp) load_vecs (show opAt (opsOf Try.f13 11) 1 = some (some 37, .load 29 (.tmp 36), none) from by kernel_rfl) (by kernel_rfl) (by kernel_rfl) (by kernel_rfl) (List.Mem.tail _ (List.Mem.head _)) rfl ?_
            refine runC_partV (b := w.heap.size) (by kernel_rfl) (show opAt (opsOf Try.f13 11) 2 = some (some 38, .fieldAddr 31 (.tmp 2) 2, none) from by kernel_rfl) (by kernel_rfl) (by kernel_rfl) (by kernel_rfl) ?_
            refine runC_cell (b := w.heap.size) (j := 2) (v := .slice ap parts.length cp) load_vecs (show opAt (opsOf Try.f13 11) 3 = some (some 39, .load 29 (.tmp 38), none) from by kernel_rfl) (by kernel_rfl) (by kernel_rfl) (by kernel_rfl) (List.Mem.head _) rfl ?_
            refine run_call (args := [.slice ap parts.length cp]) (show opAt (opsOf Try.f13 11) 4 = some (some 40, .call { callee := .value (.func 47), args := [(.tmp 39)].toArray, argTypes := [29].toArray }, none) from by kernel_rfl) (by kernel_rfl) (by kernel_rfl) (by kernel_rfl) (by kernel_rfl) ?_
            refine (CV.out _ H.out.1).mono ?_
            have HLO := Lib.hid (Nat.le_of_lt (Nat.lt_of_le_of_lt hLb (Array.getElem?_eq_some_iff.1 (heldC_at H.out (List.Mem.tail _ (List.Mem.head _)))).1))
            have HBD := Lib.hid (Array.getElem?_eq_some_iff.1 (heldC_at H.out (List.Mem.tail _ (List.Mem.head _)))).1
            rintro en rv1 ⟨v7, F7, rfl, hop, hnd7, hrg7, hb, xs7, hxs7⟩
            obtain ⟨X7, hrx7, hxn7, hxf7, hxo7⟩ := hop.rowX hnd7 hxs7
            obtain ⟨s7, c7, rfl⟩ := row_form hxs7
            obtain ⟨vals2, Fs2, q1, q2, q3, q4, q5⟩ := hrx7.ex
            refine ⟨_, rfl, heldC_call H.out hb, ?_⟩
            have H := Lib.hid (heldC_call H.out hb)
            have HB := Lib.hid hb
            have KRW := Lib.hid (blk_below hb KRW.out)
            have h7 := Lib.hid (fun g hg => hrg7 g (hxf7 g hg))
            have HX7 := Lib.hid hxn7
            obtain ⟨vals, Fs, v1, v2, v3, v4, v5⟩ := (U.out.below hb).p.ex
            clear hb hop hnd7 hrg7 hxs7 hrx7 hxf7 hxo7 hxn7
            refine tail_vecsM (v0 := vp) (ad := s7) (m := parts.length) (cap := c7) (show opAt (opsOf Try.f13 11) 5 = some (some 41, .call { callee := .builtin .append, args := [(.tmp 37), (.tmp 40)].toArray, argTypes := [29, 29].toArray }, none) from by kernel_rfl) (by kernel_rfl) (by kernel_rfl) (by kernel_rfl) (show opAt (opsOf Try.f13 11) 6 = some (some 42, .fieldAddr 31 (.tmp 6) 2, none) from by kernel_rfl) (by kernel_rfl) (by kernel_rfl) (fun _ => by kernel_rfl) (show opAt (opsOf Try.f13 11) 7 = some (none, .store 29 (.tmp 42) (.tmp 41), none) from by kernel_rfl) (by kernel_rfl) (by kernel_rfl) H.out v3 (HP0.out k) q3.1 (fun h => by obtain ⟨g, cap, e, hc⟩ := row_cells q3 h; cases e; exact ⟨_, rfl, hc⟩) (flat_oneM q1 q4) LNP.out (Nat.le_of_lt (Nat.lt_of_le_of_lt hLb (Array.getElem?_eq_some_iff.1 (heldC_at H.out (List.Mem.tail _ (List.Mem.head _)))).1)) hwL (List.Mem.tail _ (List.Mem.head _)) rfl (fun u hu g hg => by simp only [List.mem_cons, List.not_mem_nil, or_false] at hu; rcases hu with rfl | rfl; (have := (U.out.pb.2 g hg); simp only; omega); (intro e; exact UF.out.2.1 (by rw [hg, ← e]))) ?_
            rintro v' w5 ⟨sa, sn, sc7, rfl⟩ hO hg hM hH2
            simp only [putAll, Act.put, List.setIfInBounds_toArray, List.set_cons_zero, List.set_cons_succ]
            have hh1 := (Array.getElem?_eq_some_iff.1 KRW.out).1
            have Un := U.out.appP HB.out v1 v2 v4 v5 q1 q2 q4 q5 HX7.out h7.out hO hM (fun g _ hlt hne => hg.block g hlt (fun e => hne e.symm)) hg.size HLO.out
            have UFn : UFree b _ _ _ _ _ (X ++ X7) := ⟨UF.out.1, ufree_of UF.out.2.1 hM (Array.getElem?_eq_some_iff.1 (heldC_at H.out (List.Mem.tail _ (List.Mem.head _)))).1, UF.out.2.2.1, UF.out.2.2.2.1, UF.out.2.2.2.2.1, fun e => by
              rcases List.mem_append.1 e with h | h
              · exact UF.out.2.2.2.2.2 h
              · have := h7.out b h; have := HBD.out; omega⟩
            have KA := Lib.hid (heldC_at hH2 (List.Mem.head _))
            have KB := Lib.hid (heldC_at hH2 (List.Mem.tail _ (List.Mem.head _)))
            have KR := Lib.hid ((hg.block _ hh1 (fun e => by have := U.out.pb.2 _ e.symm; omega)).trans KRW.out)
            have BW := Lib.hid hH2.1
            have SL : L0 ≤ w5.heap.size := Nat.le_trans HLO.out (Nat.le_trans HB.out.size hg.size)
            have U := Lib.hid Un
            have UF := Lib.hid UFn
            clear Un UFn hh1 v1 v2 v3 v4 v5 q1 q2 q3 q4 q5 HX7 h7 hO hM hg hH2 HB HLO HBD KRW H LNP
            obtain ⟨np, hnp⟩ : ∃ n, (repL k parts).length + parts.length = n := ⟨_, rfl⟩
            try rw [hnp] at U UF
            clear hnp
            obtain ⟨w51, hw⟩ : ∃ W, w5.setCell ⟨b, 2, none⟩ (.slice sa sn sc7) = W := ⟨_, rfl⟩
            have KB := Lib.hid (show w51.heap[b]? = some (.cells #[.int .i64 kk, .slice si ni qi, .slice sa sn sc7, vn, .slice sc nc qc, .slice sl nl ql, .int .i64 0, .int .i64 0] 31 (0, 0)) from hw ▸ Joins.block_setCell KB.out _)
            have KA := Lib.hid (show w51.heap[w.heap.size]? = some (.cells #[.int .i64 kk, .slice ai items.length ci, .slice ap parts.length cp, .slice an names.length cn, .slice ac cls.length cc, .slice al levels.length cl, .int .i64 code, .int .i64 env] 31 (0, 0)) from hw ▸ (Below.heap_setCell _ _ _ _ (show w.heap.size ≠ b by omega)).trans KA.out)
            have KR := Lib.hid (show w51.heap[w.heap.size + 1]? = some (.cells #[.int .i64 0, .slice none 0 0, .slice none 0 0, .slice none 0 0, .slice none 0 0, .slice none 0 0, .int .i64 0, .int .i64 0] 31 (0, 0)) from hw ▸ (Below.heap_setCell _ _ _ _ (show w.heap.size + 1 ≠ b by omega)).trans KR.out)
            have BW := Lib.hid (show Below w.heap.size w w51 from hw ▸ BW.out.setCell (p := ⟨b, 2, none⟩) (show w.heap.size ≤ b by omega) _)
            have U := Lib.hid (show Und L0 w51 _ _ _ _ _ _ _ _ _ _ _ _ from hw ▸ U.out.put2 UF.out)
            have SL := Nat.le_trans SL (show w5.heap.size ≤ w51.heap.size from hw ▸ (by simp))
            rw [hw]
            clear hw
            obtain ⟨a0, a1, a2, a3, a4, a5, a6, a7⟩ := vec8 KA.out
            obtain ⟨k0, k1, k2, k3, k4, k5, k6, k7⟩ := vec8 KB.out
            obtain ⟨g0, g1, g2, g3, g4, g5, g6, g7⟩ := free8 KB.out
            have hbw := (Array.getElem?_eq_some_iff.1 KB.out).1
            have hwa := (Array.getElem?_eq_some_iff.1 KA.out).1
            have hwr := (Array.getElem?_eq_some_iff.1 KR.out).1
            go_wp2_with (at_builtin; go_loud (refine wpList_appM (P := Try.prog) rfl _ _ 24 rfl L0 ieS _ 1 16 Try.underlying24 hieS.1 hieS.2.1 hieS.2.2.1 hieS.2.2.2 rfl (by decide) vn (repL k names).length ((repL k names).map Value.string) rfl U.out.n an names.length cn (names.map Value.string) rfl (HN0.out k) (by simp) (NN.out _ BW.out) (fun u hu => by obtain ⟨s, _, rfl⟩ := List.mem_map.1 hu; rfl) (by have := EN.out; have := h40'.out.2; unfold maxLen; omega) (by have := EN.out; have := h40'.out.2; omega) SL ?_))
            intro v6 w6 hO hg hM
            obtain ⟨s6, q6, rfl⟩ := row_form hO
            have KAn := (show w6.heap[w.heap.size]? = some (.cells #[.int .i64 kk, .slice ai items.length ci, .slice ap parts.length cp, .slice an names.length cn, .slice ac cls.length cc, .slice al levels.length cl, .int .i64 code, .int .i64 env] 31 (0, 0)) from (hg.block _ hwa (fun e => by have := (U.out.n.lt _ e.symm).1; omega)).trans KA.out)
            have KRn := (show w6.heap[w.heap.size + 1]? = some (.cells #[.int .i64 0, .slice none 0 0, .slice none 0 0, .slice none 0 0, .slice none 0 0, .slice none 0 0, .int .i64 0, .int .i64 0] 31 (0, 0)) from (hg.block _ hwr (fun e => by have := (U.out.n.lt _ e.symm).1; omega)).trans KR.out)
            have KBn := (show w6.heap[b]? = _ from (hg.block _ hbw (fun e => UF.out.2.2.1 e.symm)).trans KB.out)
            have BW := Lib.hid (BW.out.grown hg BW.out.size (fun g e => by have := (U.out.n.lt g e).1; omega))
            have UFn := (show UFree b _ _ _ _ _ _ from ⟨UF.out.1, UF.out.2.1, ufree_of UF.out.2.2.1 hM hbw, UF.out.2.2.2⟩)
            have Un := U.out.setN (names' := repL k names ++ names) (by rw [List.length_append, List.map_append]; exact hO) hM (fun g _ hlt hne => hg.block g hlt (fun e => hne e.symm)) hg.size
            clear a0 a1 a2 a3 a4 a5 a6 a7 k0 k1 k2 k3 k4 k5 k6 k7 g0 g1 g2 g3 g4 g5 g6 g7 hbw hwa hwr
            have KA := Lib.hid KAn
            have KR := Lib.hid KRn
            have KB := Lib.hid KBn
            have U := Lib.hid Un
            have UF := Lib.hid UFn
            have SL := Nat.le_trans SL hg.size
            clear KAn KRn KBn UFn Un hO hg hM
            obtain ⟨nn, hnn⟩ : ∃ n, (repL k names).length + names.length = n := ⟨_, rfl⟩
            rw [hnn] at U UF ⊢
            clear hnn
            obtain ⟨a0, a1, a2, a3, a4, a5, a6, a7⟩ := vec8 KA.out
            obtain ⟨k0, k1, k2, k3, k4, k5, k6, k7⟩ := vec8 KB.out
            obtain ⟨g0, g1, g2, g3, g4, g5, g6, g7⟩ := free8 KB.out
            have hbw := (Array.getElem?_eq_some_iff.1 KB.out).1
            have hwa := (Array.getElem?_eq_some_iff.1 KA.out).1
            have hwr := (Array.getElem?_eq_some_iff.1 KR.out).1
            go_upto_region 13 with (fail)
            clear a0 a1 a2 a3 a4 a5 a6 a7 k0 k1 k2 k3 k4 k5 k6 k7 g0 g1 g2 g3 g4 g5 g6 g7 hbw hwa hwr
            obtain ⟨w61, hw⟩ : ∃ W, w6.setCell ⟨b, 3, none⟩ (.slice s6 nn q6) = W := ⟨_, rfl⟩
            have KB := Lib.hid (show w61.heap[b]? = some (.cells #[.int .i64 kk, .slice si ni qi, .slice sa sn sc7, .slice s6 nn q6, .slice sc nc qc, .slice sl nl ql, .int .i64 0, .int .i64 0] 31 (0, 0)) from hw ▸ Joins.block_setCell KB.out _)
            have KA := Lib.hid (show w61.heap[w.heap.size]? = some (.cells #[.int .i64 kk, .slice ai items.length ci, .slice ap parts.length cp, .slice an names.length cn, .slice ac cls.length cc, .slice al levels.length cl, .int .i64 code, .int .i64 env] 31 (0, 0)) from hw ▸ (Below.heap_setCell _ _ _ _ (show w.heap.size ≠ b by omega)).trans KA.out)
            have KR := Lib.hid (show w61.heap[w.heap.size + 1]? = some (.cells #[.int .i64 0, .slice none 0 0, .slice none 0 0, .slice none 0 0, .slice none 0 0, .slice none 0 0, .int .i64 0, .int .i64 0] 31 (0, 0)) from hw ▸ (Below.heap_setCell _ _ _ _ (show w.heap.size + 1 ≠ b by omega)).trans KR.out)
            have BW := Lib.hid (show Below w.heap.size w w61 from hw ▸ BW.out.setCell (p := ⟨b, 3, none⟩) (show w.heap.size ≤ b by omega) _)
            have U := Lib.hid (show Und L0 w61 _ _ _ _ _ _ _ _ _ _ _ _ from hw ▸ U.out.put2 UF.out)
            have SL := Nat.le_trans SL (show w6.heap.size ≤ w61.heap.size from hw ▸ (by simp))
            rw [hw]
            clear hw
            have hb6 := (Array.getElem?_eq_some_iff.1 KB.out).1
            go_wp2
            go_roundw
            case rel => first | exact ⟨k + 1, _, _, _, X ++ X7, by omega, by go_num, BW.out, KA.out, KR.out, KB.out, by rw [SI.out, SP.out, SN.out]; exact U.out, UF.out, hb6⟩ | ((repeat apply Exists.intro); exact ⟨⟨k + 1, _, _, _, X ++ X7, by omega, by go_num, BW.out, KA.out, KR.out, KB.out, by rw [SI.out, SP.out, SN.out]; exact U.out, UF.out, hb6⟩, rfl⟩)
            case measure => simp [intOf]; omega
          · obtain rfl : k = m := by omega
            obtain ⟨si, qi, rfl⟩ := row_form U.out.i
            obtain ⟨xs, hxs⟩ := U.out.p.row
            obtain ⟨sp, qp, rfl⟩ := row_form hxs
            obtain ⟨sn, qn, rfl⟩ := row_form U.out.n
            have O := Lib.hid (by have h := U.out.own kk; rw [← XR.out k] at h; exact h)
            have FT := Lib.hid (implFit (d' + 1) (rptR k VV) _ 0 wr.heap.size wr (O.out.vat (Nat.le_refl _)) (Nat.le_refl _) SR.out)
            clear hxs U UF
            obtain ⟨k0, k1, k2, k3, k4, k5, k6, k7⟩ := vec8 KB.out
            go_wp2_with fail
            refine FT.out.mono ?_
            rintro e w7 ⟨b', hor⟩
            have B7 := Lib.hid (below_then BW.out b')
            have KR := Lib.hid (blk_below b' KR.out)
            have O := Lib.hid (O.out.below b' (Nat.le_refl _))
            have h76 := b'.size
            clear b' FT k0 k1 k2 k3 k4 k5 k6 k7
            obtain ⟨z0, z1, z2, z3, z4, z5, z6, z7⟩ := vec8 KR.out
            obtain ⟨f0, f1, f2, f3, f4, f5, f6, f7⟩ := free8 KR.out
            rcases hor with ⟨hvr, rfl⟩ | ⟨hvr, rfl⟩
            · obtain ⟨x1, x2⟩ := XY.out hvr
              have XV1 := Lib.hid x1
              have XS1 := Lib.hid x2
              clear x1 x2 XY XB hvr
              go_wp2
              rw [XV1.out, XS1.out]
              exact vec_endS rfl rfl rfl rfl KR.out ⟨_, rfl, (O.out.put8 hL1 _ _ _ _ _ _ _ _).wide hwL (by rw [put8_size]; exact h76), put8_below B7.out (Nat.le_succ _)⟩
            · obtain ⟨x1, x2⟩ := XB.out (fun h => hvr (by have := h.2.2.2; rw [Int.toNat_natCast] at this; exact this))
              have XV1 := Lib.hid x1
              have XS1 := Lib.hid x2
              clear x1 x2 XY XB hvr
              go_wp2
              rw [XV1.out, XS1.out]
              exact vec_endS rfl rfl rfl rfl KR.out (zeroSD _ _ w _ (put8_below B7.out (Nat.le_succ _)))
      · obtain ⟨x1, x2⟩ := XB.out (fun h => hr h.2.2.1)
        have XV1 := Lib.hid x1
        have XS1 := Lib.hid x2
        clear x1 x2 XY XB CW CV NI NN HI0 HP0 HN0 LEI LEP LEN SI SP SN
        obtain ⟨k0, k1, k2, k3, k4, k5, k6, k7⟩ := vec8 KA.out
        obtain ⟨z0, z1, z2, z3, z4, z5, z6, z7⟩ := vec8 KR.out
        obtain ⟨f0, f1, f2, f3, f4, f5, f6, f7⟩ := free8 KR.out
        by_cases ha : a < 0
        · clear hr
          go_wp2
          rw [XV1.out, XS1.out]
          exact vec_endS rfl rfl rfl rfl KR.out (zeroSD _ _ w _ (put8_below B2.out (Nat.le_succ _)))
        · have ha2 : (40 : Int) < a := by omega
          clear hr
          go_wp2
          rw [XV1.out, XS1.out]
          exact vec_endS rfl rfl rfl rfl KR.out (zeroSD _ _ w _ (put8_below B2.out (Nat.le_succ _)))
  · rw [bB_no q]
    have XV1 := Lib.hid (rptV_no (fun h : OkR a VV => q h.1))
    have XS1 := Lib.hid (rptS_bad (n := a) q)
    clear q XK XR X40 SR CW CV NI NN HI0 HP0 HN0 LEI LEP LEN SI SP SN
    obtain ⟨z0, z1, z2, z3, z4, z5, z6, z7⟩ := vec8 KR.out
    obtain ⟨f0, f1, f2, f3, f4, f5, f6, f7⟩ := free8 KR.out
    go_wp2
    rw [XV1.out, XS1.out]
    exact vec_endS rfl rfl rfl rfl KR.out (zeroSD _ _ w _ (put8_below B2.out (Nat.le_succ _)))
end Go.Proofs.Ytfbpbpbmnieieaa
