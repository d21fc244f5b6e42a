/- DuplicatedIn on both sides. -/
import Derived.Test.YtfbpbpbmnieieaaRows
import Derived.Test.YtfbpbpbmnieieaaMg1
import Derived.Test.YtfbpbpbmnieieaaMr2
import Derived.Test.YtfbpbpbmnieieaaVecCntI
import Derived.Test.YtfbpbpbmnieieaaVecEq
import Derived.Test.YtfbpbpbmnieieaaVecTo
import Derived.Test.YtfbpbpbmnieieaaVecMk5
import Derived.Test.YtfbpbpbmnieieaaVecSz
import Derived.Test.YtfbpbpbmnieieaaVecIn
import Derived.IntWalk
import Derived.WalkKit
import Derived.OwnWalk
import Derived.Deep.DeepCutAuto
import Derived.Lib.Hide
import Derived.Laws.EntriesVeiled
import Derived.Maps.AppendAt
namespace Go.Proofs.Ytfbpbpbmnieieaa
open Go.RowKit
set_option maxRecDepth 100000
set_option linter.unusedVariables false

noncomputable def dupZ (l : List It) (i : Nat) : Int := match bB (DupAt l i) with | true => 1 | false => 0
/-- Which elements are duplicates. -/
noncomputable def dupV (v : Vec) : Vec := match bB (atmS v = ⟨#[]⟩) with | true => mkN 1 (itF (fun i => logI (dupZ (itemsV v) i)) (itemsV v).length) [] | false => noV
theorem dupV_yes {v : Vec} (h : atmS v = ⟨#[]⟩) : dupV v = mkN 1 (itF (fun i => logI (dupZ (itemsV v) i)) (itemsV v).length) [] := by unfold dupV; rw [bB_yes h]
theorem dupV_no {v : Vec} (h : ¬ atmS v = ⟨#[]⟩) : dupV v = noV := by unfold dupV; rw [bB_no h]
theorem atm_len {v : Vec} (h : atmS v = ⟨#[]⟩) : (itemsV v).length ≤ 40 := by
  obtain ⟨h1, h2⟩ := atmS_iff.1 h
  obtain ⟨k, items, parts, names, cls, levels, code, env⟩ := v
  have hf : FlatOk k items parts.length names cls levels code env := h1.1.flat
  have h3 := hf.h_len
  have h4 : k ≤ 3 := h2
  unfold lenV at h3
  rw [if_neg (by omega)] at h3
  show items.length ≤ 40
  omega
/-- The argument's block beside those of a loop that appends. -/
theorem AppN.far1 {w wr : World} {r b : Nat} {kind : Int} {l : List It} {sa : Option Addr} {sn sc : Nat} {names : List ByteArray} {na : Option Addr} {nc : Nat} {F : List Nat} (h : AppN w wr r b kind l sa sn sc names na nc F) {g : Nat} (hg : g ≤ b) {t : TypeId} {C C1 C2 : Array Value} {q : Nat × TypeId × Array Value} (hq : q ∈ [(g, t, C), (r, 31, C1), (b, 31, C2)]) : ∀ k, (Value.slice sa sn sc).ownBlock = some k → q.1 ≠ k := by
  intro k hk e
  have h1 := h.row.lt k hk
  have h2 := h.o2
  simp only [List.mem_cons, List.not_mem_nil, or_false] at hq
  rcases hq with rfl | rfl | rfl <;> (simp only at e; omega)
set_option maxHeartbeats 4000000 in
theorem implDup (d : Nat) (v : Vec) (val : Value) (lo hi : Nat) (w : World) (hv : VecAt lo hi w d v val) (hhi : hi ≤ w.heap.size) (hsm : Small d v) :
    Calls Try.prog 30 #[val] w (ResVS 1 (dupV v) (atmS v) w) := by
  obtain ⟨VV, hVV⟩ : ∃ V, v = V := ⟨_, rfl⟩
  rw [hVV]
  obtain ⟨kk, items, parts, names, cls, levels, code, env⟩ := v
  obtain ⟨d', ai, ci, ap, cp, an, cn, ac, cc, al, cl, ed, rfl, hI, hN, hC, hL, hP, hcap⟩ := vecAt_openC hv
  have C1 := Lib.hid (fun (w1 : World) (hb : Below w.heap.size w w1) (g : Nat) (hg : w1.heap[g]? = some (.cells #[.int .i64 kk, .slice ai items.length ci, .slice ap parts.length cp, .slice an names.length cn, .slice ac cls.length cc, .slice al levels.length cl, .int .i64 code, .int .i64 env] 31 (0, 0))) => (hVV ▸ implAtm1 d kk items parts names cls levels code env ai ap an ac al ci cp cn cc cl g lo hi w1 (hv.below hb hhi) (Nat.le_trans hhi hb.size) hsm hg : Calls Try.prog 66 #[.slice (some ⟨g, 0, none⟩) 1 1] w1 (fun e w' => e = .returned (.string (atmS VV)) ∧ Below w1.heap.size w1 w')))
  have li : items.length ≤ 1048576 := by subst ed; exact hsm.1
  have hic : items.length ≤ ci := hcap.1
  have CD := Lib.hid (fun (k : Nat) (hk : k < items.length) (w1 : World) (hb : Below w.heap.size w w1) => implIsDup items k ai ci lo hi w1 (hI.below hb hhi) (Nat.le_trans hhi hb.size) li hic hk)
  have CT := Lib.hid (fun (k : Nat) (W : World) => (implTruthItem (bB (DupAt items k)) W : Calls Try.prog 67 #[.bool (bB (DupAt items k))] W (fun e w' => e = .returned (.agg #[.int .i64 (logI (dupZ items k)).n, .int .i64 (logI (dupZ items k)).d, .string (logI (dupZ items k)).t]) ∧ Below W.heap.size W w')))
  have XV := Lib.hid (fun (h : atmS VV = ⟨#[]⟩) => (by have e := dupV_yes h; rw [← hVV] at e ⊢; exact e : dupV VV = mkN 1 (itF (fun i => logI (dupZ items i)) items.length) []))
  have XL := Lib.hid (fun (h : atmS VV = ⟨#[]⟩) => (by have e := atm_len h; rw [← hVV] at e; exact e : items.length ≤ 40))
  obtain ⟨n, hn⟩ : ∃ n, items.length = n := ⟨_, rfl⟩
  rw [hn] at C1 CD XV XL li hic ⊢
  clear hv hI hN hC hL hP hsm ed hVV hcap hn
  go_enter Try.func30, Try.ntmps30
  go_wp2_with fail
  obtain ⟨w1, hw1⟩ : ∃ W, ((w.alloc (.cells #[.int .i64 kk, .slice ai n ci, .slice ap parts.length cp, .slice an names.length cn, .slice ac cls.length cc, .slice al levels.length cl, .int .i64 code, .int .i64 env] 31)).alloc (.cells #[.int .i64 0, .slice none 0 0, .slice none 0 0, .slice none 0 0, .slice none 0 0, .slice none 0 0, .int .i64 0, .int .i64 0] 31)).alloc (.cells #[.int .i64 kk, .slice ai n ci, .slice ap parts.length cp, .slice an names.length cn, .slice ac cls.length cc, .slice al levels.length cl, .int .i64 code, .int .i64 env] 31) = W := ⟨_, rfl⟩
  have hsz : (w.alloc (.cells #[.int .i64 kk, .slice ai n ci, .slice ap parts.length cp, .slice an names.length cn, .slice ac cls.length cc, .slice al levels.length cl, .int .i64 code, .int .i64 env] 31)).heap.size = w.heap.size + 1 := by simp
  have hsz2 : ((w.alloc (.cells #[.int .i64 kk, .slice ai n ci, .slice ap parts.length cp, .slice an names.length cn, .slice ac cls.length cc, .slice al levels.length cl, .int .i64 code, .int .i64 env] 31)).alloc (.cells #[.int .i64 0, .slice none 0 0, .slice none 0 0, .slice none 0 0, .slice none 0 0, .slice none 0 0, .int .i64 0, .int .i64 0] 31)).heap.size = w.heap.size + 1 + 1 := by simp
  have B1 := Lib.hid (show Below w.heap.size w w1 from hw1 ▸ ((below1 w _).alloc (by simp) _).alloc (by simp; omega) _)
  have KA := Lib.hid (show w1.heap[w.heap.size]? = some (.cells #[.int .i64 kk, .slice ai n ci, .slice ap parts.length cp, .slice an names.length cn, .slice ac cls.length cc, .slice al levels.length cl, .int .i64 code, .int .i64 env] 31 (0, 0)) from hw1 ▸ blk_old (blk_old (blk_new w _ rfl)))
  have KR := Lib.hid (show w1.heap[w.heap.size + 1]? = some (.cells #[.int .i64 0, .slice none 0 0, .slice none 0 0, .slice none 0 0, .slice none 0 0, .slice none 0 0, .int .i64 0, .int .i64 0] 31 (0, 0)) from hw1 ▸ blk_old (hsz ▸ blk_new (w.alloc (.cells #[.int .i64 kk, .slice ai n ci, .slice ap parts.length cp, .slice an names.length cn, .slice ac cls.length cc, .slice al levels.length cl, .int .i64 code, .int .i64 env] 31)) (.cells #[.int .i64 0, .slice none 0 0, .slice none 0 0, .slice none 0 0, .slice none 0 0, .slice none 0 0, .int .i64 0, .int .i64 0] 31) rfl))
  have KL := Lib.hid (show w1.heap[w.heap.size + 1 + 1]? = some (.cells #[.int .i64 kk, .slice ai n ci, .slice ap parts.length cp, .slice an names.length cn, .slice ac cls.length cc, .slice al levels.length cl, .int .i64 code, .int .i64 env] 31 (0, 0)) from hw1 ▸ hsz2 ▸ blk_new ((w.alloc (.cells #[.int .i64 kk, .slice ai n ci, .slice ap parts.length cp, .slice an names.length cn, .slice ac cls.length cc, .slice al levels.length cl, .int .i64 code, .int .i64 env] 31)).alloc (.cells #[.int .i64 0, .slice none 0 0, .slice none 0 0, .slice none 0 0, .slice none 0 0, .slice none 0 0, .int .i64 0, .int .i64 0] 31)) (.cells #[.int .i64 kk, .slice ai n ci, .slice ap parts.length cp, .slice an names.length cn, .slice ac cls.length cc, .slice al levels.length cl, .int .i64 code, .int .i64 env] 31) rfl)
  rw [hw1]
  clear hw1 hsz hsz2
  refine (C1.out _ B1.out _ KL.out).mono ?_
  rintro e w2 ⟨rfl, b⟩
  have B2 := Lib.hid (below_then B1.out b)
  have KA := Lib.hid (blk_below b KA.out)
  have KR := Lib.hid (blk_below b KR.out)
  clear b KL
  by_cases hs : atmS VV = ⟨#[]⟩
  · have XV1 := Lib.hid (XV.out hs)
    have XS1 := Lib.hid hs
    have hl := XL.out hs
    rw [hs]
    have hltR := (Array.getElem?_eq_some_iff.1 KR.out).1
    have hltA := (Array.getElem?_eq_some_iff.1 KA.out).1
    have ST := Lib.hid (show AppN w (w2.alloc (.cells #[.int .i64 1, .slice none 0 0, .slice none 0 0, .slice none 0 0, .slice none 0 0, .slice none 0 0, .int .i64 0, .int .i64 0] 31)) (w.heap.size + 1) w2.heap.size 1 (itF (fun i => logI (dupZ items i)) 0) none 0 0 [] none 0 [] from
      ⟨blk_old KR.out, blk_new w2 _ rfl, ⟨rfl, .inl ⟨rfl, rfl⟩⟩, .inl ⟨rfl, rfl⟩, Nat.le_refl _, List.nodup_nil, (fun g hg => by cases hg), B2.out.alloc B2.out.size _, by omega, hltR⟩)
    have SK := Lib.hid (show (w2.alloc (.cells #[.int .i64 1, .slice none 0 0, .slice none 0 0, .slice none 0 0, .slice none 0 0, .slice none 0 0, .int .i64 0, .int .i64 0] 31)).heap[w.heap.size]? = some (.cells #[.int .i64 kk, .slice ai n ci, .slice ap parts.length cp, .slice an names.length cn, .slice ac cls.length cc, .slice al levels.length cl, .int .i64 code, .int .i64 env] 31 (0, 0)) from blk_old KA.out)
    obtain ⟨k0, k1, k2, k3, k4, k5, k6, k7⟩ := vec8 KA.out
    clear hs XV XL
    go_wp2
    clear k0 k1 k2 k3 k4 k5 k6 k7
    obtain ⟨b, hb⟩ : ∃ b, w2.heap.size = b := ⟨_, rfl⟩
    rw [hb] at ST hltR ⊢
    clear hb
    go_loopw [18] (fun i wr => ∃ (k : Nat) (sa : Option Addr) (sn sc : Nat), k ≤ n ∧ i = .int .i64 k ∧ AppN w wr (w.heap.size + 1) b 1 (itF (fun i => logI (dupZ items i)) k) sa sn sc [] none 0 [] ∧ wr.heap[w.heap.size]? = some (.cells #[.int .i64 kk, .slice ai n ci, .slice ap parts.length cp, .slice an names.length cn, .slice ac cls.length cc, .slice al levels.length cl, .int .i64 code, .int .i64 env] 31 (0, 0))) (fun i _ => n - (intOf i).toNat)
    case atStart => exact ⟨0, none, 0, 0, Nat.zero_le _, rfl, ST.out, SK.out⟩
    case round =>
      obtain ⟨k, sa, sn, sc, hk, rfl, hap, hka⟩ := hrel
      have AP := Lib.hid hap
      have KA := Lib.hid hka
      clear hap hka
      by_cases hlt : k < n
      · have CD := Lib.hid (fun w1 hb => CD.out k hlt w1 hb)
        have CT := Lib.hid (fun W => CT.out k W)
        have LN := Lib.hid (show (itF (fun i => logI (dupZ items i)) k).length ≤ 1048576 by rw [itF_len]; omega)
        have NX := Lib.hid (itF_succ (fun i => logI (dupZ items i)) k)
        have FAR := Lib.hid (fun C1 C2 C q hq => AP.out.far1 (g := w.heap.size) (t := 31) (C := C) (C1 := C1) (C2 := C2) (q := q) (by omega) hq)
        have W0 := Lib.hid (show w.heap.size ≤ b + 1 by omega)
        have B0' := Lib.hid (show w.heap.size ≤ b by omega)
        have H := Lib.hid (heldC_cons AP.out.heldC KA.out)
        clear XV1 XS1
        go_wp2
        refine run_region (ops := (opsOf Try.f30 8)) (S := fun w' => HeldC w w' ([(w.heap.size, 31, #[.int .i64 kk, .slice ai n ci, .slice ap parts.length cp, .slice an names.length cn, .slice ac cls.length cc, .slice al levels.length cl, .int .i64 code, .int .i64 env]), ((w.heap.size + 1), 31, #[.int .i64 0, .slice none 0 0, .slice none 0 0, .slice none 0 0, .slice none 0 0, .slice none 0 0, .int .i64 0, .int .i64 0]), (b, 31, #[.int .i64 1, .slice sa sn sc, .slice none 0 0, .slice none 0 0, .slice none 0 0, .slice none 0 0, .int .i64 0, .int .i64 0])])) [(0, true), (1, true), (2, true), (3, true), (4, true), (5, false), (6, false), (7, false), (8, false), (9, true), (10, false)] (by kernel_rfl) (by kernel_rfl) (by kernel_rfl) (by kernel_rfl) (by kernel_rfl) (fun _ _ _ _ _ h => h) (heldC_drew H.out) ?_
        have H := Lib.hid (heldC_drew H.out)
        have AP := Lib.hid (AP.out.keep (below_drew' (Below.refl _ _)))
        refine runC_partV (b := b) (by kernel_rfl) (show opAt (opsOf Try.f30 8) 0 = some (some 21, .fieldAddr 31 (.tmp 5) 1, none) from by kernel_rfl) (by kernel_rfl) (by kernel_rfl) (by kernel_rfl) ?_
        refine runC_cell (b := b) (j := 1) (v := .slice sa sn sc) load_its (show opAt (opsOf Try.f30 8) 1 = some (some 22, .load 28 (.tmp 21), none) from by kernel_rfl) (by kernel_rfl) (by kernel_rfl) (by kernel_rfl) (List.Mem.tail _ (List.Mem.tail _ (List.Mem.head _))) rfl ?_
        refine runC_partV (b := w.heap.size) (by kernel_rfl) (show opAt (opsOf Try.f30 8) 2 = some (some 23, .fieldAddr 31 (.tmp 1) 1, none) from by kernel_rfl) (by kernel_rfl) (by kernel_rfl) (by kernel_rfl) ?_
        refine runC_cell (b := w.heap.size) (j := 1) (v := .slice ai n ci) load_its (show opAt (opsOf Try.f30 8) 3 = some (some 24, .load 28 (.tmp 23), none) from by kernel_rfl) (by kernel_rfl) (by kernel_rfl) (by kernel_rfl) (List.Mem.head _) rfl ?_
        refine run_mov (v := .int .i64 ((k : Int))) (show opAt (opsOf Try.f30 8) 4 = some (some 25, .move (.tmp 6), none) from by kernel_rfl) (by kernel_rfl) (by kernel_rfl) (by kernel_rfl) ?_
        refine run_call (args := [.slice ai n ci, .int .i64 ((k : Int))]) (show opAt (opsOf Try.f30 8) 5 = some (some 26, .call { callee := .value (.func 68), args := [(.tmp 24), (.tmp 25)].toArray, argTypes := [28, 3].toArray }, none) from by kernel_rfl) (by kernel_rfl) (by kernel_rfl) (by kernel_rfl) (by kernel_rfl) ?_
        refine (CD.out _ H.out.1).mono ?_
        rintro en rw1 ⟨rfl, hb⟩
        refine ⟨_, rfl, heldC_call H.out hb, ?_⟩
        have H := Lib.hid (heldC_call H.out hb)
        have AP := Lib.hid (AP.out.keep hb)
        clear hb
        refine run_call (args := [.bool (bB (DupAt items k))]) (show opAt (opsOf Try.f30 8) 6 = some (some 27, .call { callee := .value (.func 67), args := [(.tmp 26)].toArray, argTypes := [4].toArray }, none) from by kernel_rfl) (by kernel_rfl) (by kernel_rfl) (by kernel_rfl) (by kernel_rfl) ?_
        refine (CT.out _).mono ?_
        rintro en rw2 ⟨rfl, hb⟩
        refine ⟨_, rfl, heldC_call H.out hb, ?_⟩
        have H := Lib.hid (heldC_call H.out hb)
        have AP := Lib.hid (AP.out.keep hb)
        clear hb
        refine tail_item2 (logI (dupZ items k)) (show opAt (opsOf Try.f30 8) 7 = some (some 28, .buildSlice 28 1 #[(0, (.tmp 27))], none) from by kernel_rfl) (by kernel_rfl) (by kernel_rfl) (show opAt (opsOf Try.f30 8) 8 = some (some 29, .call { callee := .builtin .append, args := [(.tmp 22), (.tmp 28)].toArray, argTypes := [28, 28].toArray }, none) from by kernel_rfl) (by kernel_rfl) (fun _ => by kernel_rfl) (show opAt (opsOf Try.f30 8) 9 = some (some 30, .fieldAddr 31 (.tmp 5) 1, none) from by kernel_rfl) (by kernel_rfl) (by kernel_rfl) (fun _ _ => by kernel_rfl) (show opAt (opsOf Try.f30 8) 10 = some (none, .store 28 (.tmp 30) (.tmp 29), none) from by kernel_rfl) (by kernel_rfl) (by kernel_rfl) H.out AP.out.row LN.out (Nat.succ_le_of_lt (Array.getElem?_eq_some_iff.1 (heldC_at H.out (List.Mem.tail _ (List.Mem.tail _ (List.Mem.head _))))).1) W0.out (List.Mem.tail _ (List.Mem.tail _ (List.Mem.head _))) rfl (Nat.lt_succ_self _) B0'.out (fun q hq => FAR.out _ _ _ q hq) ?_
        rintro v' w2 ⟨sa, sn, sc, rfl⟩ hK hO hB hZ hR hG
        simp only [putAll, Act.put, List.setIfInBounds_toArray, List.set_cons_zero, List.set_cons_succ]
        have AN := Lib.hid (AP.out.next hK hO hB (hR _ (List.Mem.tail _ (List.Mem.head _)) (by simp only; omega)) (fun g hg => by cases hg))
        have KA := Lib.hid (hR _ (List.Mem.head _) (by simp only; omega))
        clear hK hO hB hR hG H FAR LN
        go_wp2
        go_roundw
        case rel => exact ⟨k + 1, sa, sn, sc, by omega, by go_num, NX.out ▸ AN.out, KA.out⟩
        case measure => simp [intOf]; omega
      · obtain rfl : k = n := by omega
        have K1 := Lib.hid AP.out.vec
        have K0 := Lib.hid AP.out.res
        have FN := Lib.hid AP.out.fin
        obtain ⟨k0, k1, k2, k3, k4, k5, k6, k7⟩ := vec8 K1.out
        obtain ⟨z0, z1, z2, z3, z4, z5, z6, z7⟩ := vec8 K0.out
        obtain ⟨f0, f1, f2, f3, f4, f5, f6, f7⟩ := free8 K0.out
        go_wp2
        rw [XV1.out, XS1.out]
        exact vec_endS rfl rfl rfl rfl K0.out FN.out.withS
  · have XV1 := Lib.hid (dupV_no hs)
    obtain ⟨R, hR⟩ : ∃ R, atmS VV = R := ⟨_, rfl⟩
    have XS1 := Lib.hid hR
    rw [hR] at hs ⊢
    have hRb : (R.toList == []) = false := by have h := str_not hs; rw [ByteArray.toList_eq ⟨#[]⟩] at h; exact h
    clear hs hR
    obtain ⟨z0, z1, z2, z3, z4, z5, z6, z7⟩ := vec8 KR.out
    obtain ⟨f0, f1, f2, f3, f4, f5, f6, f7⟩ := free8 KR.out
    go_wp2
    rw [XV1.out, XS1.out]
    exact vec_endS rfl rfl rfl rfl KR.out (zeroS _ w _ (put8_below B2.out (Nat.le_succ _)))
theorem dupZ_min {l : List It} {k : Nat} {r : Int} (hk : k < l.length) (h : FirstIs l (l.getD k noI) r) : (if (k : Int) - r < 1 then (k : Int) - r else 1) = dupZ l k := by
  obtain ⟨h0, h1, h2⟩ := first_dup hk h
  unfold dupZ
  by_cases q : DupAt l k
  · rw [bB_yes q]
    have : r ≠ k := fun e => h2.1 e q
    rw [if_neg (by omega)]
  · rw [bB_no q]
    have := h2.2 q
    rw [if_pos (by omega)]
    show (k : Int) - r = 0
    omega
set_option maxHeartbeats 4000000 in
theorem specDup (d : Nat) (v : Vec) (val : Value) (lo hi : Nat) (w : World) (hv : VecAt lo hi w d v val) (hhi : hi ≤ w.heap.size) (hsm : Small d v) :
    Calls Try.prog 29 #[val] w (ResVS 1 (dupV v) (atmS v) w) := by
  have C1 := Lib.hid (fun (w1 : World) (hb : Below w.heap.size w w1) => specAtm d v val lo hi w1 (hv.below hb hhi) (Nat.le_trans hhi hb.size) hsm)
  obtain ⟨VV, hVV⟩ : ∃ V, v = V := ⟨_, rfl⟩
  rw [hVV] at C1 ⊢
  obtain ⟨kk, items, parts, names, cls, levels, code, env⟩ := v
  obtain ⟨d', ai, ci, ap, cp, an, cn, ac, cc, al, cl, ed, rfl, hI, hN, hC, hL, hP⟩ := vecAt_open hv
  have li : items.length ≤ 1048576 := by subst ed; exact hsm.1
  have AI := Lib.hid (fun (k : Nat) (w1 : World) (hk : k < items.length) (hb : Below w.heap.size w w1) => (hI.below hb hhi).at_ hk)
  have CF := Lib.hid (fun (x : It) (w1 : World) (hb : Below w.heap.size w w1) => specFirst items x ai ci lo hi w1 (hI.below hb hhi) (Nat.le_trans hhi hb.size) li)
  have FD := Lib.hid (fun (k : Nat) (hk : k < items.length) r (h : FirstIs items (items.getD k noI) r) => first_dup hk h)
  have DZ := Lib.hid (fun (k : Nat) (hk : k < items.length) r (h : FirstIs items (items.getD k noI) r) => dupZ_min hk h)
  have XV := Lib.hid (fun (h : atmS VV = ⟨#[]⟩) => (by have e := dupV_yes h; rw [← hVV] at e ⊢; exact e : dupV VV = mkN 1 (itF (fun i => logI (dupZ items i)) items.length) []))
  have XL := Lib.hid (fun (h : atmS VV = ⟨#[]⟩) => (by have e := atm_len h; rw [← hVV] at e; exact e : items.length ≤ 40))
  obtain ⟨n, hn⟩ : ∃ n, items.length = n := ⟨_, rfl⟩
  rw [hn] at C1 AI CF FD DZ XV XL li ⊢
  clear hv hI hN hC hL hP hsm ed hVV hn
  go_enter Try.func29, Try.ntmps29
  go_wp2_with fail
  obtain ⟨w1, hw1⟩ : ∃ W, (w.alloc (.cells #[.int .i64 kk, .slice ai n ci, .slice ap parts.length cp, .slice an names.length cn, .slice ac cls.length cc, .slice al levels.length cl, .int .i64 code, .int .i64 env] 31)).alloc (.cells #[.int .i64 0, .slice none 0 0, .slice none 0 0, .slice none 0 0, .slice none 0 0, .slice none 0 0, .int .i64 0, .int .i64 0] 31) = W := ⟨_, rfl⟩
  have hsz : (w.alloc (.cells #[.int .i64 kk, .slice ai n ci, .slice ap parts.length cp, .slice an names.length cn, .slice ac cls.length cc, .slice al levels.length cl, .int .i64 code, .int .i64 env] 31)).heap.size = w.heap.size + 1 := by simp
  have B1 := Lib.hid (show Below w.heap.size w w1 from hw1 ▸ (below1 w _).alloc (by simp) _)
  have KA := Lib.hid (show w1.heap[w.heap.size]? = some (.cells #[.int .i64 kk, .slice ai n ci, .slice ap parts.length cp, .slice an names.length cn, .slice ac cls.length cc, .slice al levels.length cl, .int .i64 code, .int .i64 env] 31 (0, 0)) from hw1 ▸ blk_old (blk_new w _ rfl))
  have KR := Lib.hid (show w1.heap[w.heap.size + 1]? = some (.cells #[.int .i64 0, .slice none 0 0, .slice none 0 0, .slice none 0 0, .slice none 0 0, .slice none 0 0, .int .i64 0, .int .i64 0] 31 (0, 0)) from hw1 ▸ hsz ▸ blk_new (w.alloc (.cells #[.int .i64 kk, .slice ai n ci, .slice ap parts.length cp, .slice an names.length cn, .slice ac cls.length cc, .slice al levels.length cl, .int .i64 code, .int .i64 env] 31)) (.cells #[.int .i64 0, .slice none 0 0, .slice none 0 0, .slice none 0 0, .slice none 0 0, .slice none 0 0, .int .i64 0, .int .i64 0] 31) rfl)
  rw [hw1]
  clear hw1 hsz
  with_reducible refine (C1.out _ B1.out).mono ?_
  rintro e wb ⟨rfl, b⟩
  have B2 := Lib.hid (below_then B1.out b)
  have KA := Lib.hid (blk_below b KA.out)
  have KR := Lib.hid (blk_below b KR.out)
  clear b
  by_cases hs : atmS VV = ⟨#[]⟩
  · have XV1 := Lib.hid (XV.out hs)
    have XS1 := Lib.hid hs
    have hl := XL.out hs
    rw [hs]
    have LC := Lib.hid (fun (W : World) (sa : Option Addr) (c : Nat) (h : IntsAt W.heap.size W sa n (fun i => dupZ items i)) => (by
      have h' := specLogVec sa n c (fun i => dupZ items i) W.heap.size W h (Nat.le_refl _) (by omega)
      rw [if_pos hl] at h'
      exact h' : Calls Try.prog 65 #[.slice sa n c] W (ResV 1 (vecOf 1 (itF (fun i => logI (dupZ items i)) n)) W)))
    clear hs XV XL
    obtain ⟨w3, hw3⟩ : ∃ W, wb.alloc (.cells #[] 3) = W := ⟨_, rfl⟩
    have ST := Lib.hid (show IntR wb w3 (fun i => dupZ items i) 0 (.slice (some ⟨wb.heap.size, 0, none⟩) 0 0) from hw3 ▸ ⟨⟨rfl, .inr ⟨wb.heap.size, 0, #[], rfl, Nat.le_refl _, blk_new wb _ rfl, Nat.le_refl _, Nat.zero_le _, rfl, rfl⟩⟩, below1 wb _⟩)
    have hwa := (Array.getElem?_eq_some_iff.1 KA.out).1
    obtain ⟨k0, k1, k2, k3, k4, k5, k6, k7⟩ := vec8 KA.out
    have EW := Lib.hid hw3
    clear hw3
    go_wp2
    rw [EW.out]
    clear EW
    go_loopw [5, 6] (fun v i wr => ∃ k : Nat, k ≤ n ∧ i = .int .i64 k ∧ IntR wb wr (fun i => dupZ items i) k v) (fun _ i _ => n - (intOf i).toNat)
    case atStart => exact ⟨0, Nat.zero_le _, rfl, ST.out⟩
    case round =>
      obtain ⟨k, hk, rfl, hir⟩ := hrel
      obtain ⟨sl, scp, rfl, _⟩ := ints_of_row hir.row
      have IR := Lib.hid hir
      clear hir
      have BW := Lib.hid (below_then B2.out IR.out.below)
      have KA := Lib.hid (blk_below IR.out.below KA.out)
      by_cases hlt : k < n
      · obtain ⟨ba, off, rfl, hbB, c0, c1, c2'⟩ := AI.out k wb hlt B2.out
        have c2 : wb.cell? ⟨ba, off + k * 3 + 2, none⟩ = some (.string (items.getD k noI).t) := c2'
        have hbwb : ba < wb.heap.size := Nat.lt_of_lt_of_le (Nat.lt_of_lt_of_le hbB hhi) B2.out.size
        have FD := Lib.hid (FD.out k hlt)
        have DZ := Lib.hid (DZ.out k hlt)
        obtain ⟨y, hy⟩ : ∃ y, items.getD k noI = y := ⟨_, rfl⟩
        rw [hy] at c0 c1 c2 FD DZ
        have CF := Lib.hid (fun w1 (hb : Below wb.heap.size wb w1) => CF.out y w1 (below_then B2.out hb))
        have H := Lib.hid (show HeldC wb wr [] from ⟨IR.out.below, (fun _ h => by cases h)⟩)
        obtain ⟨m0, m1, m2, m3, m4, m5, m6, m7⟩ := vec8 KA.out
        clear hy c2'
        go_upto_region 8 with (fail)
        clear m0 m1 m2 m3 m4 m5 m6 m7
        refine run_region (ops := (opsOf Try.f29 8)) (S := fun w' => HeldC wb w' ([])) [(0, true), (1, true), (2, true), (3, true), (4, true), (5, true), (6, true), (7, true), (8, true), (9, false), (10, true), (11, true), (12, false), (13, false), (14, true)] (by kernel_rfl) (by kernel_rfl) (by kernel_rfl) (by kernel_rfl) (by kernel_rfl) (fun _ _ _ _ _ h => h) (heldC_drew H.out) ?_
        have H := Lib.hid (heldC_drew H.out)
        have IR := Lib.hid (IR.out.keep (below_drew' (Below.refl _ _)))
        refine run_mov (v := .slice sl k scp) (show opAt (opsOf Try.f29 8) 0 = some (some 21, .move (.tmp 5), none) from by kernel_rfl) (by kernel_rfl) (by kernel_rfl) (by kernel_rfl) ?_
        refine run_mov (v := .int .i64 ((k : Int))) (show opAt (opsOf Try.f29 8) 1 = some (some 22, .move (.tmp 6), none) from by kernel_rfl) (by kernel_rfl) (by kernel_rfl) (by kernel_rfl) ?_
        refine runC_partV (b := w.heap.size) (by kernel_rfl) (show opAt (opsOf Try.f29 8) 2 = some (some 23, .fieldAddr 31 (.tmp 1) 1, none) from by kernel_rfl) (by kernel_rfl) (by kernel_rfl) (by kernel_rfl) ?_
        refine runC_old (b := w.heap.size) (j := 1) (v := .slice (some ⟨ba, off, none⟩) n ci) load_its (show opAt (opsOf Try.f29 8) 3 = some (some 24, .load 28 (.tmp 23), none) from by kernel_rfl) (by kernel_rfl) (by kernel_rfl) (by kernel_rfl) hwa k1 ?_
        refine runC_partV (b := w.heap.size) (by kernel_rfl) (show opAt (opsOf Try.f29 8) 4 = some (some 25, .fieldAddr 31 (.tmp 1) 1, none) from by kernel_rfl) (by kernel_rfl) (by kernel_rfl) (by kernel_rfl) ?_
        refine runC_old (b := w.heap.size) (j := 1) (v := .slice (some ⟨ba, off, none⟩) n ci) load_its (show opAt (opsOf Try.f29 8) 5 = some (some 26, .load 28 (.tmp 25), none) from by kernel_rfl) (by kernel_rfl) (by kernel_rfl) (by kernel_rfl) hwa k1 ?_
        refine run_mov (v := .int .i64 ((k : Int))) (show opAt (opsOf Try.f29 8) 6 = some (some 27, .move (.tmp 6), none) from by kernel_rfl) (by kernel_rfl) (by kernel_rfl) (by kernel_rfl) ?_
        refine run_idx3 (n := n) (c := ci) (b := ba) (off := off) (k := k) (show opAt (opsOf Try.f29 8) 7 = some (some 28, .indexAddr 28 (.tmp 26) (.tmp 27), none) from by kernel_rfl) (by kernel_rfl) (by kernel_rfl) (by kernel_rfl) (by kernel_rfl) hlt ?_
        refine runC_oldI (b := ba) (j := off + k * 3) (z := y) (show opAt (opsOf Try.f29 8) 8 = some (some 29, .load 67 (.tmp 28), none) from by kernel_rfl) (by kernel_rfl) (by kernel_rfl) (by kernel_rfl) hbwb c0 c1 c2 ?_
        refine run_call (args := [.slice (some ⟨ba, off, none⟩) n ci, .agg #[.int .i64 y.n, .int .i64 y.d, .string y.t]]) (show opAt (opsOf Try.f29 8) 9 = some (some 30, .call { callee := .value (.func 64), args := [(.tmp 24), (.tmp 29)].toArray, argTypes := [28, 67].toArray }, none) from by kernel_rfl) (by kernel_rfl) (by kernel_rfl) (by kernel_rfl) (by kernel_rfl) ?_
        refine (CF.out _ H.out.1).mono ?_
        rintro en rw1 ⟨r, hr, rfl, hb⟩
        obtain ⟨hr0, hr1, hr2⟩ := FD.out r hr
        have DZ := DZ.out r hr
        refine ⟨_, rfl, heldC_call H.out hb, ?_⟩
        have H := Lib.hid (heldC_call H.out hb)
        have IR := Lib.hid (IR.out.keep hb)
        clear hr hb
        refine run_sub (k := .i64) (p := (k : Int)) (q := r) (z := ((k : Int) - r)) (show opAt (opsOf Try.f29 8) 10 = some (some 31, .binOp .sub 3 (.tmp 22) (.tmp 30) 3, none) from by kernel_rfl) (by kernel_rfl) (by kernel_rfl) (by kernel_rfl) (by kernel_rfl) (wrap64_id (by omega) (by omega)) ?_
        refine run_min2 (p := 1) (q := ((k : Int) - r)) (z := (dupZ items k)) (show opAt (opsOf Try.f29 8) 11 = some (some 32, .call { callee := .builtin .min, args := [(.const (.int .i64 1)), (.tmp 31)].toArray, argTypes := [3, 3].toArray }, none) from by kernel_rfl) (by kernel_rfl) (by kernel_rfl) (by kernel_rfl) (by kernel_rfl) DZ ?_
        refine tail_int (dupZ items k) (show opAt (opsOf Try.f29 8) 12 = some (some 33, .buildSlice 54 1 #[(0, (.tmp 32))], none) from by kernel_rfl) (by kernel_rfl) (by kernel_rfl) (show opAt (opsOf Try.f29 8) 13 = some (some 34, .call { callee := .builtin .append, args := [(.tmp 21), (.tmp 33)].toArray, argTypes := [54, 54].toArray }, none) from by kernel_rfl) (by kernel_rfl) (fun _ => by kernel_rfl) (show opAt (opsOf Try.f29 8) 14 = some (some 5, .assign (.tmp 34), none) from by kernel_rfl) (by kernel_rfl) IR.out (by omega) ?_ rfl
        rintro v' w2 hN
        simp only [putAll, Act.put, List.setIfInBounds_toArray, List.set_cons_zero, List.set_cons_succ]
        have IN := Lib.hid hN
        clear hN
        go_wp2
        go_roundw
        case rel => exact ⟨k + 1, by omega, by go_num, IN.out⟩
        case measure => simp [intOf]; omega
      · obtain rfl : k = n := by omega
        obtain ⟨sa, c, e', hi'⟩ := ints_of_row IR.out.row
        obtain ⟨rfl, rfl⟩ : sl = sa ∧ scp = c := by simpa using e'
        have HI := Lib.hid hi'
        clear e'
        have KR := Lib.hid (blk_below IR.out.below KR.out)
        obtain ⟨m0, m1, m2, m3, m4, m5, m6, m7⟩ := vec8 KA.out
        clear hi'
        go_wp2_with fail
        with_reducible refine (LC.out _ _ _ HI.out).mono ?_
        rintro e w4 ⟨y, rfl, ho, hb⟩
        obtain ⟨yk, ya1, yn1, ym1, ya2, yn2, ym2, ya3, yn3, ym3, ya4, yn4, ym4, ya5, yn5, ym5, yc, ye, rfl⟩ := ho.agg
        have K0 := Lib.hid (blk_below hb KR.out)
        have BB := Lib.hid (below_then BW.out hb)
        have HO := Lib.hid ho
        have hlt0 := (Array.getElem?_eq_some_iff.1 KR.out).1
        clear ho hb m0 m1 m2 m3 m4 m5 m6 m7
        obtain ⟨z0, z1, z2, z3, z4, z5, z6, z7⟩ := vec8 K0.out
        obtain ⟨f0, f1, f2, f3, f4, f5, f6, f7⟩ := free8 K0.out
        go_wp2
        rw [XV1.out, XS1.out]
        exact vec_endS rfl rfl rfl rfl K0.out ⟨_, rfl, (HO.out.put8 hlt0 _ _ _ _ _ _ _ _).wide (by omega) (by rw [put8_size]; exact Nat.le_refl _), put8_below BB.out (Nat.le_succ _)⟩
  · have XV1 := Lib.hid (dupV_no hs)
    obtain ⟨R, hR⟩ : ∃ R, atmS VV = R := ⟨_, rfl⟩
    have XS1 := Lib.hid hR
    rw [hR] at hs ⊢
    have hRb : (R.toList == []) = false := by have h := str_not hs; rw [ByteArray.toList_eq ⟨#[]⟩] at h; exact h
    clear hs hR
    obtain ⟨z0, z1, z2, z3, z4, z5, z6, z7⟩ := vec8 KR.out
    obtain ⟨f0, f1, f2, f3, f4, f5, f6, f7⟩ := free8 KR.out
    go_wp2
    rw [XV1.out, XS1.out]
    exact vec_endS rfl rfl rfl rfl KR.out (zeroS _ w _ (put8_below B2.out (Nat.le_succ _)))
end Go.Proofs.Ytfbpbpbmnieieaa

/- UniqueOf: data, the program. -/
namespace Go.Proofs.Ytfbpbpbmnieieaa
open Go.RowKit
set_option maxRecDepth 100000
set_option linter.unusedVariables false

/-- Which elements have no equal one ahead. -/
noncomputable def uqP (l : List It) (i : Nat) : Bool := !(bB (DupAt l i))
noncomputable def uqI (l : List It) : List Nat := whN (uqP l) l.length
noncomputable def uqV (v : Vec) : Vec := match bB (atmS v = ⟨#[]⟩), v with
  | true, .mk kk items _ _ cls levels _ _ => .mk kk (pkL noI items (uqI items)) [] [] (kpC levels cls) levels 0 0
  | false, _ => noV
theorem uqV_yes {kk : Int} {items : List It} {parts : List Vec} {names cls levels : List ByteArray} {code env : Int} (h : atmS (.mk kk items parts names cls levels code env) = ⟨#[]⟩) : uqV (.mk kk items parts names cls levels code env) = .mk kk (pkL noI items (uqI items)) [] [] (kpC levels cls) levels 0 0 := by unfold uqV; rw [bB_yes h]
theorem uqV_no {v : Vec} (h : ¬ atmS v = ⟨#[]⟩) : uqV v = noV := by unfold uqV; rw [bB_no h]
/-- A vector of the zero value, at any depth. -/
theorem own_zeroD (d lo hi : Nat) (w : World) : Own (d + 1) noV (.agg #[.int .i64 0, .slice none 0 0, .slice none 0 0, .slice none 0 0, .slice none 0 0, .slice none 0 0, .int .i64 0, .int .i64 0]) lo hi w := by
  refine ⟨[], ?_, List.nodup_nil, (fun _ h => by cases h)⟩
  show OwnVec w (d + 1) (.mk 0 [] [] [] [] [] 0 0) _ []
  unfold OwnVec
  exact ⟨none, 0, none, 0, none, 0, none, 0, none, 0, [], [], [], [], [], rfl, rfl, ⟨Nat.le_refl _, Nat.le_refl _, Nat.le_refl _, Nat.le_refl _, Nat.le_refl _⟩, .inl ⟨rfl, rfl⟩, .inl ⟨rfl, rfl⟩, .inl ⟨rfl, rfl⟩, .inl ⟨rfl, rfl⟩, .inl ⟨rfl, rfl⟩⟩
theorem zeroSD (d : Nat) (s : ByteArray) (w w' : World) (hb : Below w.heap.size w w') : ResVS (d + 1) noV s w (.returned (.tuple #[.agg #[.int .i64 0, .slice none 0 0, .slice none 0 0, .slice none 0 0, .slice none 0 0, .slice none 0 0, .int .i64 0, .int .i64 0], .string s])) w' := ⟨_, rfl, own_zeroD _ _ _ _, hb⟩
theorem atm_parts {kk : Int} {items : List It} {parts : List Vec} {names cls levels : List ByteArray} {code env : Int} (h : atmS (.mk kk items parts names cls levels code env) = ⟨#[]⟩) : ¬ kk = 4 ∧ ¬ kk = 5 ∧ parts.length = 0 ∧ (names.length ≠ 0 → names.length = items.length) ∧ items.length ≤ 40 := by
  obtain ⟨h1, h2⟩ := atmS_iff.1 h
  have hf : FlatOk kk items parts.length names cls levels code env := h1.1.flat
  have h3 : kk ≤ 3 := h2
  have h4 := hf.h_noParts (by omega)
  have h5 := hf.h_names
  have h6 := hf.h_len
  unfold lenV at h5 h6
  rw [if_neg (by omega)] at h5 h6
  exact ⟨by omega, by omega, h4, fun h => by omega, by omega⟩
theorem IntsAt.congr {B : Nat} {w : World} {a : Option Addr} {n : Nat} {f g : Nat → Int} (h : IntsAt B w a n f) (e : ∀ i, i < n → f i = g i) : IntsAt B w a n g := fun i hi => by rw [← e i hi]; exact h i hi
theorem whZ_ix (p : Nat → Bool) (n i : Nat) (hi : i < (whN p n).length) : (whZ p n).getD i 0 = ixF (whN p n) i := by
  unfold whZ ixF; simp [List.getD_eq_getElem?_getD, hi]
theorem implUqClo (kk : Int) (items : List It) (ai ap an ac al : Option Addr) (ci np cp nn cn nc cc nl cl : Nat) (code env : Int) (k g lo hi : Nat) (w : World) (hI : ItemsAt lo hi w ai items) (hhi : hi ≤ w.heap.size) (hlt : k < items.length) (hn : items.length ≤ 1048576) (hcap : items.length ≤ ci)
    (hg : w.heap[g]? = some (.cells #[.int .i64 kk, .slice ai items.length ci, .slice ap np cp, .slice an nn cn, .slice ac nc cc, .slice al nl cl, .int .i64 code, .int .i64 env] 31 (0, 0))) :
    Calls Try.prog 70 #[.int .i64 (k : Int), .pointer (some ⟨g, 0, none⟩)] w fun e w' => e = .returned (.bool (uqP items k)) ∧ Below w.heap.size w w' := by
  have CD := Lib.hid (fun (w1 : World) (hb : Below w.heap.size w w1) => implIsDup items k ai ci lo hi w1 (hI.below hb hhi) (Nat.le_trans hhi hb.size) hn hcap hlt)
  have TP := Lib.hid (show uqP items k = !(bB (DupAt items k)) from rfl)
  obtain ⟨n, hn'⟩ : ∃ n, items.length = n := ⟨_, rfl⟩
  rw [hn'] at hg hlt hn CD
  obtain ⟨t, ht⟩ : ∃ t, bB (DupAt items k) = t := ⟨_, rfl⟩
  rw [ht] at CD TP
  obtain ⟨k0, k1, k2, k3, k4, k5, k6, k7⟩ := vec8 hg
  clear hn' hI ht hcap
  go_enter Try.func70, Try.ntmps70
  go_wp2_with fail
  with_reducible refine (CD.out _ (Below.refl _ _)).mono ?_
  rintro e w2 ⟨rfl, b⟩
  go_wp2
  go_ret
  exact ⟨ret_bB (by rw [TP.out]), b⟩
set_option maxHeartbeats 4000000 in
theorem implUniq (d : Nat) (v : Vec) (val : Value) (lo hi : Nat) (w : World) (hv : VecAt lo hi w d v val) (hhi : hi ≤ w.heap.size) (hsm : Small d v) :
    Calls Try.prog 32 #[val] w (ResVS d (uqV v) (atmS v) w) := by
  obtain ⟨VV, hVV⟩ : ∃ V, v = V := ⟨_, rfl⟩
  rw [hVV]
  obtain ⟨kk, items, parts, names, cls, levels, code, env⟩ := v
  obtain ⟨d', ai, ci, ap, cp, an, cn, ac, cc, al, cl, ed, rfl, hI, hN, hC, hL, hP, hcap⟩ := vecAt_openC hv
  have C1 := Lib.hid (fun (w1 : World) (hb : Below w.heap.size w w1) (g : Nat) (hg : w1.heap[g]? = some (.cells #[.int .i64 kk, .slice ai items.length ci, .slice ap parts.length cp, .slice an names.length cn, .slice ac cls.length cc, .slice al levels.length cl, .int .i64 code, .int .i64 env] 31 (0, 0))) => (hVV ▸ implAtm1 d kk items parts names cls levels code env ai ap an ac al ci cp cn cc cl g lo hi w1 (hv.below hb hhi) (Nat.le_trans hhi hb.size) hsm hg : Calls Try.prog 66 #[.slice (some ⟨g, 0, none⟩) 1 1] w1 (fun e w' => e = .returned (.string (atmS VV)) ∧ Below w1.heap.size w1 w')))
  subst ed
  have li : items.length ≤ 1048576 := hsm.1
  have lp : parts.length ≤ 1048576 := hsm.2.1
  have ln : names.length ≤ 1048576 := hsm.2.2.1
  have lc : cls.length ≤ 1048576 := hsm.2.2.2.1
  have ll : levels.length ≤ 1048576 := hsm.2.2.2.2.1
  have hsp : ∀ p ∈ parts, Small d' p := hsm.2.2.2.2.2.2.2.2.2
  have hic : items.length ≤ ci := hcap.1
  have XA := Lib.hid (fun (h : atmS VV = ⟨#[]⟩) => (by rw [← hVV] at h; exact atm_parts h : ¬ kk = 4 ∧ ¬ kk = 5 ∧ parts.length = 0 ∧ (names.length ≠ 0 → names.length = items.length) ∧ items.length ≤ 40))
  have XV := Lib.hid (fun (h : atmS VV = ⟨#[]⟩) => (by rw [← hVV] at h ⊢; exact uqV_yes h : uqV VV = .mk kk (pkL noI items (uqI items)) [] [] (kpC levels cls) levels 0 0))
  have CW := Lib.hid (fun (g : Nat) (W : World) (hb : Below w.heap.size w W) (hg : W.heap[g]? = some (.cells #[.int .i64 kk, .slice ai items.length ci, .slice ap parts.length cp, .slice an names.length cn, .slice ac cls.length cc, .slice al levels.length cl, .int .i64 code, .int .i64 env] 31 (0, 0))) =>
    (implWhere 70 #[.pointer (some ⟨g, 0, none⟩)] (uqP items) ai items.length ci W li (by kernel_rfl) (fun i W' hi1 hb' => implUqClo kk items ai ap an ac al ci parts.length cp names.length cn cls.length cc levels.length cl code env i g lo hi W' (hI.below (hb.trans (hb'.mono hb.size)) hhi) (Nat.le_trans hhi (Nat.le_trans hb.size hb'.size)) hi1 li hic (blk_below hb' hg)) :
    Calls Try.prog 69 #[.slice ai items.length ci, .func (.func 70) #[] #[.pointer (some ⟨g, 0, none⟩)]] W (fun e w' => ∃ v, e = .returned v ∧ IntZ W w' (whZ (uqP items) items.length) v)))
  have CS := Lib.hid (fun (h : parts.length = 0) (hnm : names.length ≠ 0 → names.length = items.length) (xi : Option Addr) (xc : Nat) (W : World) (hb : Below w.heap.size w W) (hs : IntsAt W.heap.size W xi (uqI items).length (ixF (uqI items))) =>
    (by
      have hb' : ∀ i, i < (uqI items).length → (uqI items).getD i 0 < items.length := fun i hi => (whN_at (p := uqP items) (k := items.length) hi).1
      exact implSelect d' kk items parts names cls levels code env ai ap an ac al xi ci cp cn cc cl xc lo hi W.heap.size (uqI items) W (hI.below hb hhi) (hP.below hb hhi) (hN.below hb hhi) (hC.below hb hhi) (hL.below hb hhi) (Nat.le_trans hhi hb.size) li lp ln lc ll hsp hs (Nat.le_refl _) (by have := whN_len (uqP items) items.length; unfold uqI; omega) (fun _ => hb') (fun h0 => absurd h h0) (fun h0 i hi => by rw [hnm h0]; exact hb' i hi) :
    Calls Try.prog 62 #[.agg #[.int .i64 kk, .slice ai items.length ci, .slice ap parts.length cp, .slice an names.length cn, .slice ac cls.length cc, .slice al levels.length cl, .int .i64 code, .int .i64 env], .slice xi (uqI items).length xc] W (ResV (d' + 1) (selV kk items parts names cls levels (uqI items)) W)))
  have IX := Lib.hid (fun i (hi : i < (uqI items).length) => show (whZ (uqP items) items.length).getD i 0 = ixF (uqI items) i from whZ_ix (uqP items) items.length i hi)
  have EL := Lib.hid (show (whZ (uqP items) items.length).length = (uqI items).length from whZ_len _ _)
  have SV := Lib.hid (fun (h : parts.length = 0) => (by unfold selV; rw [List.eq_nil_of_length_eq_zero h]; rfl : selV kk items parts names cls levels (uqI items) = .mk kk (pkL noI items (uqI items)) [] (clnN (pkL ⟨#[]⟩ names (uqI items))) (kpC levels cls) levels 0 0))
  obtain ⟨ix, hix⟩ : ∃ ix, uqI items = ix := ⟨_, rfl⟩
  obtain ⟨Z, hZ⟩ : ∃ Z, whZ (uqP items) items.length = Z := ⟨_, rfl⟩
  rw [hZ] at CW IX EL
  rw [hix] at XV CS IX EL SV
  clear hv hI hN hC hL hP hsm hVV hcap hix hZ
  go_enter Try.func32, Try.ntmps32
  go_wp2_with fail
  obtain ⟨w1, hw1⟩ : ∃ W, ((w.alloc (.cells #[.int .i64 kk, .slice ai items.length ci, .slice ap parts.length cp, .slice an names.length cn, .slice ac cls.length cc, .slice al levels.length cl, .int .i64 code, .int .i64 env] 31)).alloc (.cells #[.int .i64 0, .slice none 0 0, .slice none 0 0, .slice none 0 0, .slice none 0 0, .slice none 0 0, .int .i64 0, .int .i64 0] 31)).alloc (.cells #[.int .i64 kk, .slice ai items.length ci, .slice ap parts.length cp, .slice an names.length cn, .slice ac cls.length cc, .slice al levels.length cl, .int .i64 code, .int .i64 env] 31) = W := ⟨_, rfl⟩
  have hsz : (w.alloc (.cells #[.int .i64 kk, .slice ai items.length ci, .slice ap parts.length cp, .slice an names.length cn, .slice ac cls.length cc, .slice al levels.length cl, .int .i64 code, .int .i64 env] 31)).heap.size = w.heap.size + 1 := by simp
  have hsz2 : ((w.alloc (.cells #[.int .i64 kk, .slice ai items.length ci, .slice ap parts.length cp, .slice an names.length cn, .slice ac cls.length cc, .slice al levels.length cl, .int .i64 code, .int .i64 env] 31)).alloc (.cells #[.int .i64 0, .slice none 0 0, .slice none 0 0, .slice none 0 0, .slice none 0 0, .slice none 0 0, .int .i64 0, .int .i64 0] 31)).heap.size = w.heap.size + 1 + 1 := by simp
  have B1 := Lib.hid (show Below w.heap.size w w1 from hw1 ▸ ((below1 w _).alloc (by simp) _).alloc (by simp; omega) _)
  have KA := Lib.hid (show w1.heap[w.heap.size]? = some (.cells #[.int .i64 kk, .slice ai items.length ci, .slice ap parts.length cp, .slice an names.length cn, .slice ac cls.length cc, .slice al levels.length cl, .int .i64 code, .int .i64 env] 31 (0, 0)) from hw1 ▸ blk_old (blk_old (blk_new w _ rfl)))
  have KR := Lib.hid (show w1.heap[w.heap.size + 1]? = some (.cells #[.int .i64 0, .slice none 0 0, .slice none 0 0, .slice none 0 0, .slice none 0 0, .slice none 0 0, .int .i64 0, .int .i64 0] 31 (0, 0)) from hw1 ▸ blk_old (hsz ▸ blk_new (w.alloc (.cells #[.int .i64 kk, .slice ai items.length ci, .slice ap parts.length cp, .slice an names.length cn, .slice ac cls.length cc, .slice al levels.length cl, .int .i64 code, .int .i64 env] 31)) (.cells #[.int .i64 0, .slice none 0 0, .slice none 0 0, .slice none 0 0, .slice none 0 0, .slice none 0 0, .int .i64 0, .int .i64 0] 31) rfl))
  have KL := Lib.hid (show w1.heap[w.heap.size + 1 + 1]? = some (.cells #[.int .i64 kk, .slice ai items.length ci, .slice ap parts.length cp, .slice an names.length cn, .slice ac cls.length cc, .slice al levels.length cl, .int .i64 code, .int .i64 env] 31 (0, 0)) from hw1 ▸ hsz2 ▸ blk_new ((w.alloc (.cells #[.int .i64 kk, .slice ai items.length ci, .slice ap parts.length cp, .slice an names.length cn, .slice ac cls.length cc, .slice al levels.length cl, .int .i64 code, .int .i64 env] 31)).alloc (.cells #[.int .i64 0, .slice none 0 0, .slice none 0 0, .slice none 0 0, .slice none 0 0, .slice none 0 0, .int .i64 0, .int .i64 0] 31)) (.cells #[.int .i64 kk, .slice ai items.length ci, .slice ap parts.length cp, .slice an names.length cn, .slice ac cls.length cc, .slice al levels.length cl, .int .i64 code, .int .i64 env] 31) rfl)
  rw [hw1]
  clear hw1 hsz hsz2
  refine (C1.out _ B1.out _ KL.out).mono ?_
  rintro e w2 ⟨rfl, b⟩
  have B2 := Lib.hid (below_then B1.out b)
  have KA := Lib.hid (blk_below b KA.out)
  have KR := Lib.hid (blk_below b KR.out)
  clear b KL
  by_cases hs : atmS VV = ⟨#[]⟩
  · have XV1 := Lib.hid (XV.out hs)
    have XS1 := Lib.hid hs
    have XA1 := Lib.hid (XA.out hs)
    have CS := Lib.hid (CS.out XA1.out.2.2.1 XA1.out.2.2.2.1)
    have SV := SV.out XA1.out.2.2.1
    rw [hs]
    obtain ⟨k0, k1, k2, k3, k4, k5, k6, k7⟩ := vec8 KA.out
    have hltA := (Array.getElem?_eq_some_iff.1 KA.out).1
    clear hs XV XA XA1
    go_wp2_with fail
    refine (CW.out _ _ B2.out KA.out).mono ?_
    rintro e w3 ⟨v3, rfl, hz⟩
    obtain ⟨sa, c, rfl, hi'⟩ := hz.ints
    have HI := Lib.hid (by rw [EL.out] at hi'; exact hi'.congr IX.out : IntsAt w3.heap.size w3 sa ix.length (ixF ix))
    have B3 := Lib.hid (below_then B2.out hz.below)
    have KA := Lib.hid (blk_below hz.below KA.out)
    have KR := Lib.hid (blk_below hz.below KR.out)
    have EL2 := EL.out
    have hr3 := (Array.getElem?_eq_some_iff.1 KR.out).1
    clear hz hi' k0 k1 k2 k3 k4 k5 k6 k7
    rw [EL2]
    clear EL2
    obtain ⟨k0, k1, k2, k3, k4, k5, k6, k7⟩ := vec8 KA.out
    go_wp2_with fail
    refine (CS.out _ _ _ B3.out HI.out).mono ?_
    rintro e w5 ⟨y, rfl, ho, hb⟩
    obtain ⟨yk, ya1, yn1, ym1, ya2, yn2, ym2, ya3, yn3, ym3, ya4, yn4, ym4, ya5, yn5, ym5, yc, ye, rfl⟩ := ho.agg
    have B5 := Lib.hid (below_then B3.out hb)
    have KR := Lib.hid (blk_below hb KR.out)
    rw [SV] at ho
    have O := Lib.hid (ho.noNames none 0)
    clear ho hb k0 k1 k2 k3 k4 k5 k6 k7 SV
    have hrb := (Array.getElem?_eq_some_iff.1 KR.out).1
    go_upto_region 7 with (fail)
    obtain ⟨w6, hw6⟩ : ∃ W, w5.alloc (.cells #[.int .i64 yk, .slice ya1 yn1 ym1, .slice ya2 yn2 ym2, .slice none 0 0, .slice ya4 yn4 ym4, .slice ya5 yn5 ym5, .int .i64 yc, .int .i64 ye] 31) = W := ⟨_, rfl⟩
    have N6 := Lib.hid (show w6.heap[w5.heap.size]? = some (.cells #[.int .i64 yk, .slice ya1 yn1 ym1, .slice ya2 yn2 ym2, .slice none 0 0, .slice ya4 yn4 ym4, .slice ya5 yn5 ym5, .int .i64 yc, .int .i64 ye] 31 (0, 0)) from hw6 ▸ blk_new w5 _ rfl)
    have BB := Lib.hid (show Below w5.heap.size w5 w6 from hw6 ▸ below1 w5 _)
    have B6 := Lib.hid (below_then B5.out BB.out)
    have KR := Lib.hid (blk_below BB.out KR.out)
    have O := Lib.hid (O.out.below BB.out (Nat.le_refl _))
    have hs6 := BB.out.size
    rw [hw6]
    clear hw6 BB
    obtain ⟨n0, n1, n2, n3, n4, n5, n6, n7⟩ := vec8 N6.out
    obtain ⟨z0, z1, z2, z3, z4, z5, z6, z7⟩ := vec8 KR.out
    obtain ⟨f0, f1, f2, f3, f4, f5, f6, f7⟩ := free8 KR.out
    go_wp2
    rw [XV1.out, XS1.out]
    exact vec_endS rfl rfl rfl rfl KR.out ⟨_, rfl, (O.out.put8 (by omega) _ _ _ _ _ _ _ _).wide (by omega) (by rw [put8_size]; omega), put8_below B6.out (Nat.le_succ _)⟩
  · have XV1 := Lib.hid (uqV_no hs)
    obtain ⟨R, hR⟩ : ∃ R, atmS VV = R := ⟨_, rfl⟩
    have XS1 := Lib.hid hR
    rw [hR] at hs ⊢
    have hRb : (R.toList == []) = false := by have h := str_not hs; rw [ByteArray.toList_eq ⟨#[]⟩] at h; exact h
    clear hs hR
    obtain ⟨z0, z1, z2, z3, z4, z5, z6, z7⟩ := vec8 KR.out
    obtain ⟨f0, f1, f2, f3, f4, f5, f6, f7⟩ := free8 KR.out
    go_wp2
    rw [XV1.out, XS1.out]
    exact vec_endS rfl rfl rfl rfl KR.out (zeroSD _ _ w _ (put8_below B2.out (Nat.le_succ _)))
end Go.Proofs.Ytfbpbpbmnieieaa

/- The program's last look at a result: withinLimits. -/
namespace Go.Proofs.Ytfbpbpbmnieieaa
set_option maxRecDepth 100000
open Go.RowKit
set_option linter.unusedVariables false
set_option maxHeartbeats 4000000 in
theorem implFit (d : Nat) (v : Vec) (val : Value) (lo hi : Nat) (w : World) (hv : VecAt lo hi w d v val) (hhi : hi ≤ w.heap.size) (hsm : Small d v) :
    Calls Try.prog 48 #[val] w fun e w' => Below w.heap.size w w' ∧ ((ValidV v ∧ e = .returned (.tuple #[val, .string ⟨#[]⟩])) ∨ (¬ ValidV v ∧ e = .returned (.tuple #[.agg #[.int .i64 0, .slice none 0 0, .slice none 0 0, .slice none 0 0, .slice none 0 0, .slice none 0 0, .int .i64 0, .int .i64 0], .string bigB]))) := by
  have C1 := Lib.hid (fun (w1 : World) (hb : Below w.heap.size w w1) => implIsVector d v val lo hi w1 (hv.below hb hhi) (Nat.le_trans hhi hb.size) hsm)
  obtain ⟨VV, hVV⟩ : ∃ V, v = V := ⟨_, rfl⟩
  rw [hVV] at C1 ⊢
  obtain ⟨kk, items, parts, names, cls, levels, code, env⟩ := v
  obtain ⟨d', ai, ci, ap, cp, an, cn, ac, cc, al, cl, ed, rfl, hI, hN, hC, hL, hP⟩ := vecAt_open hv
  clear hv hI hN hC hL hP hsm ed hVV
  go_enter Try.func48, Try.ntmps48
  go_wp2_with fail
  obtain ⟨w1, hw1⟩ : ∃ W, (w.alloc (.cells #[.int .i64 kk, .slice ai items.length ci, .slice ap parts.length cp, .slice an names.length cn, .slice ac cls.length cc, .slice al levels.length cl, .int .i64 code, .int .i64 env] 31)).alloc (.cells #[.int .i64 0, .slice none 0 0, .slice none 0 0, .slice none 0 0, .slice none 0 0, .slice none 0 0, .int .i64 0, .int .i64 0] 31) = W := ⟨_, rfl⟩
  have hsz : (w.alloc (.cells #[.int .i64 kk, .slice ai items.length ci, .slice ap parts.length cp, .slice an names.length cn, .slice ac cls.length cc, .slice al levels.length cl, .int .i64 code, .int .i64 env] 31)).heap.size = w.heap.size + 1 := by simp
  have B1 := Lib.hid (show Below w.heap.size w w1 from hw1 ▸ (below1 w _).alloc (by simp) _)
  have KA := Lib.hid (show w1.heap[w.heap.size]? = some (.cells #[.int .i64 kk, .slice ai items.length ci, .slice ap parts.length cp, .slice an names.length cn, .slice ac cls.length cc, .slice al levels.length cl, .int .i64 code, .int .i64 env] 31 (0, 0)) from hw1 ▸ blk_old (blk_new w _ rfl))
  have KR := Lib.hid (show w1.heap[w.heap.size + 1]? = some (.cells #[.int .i64 0, .slice none 0 0, .slice none 0 0, .slice none 0 0, .slice none 0 0, .slice none 0 0, .int .i64 0, .int .i64 0] 31 (0, 0)) from hw1 ▸ hsz ▸ blk_new (w.alloc (.cells #[.int .i64 kk, .slice ai items.length ci, .slice ap parts.length cp, .slice an names.length cn, .slice ac cls.length cc, .slice al levels.length cl, .int .i64 code, .int .i64 env] 31)) (.cells #[.int .i64 0, .slice none 0 0, .slice none 0 0, .slice none 0 0, .slice none 0 0, .slice none 0 0, .int .i64 0, .int .i64 0] 31) rfl)
  rw [hw1]
  clear hw1 hsz
  with_reducible refine (C1.out _ B1.out).mono ?_
  rintro e w2 ⟨rfl, b⟩
  have B2 := Lib.hid (below_then B1.out b)
  have KA2 := Lib.hid (blk_below b KA.out)
  have KR2 := Lib.hid (blk_below b KR.out)
  clear b
  obtain ⟨k0, k1, k2, k3, k4, k5, k6, k7⟩ := vec8 KA2.out
  obtain ⟨z0, z1, z2, z3, z4, z5, z6, z7⟩ := vec8 KR2.out
  obtain ⟨f0, f1, f2, f3, f4, f5, f6, f7⟩ := free8 KR2.out
  by_cases q : ValidV VV
  · rw [bB_yes q]
    have Q := Lib.hid q
    clear q
    go_wp2
    exact vec_endS rfl rfl rfl rfl KR2.out ⟨put8_below B2.out (Nat.le_succ _), .inl ⟨Q.out, rfl⟩⟩
  · rw [bB_no q]
    have Q := Lib.hid q
    clear q
    go_wp2
    exact vec_endS rfl rfl rfl rfl KR2.out ⟨put8_below B2.out (Nat.le_succ _), .inr ⟨Q.out, rfl⟩⟩
end Go.Proofs.Ytfbpbpbmnieieaa

/- ListVector: data, the program. -/
namespace Go.Proofs.Ytfbpbpbmnieieaa
open Go.RowKit
set_option maxRecDepth 100000
set_option linter.unusedVariables false

/-- The list that ListVector makes of parts and names. -/
noncomputable def lstR (parts : List Vec) (names : List ByteArray) : Vec := .mk 4 [] parts (clnN names) [] [] 0 0
noncomputable def lstV (parts : List Vec) (names : List ByteArray) : Vec := match bB (ValidV (lstR parts names)) with | true => lstR parts names | false => noV
noncomputable def lstS (parts : List Vec) (names : List ByteArray) : ByteArray := match bB (ValidV (lstR parts names)) with | true => ⟨#[]⟩ | false => bigB
theorem lst_yes {parts : List Vec} {names : List ByteArray} (h : ValidV (lstR parts names)) : lstV parts names = lstR parts names ∧ lstS parts names = ⟨#[]⟩ := by unfold lstV lstS; rw [bB_yes h]; exact ⟨rfl, rfl⟩
theorem lst_no {parts : List Vec} {names : List ByteArray} (h : ¬ ValidV (lstR parts names)) : lstV parts names = noV ∧ lstS parts names = bigB := by unfold lstV lstS; rw [bB_no h]; exact ⟨rfl, rfl⟩
theorem clnN_sub (l : List ByteArray) : (clnN l).length ≤ l.length ∧ ∀ s ∈ clnN l, s ∈ l := by
  unfold clnN; split
  · exact ⟨Nat.le_refl _, fun s h => h⟩
  · exact ⟨Nat.zero_le _, fun s h => by cases h⟩
theorem lst_small {d : Nat} {parts : List Vec} {names : List ByteArray} (hsp : ∀ p ∈ parts, Small d p) (lp : parts.length ≤ 1048576) (ln : names.length ≤ 1048576) (hns : ∀ s ∈ names, s.size ≤ 1048576) : Small (d + 1) (lstR parts names) := by
  have h := clnN_sub names
  show Small (d + 1) (.mk 4 [] parts (clnN names) [] [] 0 0)
  unfold Small
  exact ⟨Nat.zero_le _, lp, Nat.le_trans h.1 ln, Nat.zero_le _, Nat.zero_le _, (fun _ h => by cases h), fun s hs => hns s (h.2 s hs), (fun _ h => by cases h), (fun _ h => by cases h), hsp⟩
theorem texts_nil (lo hi : Nat) (w : World) (a : Option Addr) : TextsAt lo hi w a [] := fun i x h => by cases h
theorem items_nil (lo hi : Nat) (w : World) (a : Option Addr) : ItemsAt lo hi w a [] := fun i x h => by cases h
theorem vecs_nil (lo hi : Nat) (w : World) (d : Nat) (a : Option Addr) : VecsAt lo hi w d a [] := fun i x h => by cases h
theorem lst_at {d : Nat} {parts : List Vec} {nm : List ByteArray} {pa na : Option Addr} {pc nc lo hi : Nat} {w : World} (hP : VecsAt lo hi w d pa parts) (hN : TextsAt lo hi w na nm) (hpc : parts.length ≤ pc) (hnc : nm.length ≤ nc) : VecAt lo hi w (d + 1) (.mk 4 [] parts nm [] [] 0 0) (.agg #[.int .i64 4, .slice none 0 0, .slice pa parts.length pc, .slice na nm.length nc, .slice none 0 0, .slice none 0 0, .int .i64 0, .int .i64 0]) :=
  vecAt_mk (items_nil _ _ _ _) hN (texts_nil _ _ _ _) (texts_nil _ _ _ _) hP ⟨Nat.le_refl _, hpc, hnc, Nat.le_refl _, Nat.le_refl _⟩
set_option maxHeartbeats 4000000 in
theorem implList (d : Nat) (parts : List Vec) (names : List ByteArray) (pa na : Option Addr) (pc nc lo hi : Nat) (w : World) (hP : VecsAt lo hi w d pa parts) (hN : TextsAt lo hi w na names) (hhi : hi ≤ w.heap.size) (hpc : parts.length ≤ pc) (hnc : names.length ≤ nc) (hsp : ∀ p ∈ parts, Small d p) (lp : parts.length ≤ 1048576) (ln : names.length ≤ 1048576) (hns : ∀ s ∈ names, s.size ≤ 1048576) :
    Calls Try.prog 22 #[.slice pa parts.length pc, .slice na names.length nc] w (ResVS (d + 1) (lstV parts names) (lstS parts names) w) := by
  have SM := Lib.hid (lst_small (names := names) hsp lp ln hns)
  have CK := Lib.hid (fun (W : World) (hb : Below w.heap.size w W) => implKnownN names na nc lo hi W (hN.below hb hhi) ln)
  have VY := Lib.hid (fun (W : World) (hb : Below w.heap.size w W) (e : clnN names = names) => (by
    have h := lst_at (hP.below hb hhi) (hN.below hb hhi) hpc hnc
    show VecAt lo hi W (d + 1) (.mk 4 [] parts (clnN names) [] [] 0 0) _
    rw [e]; exact h : VecAt lo hi W (d + 1) (lstR parts names) (.agg #[.int .i64 4, .slice none 0 0, .slice pa parts.length pc, .slice na names.length nc, .slice none 0 0, .slice none 0 0, .int .i64 0, .int .i64 0])))
  have VN := Lib.hid (fun (W : World) (hb : Below w.heap.size w W) (e : clnN names = []) => (by
    have h := lst_at (na := none) (nc := 0) (hP.below hb hhi) (texts_nil lo hi W none) hpc (Nat.le_refl _)
    show VecAt lo hi W (d + 1) (.mk 4 [] parts (clnN names) [] [] 0 0) _
    rw [e]; exact h : VecAt lo hi W (d + 1) (lstR parts names) (.agg #[.int .i64 4, .slice none 0 0, .slice pa parts.length pc, .slice none 0 0, .slice none 0 0, .slice none 0 0, .int .i64 0, .int .i64 0])))
  have CZ := Lib.hid (fun (W : World) => (icvAll (d + 1)).out noV (.agg #[.int .i64 0, .slice none 0 0, .slice none 0 0, .slice none 0 0, .slice none 0 0, .slice none 0 0, .int .i64 0, .int .i64 0]) 0 0 W (vecAt_mk (items_nil _ _ _ _) (texts_nil _ _ _ _) (texts_nil _ _ _ _) (texts_nil _ _ _ _) (vecs_nil _ _ _ _ _) ⟨Nat.le_refl _, Nat.le_refl _, Nat.le_refl _, Nat.le_refl _, Nat.le_refl _⟩) (Nat.zero_le _) (by show Small (d + 1) (.mk 0 [] [] [] [] [] 0 0); unfold Small; exact ⟨Nat.zero_le _, Nat.zero_le _, Nat.zero_le _, Nat.zero_le _, Nat.zero_le _, (fun _ h => by cases h), (fun _ h => by cases h), (fun _ h => by cases h), (fun _ h => by cases h), (fun _ h => by cases h)⟩))
  have XY := Lib.hid (fun h => lst_yes (parts := parts) (names := names) h)
  have XB := Lib.hid (fun h => lst_no (parts := parts) (names := names) h)
  obtain ⟨V, hV⟩ : ∃ V, lstR parts names = V := ⟨_, rfl⟩
  rw [hV] at SM VY VN XY XB
  obtain ⟨np, hnp⟩ : ∃ n, parts.length = n := ⟨_, rfl⟩
  rw [hnp] at VY VN ⊢
  clear hV hnp hP hN hpc hnc hsp lp ln hns
  go_enter Try.func22, Try.ntmps22
  go_wp2_with fail
  obtain ⟨w1, hw1⟩ : ∃ W, w.alloc (.cells #[.int .i64 0, .slice none 0 0, .slice none 0 0, .slice none 0 0, .slice none 0 0, .slice none 0 0, .int .i64 0, .int .i64 0] 31) = W := ⟨_, rfl⟩
  have B1 := Lib.hid (show Below w.heap.size w w1 from hw1 ▸ below1 w _)
  have KR := Lib.hid (show w1.heap[w.heap.size]? = some (.cells #[.int .i64 0, .slice none 0 0, .slice none 0 0, .slice none 0 0, .slice none 0 0, .slice none 0 0, .int .i64 0, .int .i64 0] 31 (0, 0)) from hw1 ▸ blk_new w _ rfl)
  rw [hw1]
  clear hw1
  refine (CK.out _ B1.out).mono ?_
  rintro e w2 ⟨hk, rfl⟩
  rcases hk with ⟨ek, rfl⟩ | ⟨ek, rfl⟩
  · have EK := Lib.hid ek
    have VAT := VY
    clear ek VN VY
    have VA := Lib.hid (fun (W : World) (hb : Below w.heap.size w W) => VAT.out W hb EK.out)
    have FT := Lib.hid (fun (W : World) (hb : Below w.heap.size w W) => implFit (d + 1) V _ lo hi W (VA.out W hb) (Nat.le_trans hhi hb.size) SM.out)
    have CV := Lib.hid (fun (W : World) (hb : Below w.heap.size w W) => (icvAll (d + 1)).out V _ lo hi W (VA.out W hb) (Nat.le_trans hhi hb.size) SM.out)
    clear VA
    go_wp2_with fail
    refine (FT.out _ B1.out).mono ?_
    rintro e w3 ⟨b, hor⟩
    have B3 := Lib.hid (below_then B1.out b)
    have KR := Lib.hid (blk_below b KR.out)
    clear b FT
    rcases hor with ⟨hvr, rfl⟩ | ⟨hvr, rfl⟩
    · obtain ⟨x1, x2⟩ := XY.out hvr
      have XV1 := Lib.hid x1
      have XS1 := Lib.hid x2
      clear x1 x2
      go_upto_region 2 with (fail)
      obtain ⟨w4, hw4⟩ : ∃ W, w3.alloc (.cells #[.int .i64 4, .slice none 0 0, .slice pa np pc, .slice na names.length nc, .slice none 0 0, .slice none 0 0, .int .i64 0, .int .i64 0] 31) = W := ⟨_, rfl⟩
      have N4 := Lib.hid (show w4.heap[w3.heap.size]? = some (.cells #[.int .i64 4, .slice none 0 0, .slice pa np pc, .slice na names.length nc, .slice none 0 0, .slice none 0 0, .int .i64 0, .int .i64 0] 31 (0, 0)) from hw4 ▸ blk_new w3 _ rfl)
      have B34 := Lib.hid (show Below w3.heap.size w3 w4 from hw4 ▸ below1 w3 _)
      have B4 := Lib.hid (below_then B3.out B34.out)
      have KR := Lib.hid (blk_below B34.out KR.out)
      rw [hw4]
      clear hw4
      obtain ⟨n0, n1, n2, n3, n4, n5, n6, n7⟩ := vec8 N4.out
      go_wp2_with fail
      refine (CV.out _ B4.out).mono ?_
      rintro e w5 ⟨y, rfl, ho, hb⟩
      obtain ⟨yk, ya1, yn1, ym1, ya2, yn2, ym2, ya3, yn3, ym3, ya4, yn4, ym4, ya5, yn5, ym5, yc, ye, rfl⟩ := ho.agg
      have hr4 := (Array.getElem?_eq_some_iff.1 KR.out).1
      have B5 := Lib.hid (below_then B4.out hb)
      have KR := Lib.hid (blk_below hb KR.out)
      have HO := Lib.hid ho
      clear ho hb n0 n1 n2 n3 n4 n5 n6 n7
      obtain ⟨z0, z1, z2, z3, z4, z5, z6, z7⟩ := vec8 KR.out
      obtain ⟨f0, f1, f2, f3, f4, f5, f6, f7⟩ := free8 KR.out
      go_wp2
      rw [XV1.out, XS1.out]
      exact vec_endS rfl rfl rfl rfl KR.out ⟨_, rfl, (HO.out.put8 (by omega) _ _ _ _ _ _ _ _).wide (by omega) (by rw [put8_size]; exact Nat.le_refl _), put8_below B5.out (Nat.le_refl _)⟩
    · obtain ⟨x1, x2⟩ := XB.out hvr
      have XV1 := Lib.hid x1
      have XS1 := Lib.hid x2
      clear x1 x2
      go_upto_region 2 with (fail)
      obtain ⟨w4, hw4⟩ : ∃ W, w3.alloc (.cells #[.int .i64 0, .slice none 0 0, .slice none 0 0, .slice none 0 0, .slice none 0 0, .slice none 0 0, .int .i64 0, .int .i64 0] 31) = W := ⟨_, rfl⟩
      have N4 := Lib.hid (show w4.heap[w3.heap.size]? = some (.cells #[.int .i64 0, .slice none 0 0, .slice none 0 0, .slice none 0 0, .slice none 0 0, .slice none 0 0, .int .i64 0, .int .i64 0] 31 (0, 0)) from hw4 ▸ blk_new w3 _ rfl)
      have B34 := Lib.hid (show Below w3.heap.size w3 w4 from hw4 ▸ below1 w3 _)
      have B4 := Lib.hid (below_then B3.out B34.out)
      have KR := Lib.hid (blk_below B34.out KR.out)
      rw [hw4]
      clear hw4
      obtain ⟨n0, n1, n2, n3, n4, n5, n6, n7⟩ := vec8 N4.out
      go_wp2_with fail
      refine (CZ.out _).mono ?_
      rintro e w5 ⟨y, rfl, ho, hb⟩
      obtain ⟨yk, ya1, yn1, ym1, ya2, yn2, ym2, ya3, yn3, ym3, ya4, yn4, ym4, ya5, yn5, ym5, yc, ye, rfl⟩ := ho.agg
      have hr4 := (Array.getElem?_eq_some_iff.1 KR.out).1
      have B5 := Lib.hid (below_then B4.out hb)
      have KR := Lib.hid (blk_below hb KR.out)
      have HO := Lib.hid ho
      clear ho hb n0 n1 n2 n3 n4 n5 n6 n7
      obtain ⟨z0, z1, z2, z3, z4, z5, z6, z7⟩ := vec8 KR.out
      obtain ⟨f0, f1, f2, f3, f4, f5, f6, f7⟩ := free8 KR.out
      go_wp2
      rw [XV1.out, XS1.out]
      exact vec_endS rfl rfl rfl rfl KR.out ⟨_, rfl, (HO.out.put8 (by omega) _ _ _ _ _ _ _ _).wide (by omega) (by rw [put8_size]; exact Nat.le_refl _), put8_below B5.out (Nat.le_refl _)⟩
  · have EK := Lib.hid ek
    have VAT := VN
    clear ek VN VY
    have VA := Lib.hid (fun (W : World) (hb : Below w.heap.size w W) => VAT.out W hb EK.out)
    have FT := Lib.hid (fun (W : World) (hb : Below w.heap.size w W) => implFit (d + 1) V _ lo hi W (VA.out W hb) (Nat.le_trans hhi hb.size) SM.out)
    have CV := Lib.hid (fun (W : World) (hb : Below w.heap.size w W) => (icvAll (d + 1)).out V _ lo hi W (VA.out W hb) (Nat.le_trans hhi hb.size) SM.out)
    clear VA
    go_wp2_with fail
    refine (FT.out _ B1.out).mono ?_
    rintro e w3 ⟨b, hor⟩
    have B3 := Lib.hid (below_then B1.out b)
    have KR := Lib.hid (blk_below b KR.out)
    clear b FT
    rcases hor with ⟨hvr, rfl⟩ | ⟨hvr, rfl⟩
    · obtain ⟨x1, x2⟩ := XY.out hvr
      have XV1 := Lib.hid x1
      have XS1 := Lib.hid x2
      clear x1 x2
      go_upto_region 2 with (fail)
      obtain ⟨w4, hw4⟩ : ∃ W, w3.alloc (.cells #[.int .i64 4, .slice none 0 0, .slice pa np pc, .slice none 0 0, .slice none 0 0, .slice none 0 0, .int .i64 0, .int .i64 0] 31) = W := ⟨_, rfl⟩
      have N4 := Lib.hid (show w4.heap[w3.heap.size]? = some (.cells #[.int .i64 4, .slice none 0 0, .slice pa np pc, .slice none 0 0, .slice none 0 0, .slice none 0 0, .int .i64 0, .int .i64 0] 31 (0, 0)) from hw4 ▸ blk_new w3 _ rfl)
      have B34 := Lib.hid (show Below w3.heap.size w3 w4 from hw4 ▸ below1 w3 _)
      have B4 := Lib.hid (below_then B3.out B34.out)
      have KR := Lib.hid (blk_below B34.out KR.out)
      rw [hw4]
      clear hw4
      obtain ⟨n0, n1, n2, n3, n4, n5, n6, n7⟩ := vec8 N4.out
      go_wp2_with fail
      refine (CV.out _ B4.out).mono ?_
      rintro e w5 ⟨y, rfl, ho, hb⟩
      obtain ⟨yk, ya1, yn1, ym1, ya2, yn2, ym2, ya3, yn3, ym3, ya4, yn4, ym4, ya5, yn5, ym5, yc, ye, rfl⟩ := ho.agg
      have hr4 := (Array.getElem?_eq_some_iff.1 KR.out).1
      have B5 := Lib.hid (below_then B4.out hb)
      have KR := Lib.hid (blk_below hb KR.out)
      have HO := Lib.hid ho
      clear ho hb n0 n1 n2 n3 n4 n5 n6 n7
      obtain ⟨z0, z1, z2, z3, z4, z5, z6, z7⟩ := vec8 KR.out
      obtain ⟨f0, f1, f2, f3, f4, f5, f6, f7⟩ := free8 KR.out
      go_wp2
      rw [XV1.out, XS1.out]
      exact vec_endS rfl rfl rfl rfl KR.out ⟨_, rfl, (HO.out.put8 (by omega) _ _ _ _ _ _ _ _).wide (by omega) (by rw [put8_size]; exact Nat.le_refl _), put8_below B5.out (Nat.le_refl _)⟩
    · obtain ⟨x1, x2⟩ := XB.out hvr
      have XV1 := Lib.hid x1
      have XS1 := Lib.hid x2
      clear x1 x2
      go_upto_region 2 with (fail)
      obtain ⟨w4, hw4⟩ : ∃ W, w3.alloc (.cells #[.int .i64 0, .slice none 0 0, .slice none 0 0, .slice none 0 0, .slice none 0 0, .slice none 0 0, .int .i64 0, .int .i64 0] 31) = W := ⟨_, rfl⟩
      have N4 := Lib.hid (show w4.heap[w3.heap.size]? = some (.cells #[.int .i64 0, .slice none 0 0, .slice none 0 0, .slice none 0 0, .slice none 0 0, .slice none 0 0, .int .i64 0, .int .i64 0] 31 (0, 0)) from hw4 ▸ blk_new w3 _ rfl)
      have B34 := Lib.hid (show Below w3.heap.size w3 w4 from hw4 ▸ below1 w3 _)
      have B4 := Lib.hid (below_then B3.out B34.out)
      have KR := Lib.hid (blk_below B34.out KR.out)
      rw [hw4]
      clear hw4
      obtain ⟨n0, n1, n2, n3, n4, n5, n6, n7⟩ := vec8 N4.out
      go_wp2_with fail
      refine (CZ.out _).mono ?_
      rintro e w5 ⟨y, rfl, ho, hb⟩
      obtain ⟨yk, ya1, yn1, ym1, ya2, yn2, ym2, ya3, yn3, ym3, ya4, yn4, ym4, ya5, yn5, ym5, yc, ye, rfl⟩ := ho.agg
      have hr4 := (Array.getElem?_eq_some_iff.1 KR.out).1
      have B5 := Lib.hid (below_then B4.out hb)
      have KR := Lib.hid (blk_below hb KR.out)
      have HO := Lib.hid ho
      clear ho hb n0 n1 n2 n3 n4 n5 n6 n7
      obtain ⟨z0, z1, z2, z3, z4, z5, z6, z7⟩ := vec8 KR.out
      obtain ⟨f0, f1, f2, f3, f4, f5, f6, f7⟩ := free8 KR.out
      go_wp2
      rw [XV1.out, XS1.out]
      exact vec_endS rfl rfl rfl rfl KR.out ⟨_, rfl, (HO.out.put8 (by omega) _ _ _ _ _ _ _ _).wide (by omega) (by rw [put8_size]; exact Nat.le_refl _), put8_below B5.out (Nat.le_refl _)⟩
end Go.Proofs.Ytfbpbpbmnieieaa

/- The reference's l4Clean: names that are all empty are left out. -/
namespace Go.Proofs.Ytfbpbpbmnieieaa
set_option maxRecDepth 100000
open Go.RowKit
set_option linter.unusedVariables false
set_option maxHeartbeats 4000000 in
theorem specClean (kk code env : Int) (items : List It) (parts : List Vec) (names cls levels : List ByteArray) (ai ap an ac al : Option Addr) (ci cp cn cc cl lo hi : Nat) (w : World) (hN : TextsAt lo hi w an names) (hhi : hi ≤ w.heap.size) (ln : names.length ≤ 1048576) :
    Calls Try.prog 54 #[.agg #[.int .i64 kk, .slice ai items.length ci, .slice ap parts.length cp, .slice an names.length cn, .slice ac cls.length cc, .slice al levels.length cl, .int .i64 code, .int .i64 env]] w fun e w' => Below w.heap.size w w' ∧ (((∃ i, i < names.length ∧ txtS names i ≠ ⟨#[]⟩) ∧ e = .returned (.agg #[.int .i64 kk, .slice ai items.length ci, .slice ap parts.length cp, .slice an names.length cn, .slice ac cls.length cc, .slice al levels.length cl, .int .i64 code, .int .i64 env])) ∨
      ((∀ i, i < names.length → txtS names i = ⟨#[]⟩) ∧ ∃ g, w.heap.size ≤ g ∧ e = .returned (.agg #[.int .i64 kk, .slice ai items.length ci, .slice ap parts.length cp, .slice (some ⟨g, 0, none⟩) 0 0, .slice ac cls.length cc, .slice al levels.length cl, .int .i64 code, .int .i64 env]))) := by
  have HT := Lib.hid (fun (w1 : World) (hb : Below w.heap.size w w1) (k : Nat) (hk : k < names.length) => show ∃ b off, an = some ⟨b, off, none⟩ ∧ w1.cell? ⟨b, off + k, none⟩ = some (.string (txtS names k)) from by
    obtain ⟨b, off, e, _, _, h⟩ := (hN.below hb hhi) k (txtS names k) (by unfold txtS; simp [List.getD_eq_getElem?_getD, List.getElem?_eq_getElem hk])
    exact ⟨b, off, e, h⟩)
  clear hN
  obtain ⟨n, hn⟩ : ∃ n, names.length = n := ⟨_, rfl⟩
  rw [hn] at HT ln ⊢
  clear hn
  go_enter Try.func54, Try.ntmps54
  obtain ⟨w1, hw1⟩ : ∃ W, (w.alloc (.cells #[.int .i64 kk, .slice ai items.length ci, .slice ap parts.length cp, .slice an n cn, .slice ac cls.length cc, .slice al levels.length cl, .int .i64 code, .int .i64 env] 31)).alloc (.cells #[.int .i64 0, .slice none 0 0, .slice none 0 0, .slice none 0 0, .slice none 0 0, .slice none 0 0, .int .i64 0, .int .i64 0] 31) = W := ⟨_, rfl⟩
  have hsz : (w.alloc (.cells #[.int .i64 kk, .slice ai items.length ci, .slice ap parts.length cp, .slice an n cn, .slice ac cls.length cc, .slice al levels.length cl, .int .i64 code, .int .i64 env] 31)).heap.size = w.heap.size + 1 := by simp
  have B1 := Lib.hid (show Below w.heap.size w w1 from hw1 ▸ (below1 w _).alloc (by simp) _)
  have KA := Lib.hid (show w1.heap[w.heap.size]? = some (.cells #[.int .i64 kk, .slice ai items.length ci, .slice ap parts.length cp, .slice an n cn, .slice ac cls.length cc, .slice al levels.length cl, .int .i64 code, .int .i64 env] 31 (0, 0)) from hw1 ▸ blk_old (blk_new w _ rfl))
  have KR := Lib.hid (show w1.heap[w.heap.size + 1]? = some (.cells #[.int .i64 0, .slice none 0 0, .slice none 0 0, .slice none 0 0, .slice none 0 0, .slice none 0 0, .int .i64 0, .int .i64 0] 31 (0, 0)) from hw1 ▸ hsz ▸ blk_new (w.alloc (.cells #[.int .i64 kk, .slice ai items.length ci, .slice ap parts.length cp, .slice an n cn, .slice ac cls.length cc, .slice al levels.length cl, .int .i64 code, .int .i64 env] 31)) (.cells #[.int .i64 0, .slice none 0 0, .slice none 0 0, .slice none 0 0, .slice none 0 0, .slice none 0 0, .int .i64 0, .int .i64 0] 31) rfl)
  have EW := Lib.hid hw1
  clear hw1 hsz
  go_wp2
  go_loopw [3] (fun i wr => ∃ k : Nat, k ≤ n ∧ i = .int .i64 k ∧ wr = w1 ∧ ∀ j, j < k → txtS names j = ⟨#[]⟩) (fun i _ => n - (intOf i).toNat)
  case atStart => exact ⟨0, Nat.zero_le _, rfl, EW.out, fun j h => absurd h (Nat.not_lt_zero _)⟩
  case round =>
    obtain ⟨k, hk, rfl, rfl, hj⟩ := hrel
    have HJ := Lib.hid hj
    clear hj
    obtain ⟨k0, k1, k2, k3, k4, k5, k6, k7⟩ := vec8 KA.out
    by_cases hlt : k < n
    · obtain ⟨b, off, rfl, c⟩ := HT.out _ B1.out _ hlt
      by_cases q : txtS names k = ⟨#[]⟩
      · rw [q] at c
        have Q := Lib.hid q
        clear q
        go_wp2
        go_roundw
        case rel => exact ⟨k + 1, by omega, by go_num, trivial, fun j h => by
          rcases Nat.lt_or_ge j k with h' | h'
          · exact HJ.out j h'
          · obtain rfl : j = k := by omega
            exact Q.out⟩
        case measure => simp [intOf]; omega
      · obtain ⟨x, hx⟩ : ∃ x, txtS names k = x := ⟨_, rfl⟩
        rw [hx] at c
        have Q := Lib.hid q
        have hxb : (x.toList == []) = false := by have h := str_not (hx ▸ q); rw [ByteArray.toList_eq ⟨#[]⟩] at h; exact h
        clear q hx
        obtain ⟨z0, z1, z2, z3, z4, z5, z6, z7⟩ := vec8 KR.out
        obtain ⟨f0, f1, f2, f3, f4, f5, f6, f7⟩ := free8 KR.out
        go_wp2
        exact vec_end rfl rfl rfl KR.out ⟨put8_below B1.out (Nat.le_succ _), .inl ⟨⟨k, hlt, Q.out⟩, rfl⟩⟩
    · obtain rfl : k = n := by omega
      go_upto_region 6 with (fail)
      clear k0 k1 k2 k3 k4 k5 k6 k7
      have KA2 := Lib.hid (show (wr.alloc (.cells #[] 9)).heap[w.heap.size]? = some (.cells #[.int .i64 kk, .slice ai items.length ci, .slice ap parts.length cp, .slice an k cn, .slice ac cls.length cc, .slice al levels.length cl, .int .i64 code, .int .i64 env] 31 (0, 0)) from blk_old KA.out)
      have KR2 := Lib.hid (show (wr.alloc (.cells #[] 9)).heap[w.heap.size + 1]? = some (.cells #[.int .i64 0, .slice none 0 0, .slice none 0 0, .slice none 0 0, .slice none 0 0, .slice none 0 0, .int .i64 0, .int .i64 0] 31 (0, 0)) from blk_old KR.out)
      have u2 : ∃ x, (wr.alloc (.cells #[] 9)).cell? ⟨w.heap.size, 3, none⟩ = some x := ⟨_, cellOf KA2.out rfl⟩
      obtain ⟨x2, hx2⟩ := u2
      have hf2 : (wr.alloc (.cells #[] 9)).frozen? ⟨w.heap.size, 3, none⟩ = false := freeOf KA2.out
      obtain ⟨w3, hw⟩ : ∃ W, (wr.alloc (.cells #[] 9)).setCell ⟨w.heap.size, 3, none⟩ (.slice (some ⟨wr.heap.size, 0, none⟩) 0 0) = W := ⟨_, rfl⟩
      have KA3 := Lib.hid (show w3.heap[w.heap.size]? = some (.cells #[.int .i64 kk, .slice ai items.length ci, .slice ap parts.length cp, .slice (some ⟨wr.heap.size, 0, none⟩) 0 0, .slice ac cls.length cc, .slice al levels.length cl, .int .i64 code, .int .i64 env] 31 (0, 0)) from hw ▸ Joins.block_setCell KA2.out _)
      have KR3 := Lib.hid (show w3.heap[w.heap.size + 1]? = some (.cells #[.int .i64 0, .slice none 0 0, .slice none 0 0, .slice none 0 0, .slice none 0 0, .slice none 0 0, .int .i64 0, .int .i64 0] 31 (0, 0)) from hw ▸ (Below.heap_setCell _ _ _ _ (by show w.heap.size + 1 ≠ w.heap.size; omega)).trans KR2.out)
      have B3 := Lib.hid (show Below w.heap.size w w3 from hw ▸ (B1.out.alloc B1.out.size _).setCell (p := ⟨w.heap.size, 3, none⟩) (Nat.le_refl _) _)
      have EW3 := Lib.hid hw
      clear hw
      go_upto_region 7 with (fail)
      rw [EW3.out]
      clear hx2 hf2
      obtain ⟨k0, k1, k2, k3, k4, k5, k6, k7⟩ := vec8 KA3.out
      obtain ⟨z0, z1, z2, z3, z4, z5, z6, z7⟩ := vec8 KR3.out
      obtain ⟨f0, f1, f2, f3, f4, f5, f6, f7⟩ := free8 KR3.out
      go_wp2
      exact vec_end rfl rfl rfl KR3.out ⟨put8_below B3.out (Nat.le_succ _), .inr ⟨HJ.out, wr.heap.size, B1.out.size, rfl⟩⟩
end Go.Proofs.Ytfbpbpbmnieieaa

/- The reference's l4Pick: elements of an atomic vector at positions within its length. -/
namespace Go.Proofs.Ytfbpbpbmnieieaa
open Go.RowKit
set_option maxRecDepth 100000
set_option linter.unusedVariables false

theorem pkT_succ {α : Type} {z : α} {l : List α} {idx : List Nat} {k : Nat} (h : l.length ≠ 0) (hk : k < idx.length) : pkL z l (idx.take (k + 1)) = pkL z l (idx.take k) ++ [l.getD (idx.getD k 0) z] := by
  rw [pkL_some h, pkL_some h, List.take_add_one, List.map_append]
  simp [List.getD_eq_getElem?_getD, hk]
theorem pkT_nil {α : Type} {z : α} {l : List α} (h : l.length = 0) (idx : List Nat) : pkL z l idx = [] := by
  rw [List.eq_nil_of_length_eq_zero h]; rfl
theorem pkT_full {α : Type} (z : α) (l : List α) (idx : List Nat) : pkL z l (idx.take idx.length) = pkL z l idx := by rw [List.take_length]
theorem pkT_zero {α : Type} (z : α) (l : List α) (idx : List Nat) : pkL z l (idx.take 0) = [] := by
  cases l with
  | nil => rfl
  | cons x l => rfl
theorem pkT_len {α : Type} (z : α) (l : List α) (idx : List Nat) (k : Nat) : (pkL z l (idx.take k)).length ≤ k := by
  have := pkL_len z l (idx.take k)
  rw [List.length_take] at this
  omega
theorem Und.keep {lo : Nat} {w : World} {d : Nat} {items : List It} {parts : List Vec} {names cls lev : List ByteArray} {vi vp vn vc vl : Value} {X : List Nat} {w' : World} (h : Und lo w d items parts names cls lev vi vp vn vc vl X) (hb : Below w.heap.size w w') : Und lo w' d items parts names cls lev vi vp vn vc vl X := h.below hb
theorem row_form {lo : Nat} {w : World} {el : TypeId} {size n : Nat} {v : Value} {xs : List Value} (h : w.ownsRow lo el size v n xs) : ∃ s c, v = .slice s n c := by
  obtain ⟨_, ⟨e, h0⟩ | ⟨g, cap, cur, e, _⟩⟩ := h
  · subst h0; exact ⟨_, _, e⟩
  · exact ⟨_, _, e⟩
theorem specCleanN (kk code env : Int) (ai ap an ac al : Option Addr) (ni ci np cp cn nc cc nl cl : Nat) (names : List ByteArray) (lo hi : Nat) (w : World) (hN : TextsAt lo hi w an names) (hhi : hi ≤ w.heap.size) (ln : names.length ≤ 1048576) :
    Calls Try.prog 54 #[.agg #[.int .i64 kk, .slice ai ni ci, .slice ap np cp, .slice an names.length cn, .slice ac nc cc, .slice al nl cl, .int .i64 code, .int .i64 env]] w fun e w' => Below w.heap.size w w' ∧ (((∃ i, i < names.length ∧ txtS names i ≠ ⟨#[]⟩) ∧ e = .returned (.agg #[.int .i64 kk, .slice ai ni ci, .slice ap np cp, .slice an names.length cn, .slice ac nc cc, .slice al nl cl, .int .i64 code, .int .i64 env])) ∨
      ((∀ i, i < names.length → txtS names i = ⟨#[]⟩) ∧ ∃ g, w.heap.size ≤ g ∧ e = .returned (.agg #[.int .i64 kk, .slice ai ni ci, .slice ap np cp, .slice (some ⟨g, 0, none⟩) 0 0, .slice ac nc cc, .slice al nl cl, .int .i64 code, .int .i64 env]))) := by
  have h := specClean kk code env (List.replicate ni noI) (List.replicate np noV) names (List.replicate nc ⟨#[]⟩) (List.replicate nl ⟨#[]⟩) ai ap an ac al ci cp cn cc cl lo hi w hN hhi ln
  simp only [List.length_replicate] at h
  exact h
theorem far_two {lo : Nat} {v : Value} {g b : Nat} {t t2 : TypeId} {C C2 : Array Value} {q : Nat × TypeId × Array Value} (h : ∀ k, v.ownBlock = some k → lo ≤ k) (hg : g < lo) (hb : b < lo) (hq : q ∈ [(g, t, C), (b, t2, C2)]) : ∀ k, v.ownBlock = some k → q.1 ≠ k := by
  intro k hk e
  have := h k hk
  simp only [List.mem_cons, List.not_mem_nil, or_false] at hq
  rcases hq with rfl | rfl <;> (simp only at e; omega)
set_option maxHeartbeats 8000000 in
theorem specPickA (d : Nat) (kk : Int) (items : List It) (parts : List Vec) (names cls levels : List ByteArray) (code env : Int) (ai ap an ac al xi : Option Addr) (ci cp cn cc cl xc lo hi B : Nat) (idx : List Nat) (w : World) (hI : ItemsAt lo hi w ai items) (hN : TextsAt lo hi w an names) (hC : TextsAt lo hi w ac cls) (hL : TextsAt lo hi w al levels) (hhi : hi ≤ w.heap.size)
    (li : items.length ≤ 1048576) (lp : parts.length = 0) (ln : names.length ≤ 1048576) (lc : cls.length ≤ 1048576) (ll : levels.length ≤ 1048576) (hs : IntsAt B w xi idx.length (fun i => ixF idx i + 1)) (hB : B ≤ w.heap.size) (hn : idx.length ≤ 1048576)
    (hk4 : ¬ kk = 4) (hk5 : ¬ kk = 5) (hin : ∀ i, i < idx.length → idx.getD i 0 < items.length) (hnm : names.length ≠ 0 → names.length = items.length) :
    Calls Try.prog 43 #[.agg #[.int .i64 kk, .slice ai items.length ci, .slice ap parts.length cp, .slice an names.length cn, .slice ac cls.length cc, .slice al levels.length cl, .int .i64 code, .int .i64 env], .slice xi idx.length xc] w (ResV (d + 1) (selV kk items parts names cls levels idx) w) := by
  have AI := Lib.hid (fun (k : Nat) (w1 : World) (hk : k < items.length) (hb : Below w.heap.size w w1) => (hI.below hb hhi).at_ hk)
  have AN := Lib.hid (fun (k : Nat) (w1 : World) (hk : k < names.length) (hb : Below w.heap.size w w1) => (show ∃ b off, an = some ⟨b, off, none⟩ ∧ b < hi ∧ w1.cell? ⟨b, off + k, none⟩ = some (.string (names.getD k ⟨#[]⟩)) from (by obtain ⟨b, off, e, _, h1, h2⟩ := (hN.below hb hhi) k (names.getD k ⟨#[]⟩) (by simp [List.getD_eq_getElem?_getD, hk]); exact ⟨b, off, e, h1, h2⟩)))
  have SA := Lib.hid hs
  have IN := Lib.hid hin
  have HC := Lib.hid (fun (w1 : World) (hb : Below w.heap.size w w1) => hC.below hb hhi)
  have HL := Lib.hid (fun (w1 : World) (hb : Below w.heap.size w w1) => hL.below hb hhi)
  have LE := Lib.hid (fun W => (by have h := specLen kk ai ap an ac al items.length ci parts.length cp names.length cn cls.length cc levels.length cl code env W li (by omega); rw [show lenV kk items.length parts.length = items.length by unfold lenV; rw [if_neg hk5]; omega] at h; exact h : Calls Try.prog 41 #[.agg #[.int .i64 kk, .slice ai items.length ci, .slice ap parts.length cp, .slice an names.length cn, .slice ac cls.length cc, .slice al levels.length cl, .int .i64 code, .int .i64 env]] W (fun e w' => e = .returned (.int .i64 (items.length : Nat)) ∧ Below W.heap.size W w')))
  have PI := Lib.hid (fun k (h : items.length ≠ 0) (hk : k < idx.length) => pkT_succ (z := noI) (l := items) h hk)
  have PN := Lib.hid (fun k (h : names.length ≠ 0) (hk : k < idx.length) => pkT_succ (z := ⟨#[]⟩) (l := names) h hk)
  have P0 := Lib.hid (fun (h : names.length = 0) k => (pkT_nil (z := ⟨#[]⟩) h (idx.take k) : pkL ⟨#[]⟩ names (idx.take k) = []))
  have EV := Lib.hid (show selV kk items parts names cls levels idx = .mk kk (pkL noI items (idx.take idx.length)) [] (clnN (pkL ⟨#[]⟩ names (idx.take idx.length))) (kpC levels cls) levels 0 0 by rw [pkT_full, pkT_full]; unfold selV; rw [pkT_nil (z := noV) lp])
  have LI := Lib.hid (pkT_len noI items idx)
  have LM := Lib.hid (pkT_len ⟨#[]⟩ names idx)
  have hk4b : (kk == 4) = false := beq_eq_false_iff_ne.2 hk4
  have EK := Lib.hid (fun (h : levels.length ≠ 0) => kpC_some (cls := cls) h)
  have EK0 := Lib.hid (fun (h : levels.length = 0) => (by rw [List.eq_nil_of_length_eq_zero h]; exact ⟨rfl, rfl⟩ : levels = [] ∧ kpC levels cls = []))
  have UST := Lib.hid (fun W => Und.start (w.heap.size + 1 + 1 + 1) W d)
  obtain ⟨V, hV⟩ : ∃ V, selV kk items parts names cls levels idx = V := ⟨_, rfl⟩
  rw [hV] at EV ⊢
  obtain ⟨m, hm⟩ : ∃ m, idx.length = m := ⟨_, rfl⟩
  rw [hm] at SA IN PI PN EV hn ⊢
  obtain ⟨n, hn'⟩ : ∃ n, items.length = n := ⟨_, rfl⟩
  rw [hn'] at AI IN LE PI li hnm ⊢
  obtain ⟨nn, hnn⟩ : ∃ n, names.length = n := ⟨_, rfl⟩
  rw [hnn] at AN LE PN P0 ln hnm ⊢
  have LP := Lib.hid lp
  clear hV hm hn' hnn hI hN hC hL hs hin hk4 hk5 lp
  go_enter Try.func43, Try.ntmps43
  go_upto_region 2 with (fail)
  obtain ⟨w1, hw1⟩ : ∃ W, ((w.alloc (.cells #[.int .i64 kk, .slice ai n ci, .slice ap parts.length cp, .slice an nn cn, .slice ac cls.length cc, .slice al levels.length cl, .int .i64 code, .int .i64 env] 31)).alloc (.cells #[.int .i64 0, .slice none 0 0, .slice none 0 0, .slice none 0 0, .slice none 0 0, .slice none 0 0, .int .i64 0, .int .i64 0] 31)).alloc (.cells #[.int .i64 kk, .slice none 0 0, .slice none 0 0, .slice none 0 0, .slice none 0 0, .slice none 0 0, .int .i64 0, .int .i64 0] 31) = W := ⟨_, rfl⟩
  have hsz : (w.alloc (.cells #[.int .i64 kk, .slice ai n ci, .slice ap parts.length cp, .slice an nn cn, .slice ac cls.length cc, .slice al levels.length cl, .int .i64 code, .int .i64 env] 31)).heap.size = w.heap.size + 1 := by simp
  have hsz2 : ((w.alloc (.cells #[.int .i64 kk, .slice ai n ci, .slice ap parts.length cp, .slice an nn cn, .slice ac cls.length cc, .slice al levels.length cl, .int .i64 code, .int .i64 env] 31)).alloc (.cells #[.int .i64 0, .slice none 0 0, .slice none 0 0, .slice none 0 0, .slice none 0 0, .slice none 0 0, .int .i64 0, .int .i64 0] 31)).heap.size = w.heap.size + 1 + 1 := by simp
  have hsz3 : w1.heap.size = w.heap.size + 1 + 1 + 1 := by rw [← hw1]; simp
  have BW := Lib.hid (show Below w.heap.size w w1 from hw1 ▸ ((below1 w _).alloc (by simp) _).alloc (by simp; omega) _)
  have KA := Lib.hid (show w1.heap[w.heap.size]? = some (.cells #[.int .i64 kk, .slice ai n ci, .slice ap parts.length cp, .slice an nn cn, .slice ac cls.length cc, .slice al levels.length cl, .int .i64 code, .int .i64 env] 31 (0, 0)) from hw1 ▸ blk_old (blk_old (blk_new w _ rfl)))
  have KR := Lib.hid (show w1.heap[w.heap.size + 1]? = some (.cells #[.int .i64 0, .slice none 0 0, .slice none 0 0, .slice none 0 0, .slice none 0 0, .slice none 0 0, .int .i64 0, .int .i64 0] 31 (0, 0)) from hw1 ▸ blk_old (hsz ▸ blk_new (w.alloc (.cells #[.int .i64 kk, .slice ai n ci, .slice ap parts.length cp, .slice an nn cn, .slice ac cls.length cc, .slice al levels.length cl, .int .i64 code, .int .i64 env] 31)) (.cells #[.int .i64 0, .slice none 0 0, .slice none 0 0, .slice none 0 0, .slice none 0 0, .slice none 0 0, .int .i64 0, .int .i64 0] 31) rfl))
  have KB := Lib.hid (show w1.heap[w.heap.size + 1 + 1]? = some (.cells #[.int .i64 kk, .slice none 0 0, .slice none 0 0, .slice none 0 0, .slice none 0 0, .slice none 0 0, .int .i64 0, .int .i64 0] 31 (0, 0)) from hw1 ▸ hsz2 ▸ blk_new ((w.alloc (.cells #[.int .i64 kk, .slice ai n ci, .slice ap parts.length cp, .slice an nn cn, .slice ac cls.length cc, .slice al levels.length cl, .int .i64 code, .int .i64 env] 31)).alloc (.cells #[.int .i64 0, .slice none 0 0, .slice none 0 0, .slice none 0 0, .slice none 0 0, .slice none 0 0, .int .i64 0, .int .i64 0] 31)) (.cells #[.int .i64 kk, .slice none 0 0, .slice none 0 0, .slice none 0 0, .slice none 0 0, .slice none 0 0, .int .i64 0, .int .i64 0] 31) rfl)
  rw [hw1]
  clear hw1 hsz hsz2
  have hrb : w.heap.size + 1 < w.heap.size + 1 + 1 := Nat.lt_succ_self _
  have hbw : w.heap.size < w.heap.size + 1 + 1 := by omega
  obtain ⟨b, hb⟩ : ∃ b, w.heap.size + 1 + 1 = b := ⟨_, rfl⟩
  rw [hb] at KB UST hsz3 hrb hbw ⊢
  clear hb
  have SL : b + 1 ≤ w1.heap.size := Nat.le_of_eq hsz3.symm
  clear hsz3
  by_cases hl : levels.length = 0
  · have hl0 : ((levels.length : Nat) : Int) ≤ 0 := by omega
    have U := Lib.hid (show Und (b + 1) w1 d [] [] [] (kpC levels cls) levels _ _ _ _ _ [] from by obtain ⟨e1, e2⟩ := EK0.out hl; rw [e2, e1]; exact UST.out w1)
    clear hl
    obtain ⟨a0, a1, a2, a3, a4, a5, a6, a7⟩ := vec8 KA.out
    go_wp2
    clear a0 a1 a2 a3 a4 a5 a6 a7 hl0
    obtain ⟨dv, hdv⟩ : ∃ dv, decide (0 < levels.length) = dv := ⟨_, rfl⟩
    try rw [hdv]
    clear hdv
    have W0 := Lib.hid (show w.heap.size ≤ b + 1 by omega)
    have B0' := Lib.hid (show w.heap.size ≤ b by omega)
    go_loopw [6] (fun i wr => ∃ (k : Nat) (vi vn : Value), k ≤ m ∧ i = .int .i64 k ∧ Below w.heap.size w wr ∧ wr.heap[w.heap.size]? = some (.cells #[.int .i64 kk, .slice ai n ci, .slice ap parts.length cp, .slice an nn cn, .slice ac cls.length cc, .slice al levels.length cl, .int .i64 code, .int .i64 env] 31 (0, 0)) ∧ wr.heap[w.heap.size + 1]? = some (.cells #[.int .i64 0, .slice none 0 0, .slice none 0 0, .slice none 0 0, .slice none 0 0, .slice none 0 0, .int .i64 0, .int .i64 0] 31 (0, 0)) ∧ wr.heap[b]? = some (.cells #[.int .i64 kk, vi, .slice none 0 0, vn, .slice none 0 0, .slice none 0 0, .int .i64 0, .int .i64 0] 31 (0, 0)) ∧ Und (b + 1) wr d (pkL noI items (idx.take k)) [] (pkL ⟨#[]⟩ names (idx.take k)) (kpC levels cls) levels vi (.slice none 0 0) vn (.slice none 0 0) (.slice none 0 0) []) (fun i _ => m - (intOf i).toNat)
    case atStart => exact ⟨0, .slice none 0 0, .slice none 0 0, Nat.zero_le _, rfl, BW.out, KA.out, KR.out, KB.out, by rw [pkT_zero, pkT_zero]; exact U.out⟩
    case round =>
      obtain ⟨k, vi, vn, hk, rfl, hbw', hka, hkr, hkb, hu⟩ := hrel
      have BW := Lib.hid hbw'
      have KA := Lib.hid hka
      have KR := Lib.hid hkr
      have KB := Lib.hid hkb
      have U := Lib.hid hu
      clear hbw' hka hkr hkb hu
      by_cases hlt : k < m
      · obtain ⟨bi, oi, rfl, hbi, cx⟩ := (SA.out.below (BW.out.mono hB)) k hlt
        have hq := IN.out k hlt
        have NXI := Lib.hid (PI.out k (by omega) hlt)
        replace cx := (show wr.cell? ⟨bi, oi + k, none⟩ = some (.int .i64 (((idx.getD k 0 : Nat) : Int) + 1)) from cx)
        have PNk := Lib.hid (fun h => PN.out k h hlt)
        obtain ⟨q, hq'⟩ : ∃ q, idx.getD k 0 = q := ⟨_, rfl⟩
        rw [hq'] at cx hq NXI PNk
        clear hq'
        have IY := Lib.hid (fun W => inYes (q : Int) 0 ((n : Int) - 1) W (by omega) (by omega))
        obtain ⟨ba, off, rfl, hbB, c0, c1, c2'⟩ := AI.out q w hq (Below.refl _ _)
        have c2 : w.cell? ⟨ba, off + q * 3 + 2, none⟩ = some (.string (items.getD q noI).t) := c2'
        have hbaw : ba < w.heap.size := Nat.lt_of_lt_of_le hbB hhi
        obtain ⟨x, hx⟩ : ∃ x, items.getD q noI = x := ⟨_, rfl⟩
        rw [hx] at c0 c1 c2 NXI
        clear hx c2'
        obtain ⟨a0, a1, a2, a3, a4, a5, a6, a7⟩ := vec8 KA.out
        go_wp2_with fail
        with_reducible refine (LE.out _).mono ?_
        rintro e wl ⟨rfl, b'⟩
        have BW := Lib.hid (below_then BW.out b')
        have KA := Lib.hid (blk_below b' KA.out)
        have KR := Lib.hid (blk_below b' KR.out)
        have KB := Lib.hid (blk_below b' KB.out)
        have U := Lib.hid (U.out.below b')
        clear b' a0 a1 a2 a3 a4 a5 a6 a7
        go_wp2_with fail
        with_reducible refine (IY.out _).mono ?_
        rintro e w' ⟨rfl, rfl⟩
        obtain ⟨a0, a1, a2, a3, a4, a5, a6, a7⟩ := vec8 KA.out
        have hbl := (Array.getElem?_eq_some_iff.1 KB.out).1
        have hKR := (Array.getElem?_eq_some_iff.1 KR.out).1
        have KRW := KR
        have UW := U
        by_cases h0 : nn = 0
        · have e0 := P0.out h0 (k + 1)
          have e1 := P0.out h0 k
          have hn0 : (nn : Int) ≤ 0 := by omega
          have H0 := Lib.hid h0
          clear h0
          have LN := Lib.hid (show (pkL noI items (idx.take k)).length ≤ 1048576 by have := LI.out k; omega)
          have FAR := Lib.hid (fun g hg => (U.out.i.lt g hg).1)
          have H := Lib.hid (show HeldC w wl ([(w.heap.size, 31, #[.int .i64 kk, .slice (some ⟨ba, off, none⟩) n ci, .slice ap parts.length cp, .slice an nn cn, .slice ac cls.length cc, .slice al levels.length cl, .int .i64 code, .int .i64 env]), (b, 31, #[.int .i64 kk, vi, .slice none 0 0, vn, .slice none 0 0, .slice none 0 0, .int .i64 0, .int .i64 0])]) from heldC_cons (heldC_cons ⟨BW.out, (fun _ h => by cases h)⟩ KB.out) KA.out)
          go_upto_region 15 with (fail)
          clear a0 a1 a2 a3 a4 a5 a6 a7
          refine run_region (ops := (opsOf Try.f43 15)) (S := fun w' => HeldC w w' ([(w.heap.size, 31, #[.int .i64 kk, .slice (some ⟨ba, off, none⟩) n ci, .slice ap parts.length cp, .slice an nn cn, .slice ac cls.length cc, .slice al levels.length cl, .int .i64 code, .int .i64 env]), (b, 31, #[.int .i64 kk, vi, (.slice none 0 0), vn, .slice none 0 0, .slice none 0 0, .int .i64 0, .int .i64 0])])) [(0, true), (1, true), (2, true), (3, true), (4, true), (5, true), (6, true), (7, false), (8, false), (9, true), (10, false)] (by kernel_rfl) (by kernel_rfl) (by kernel_rfl) (by kernel_rfl) (by kernel_rfl) (fun _ _ _ _ _ h => h) (heldC_drew H.out) ?_
          have H := Lib.hid (heldC_drew H.out)
          have U := Lib.hid (U.out.keep (below_drew' (Below.refl _ _)))
          refine runC_partV (b := b) (by kernel_rfl) (show opAt (opsOf Try.f43 15) 0 = some (some 69, .fieldAddr 31 (.tmp 5) 1, none) from by kernel_rfl) (by kernel_rfl) (by kernel_rfl) (by kernel_rfl) ?_
          refine runC_cell (b := b) (j := 1) (v := vi) load_its (show opAt (opsOf Try.f43 15) 1 = some (some 70, .load 28 (.tmp 69), none) from by kernel_rfl) (by kernel_rfl) (by kernel_rfl) (by kernel_rfl) (List.Mem.tail _ (List.Mem.head _)) rfl ?_
          refine runC_partV (b := w.heap.size) (by kernel_rfl) (show opAt (opsOf Try.f43 15) 2 = some (some 71, .fieldAddr 31 (.tmp 2) 1, none) from by kernel_rfl) (by kernel_rfl) (by kernel_rfl) (by kernel_rfl) ?_
          refine runC_cell (b := w.heap.size) (j := 1) (v := .slice (some ⟨ba, off, none⟩) n ci) load_its (show opAt (opsOf Try.f43 15) 3 = some (some 72, .load 28 (.tmp 71), none) from by kernel_rfl) (by kernel_rfl) (by kernel_rfl) (by kernel_rfl) (List.Mem.head _) rfl ?_
          refine run_mov (v := .int .i64 ((q : Int))) (show opAt (opsOf Try.f43 15) 4 = some (some 73, .move (.tmp 7), none) from by kernel_rfl) (by kernel_rfl) (by kernel_rfl) (by kernel_rfl) ?_
          refine run_idx3 (n := n) (c := ci) (b := ba) (off := off) (k := q) (show opAt (opsOf Try.f43 15) 5 = some (some 74, .indexAddr 28 (.tmp 72) (.tmp 73), none) from by kernel_rfl) (by kernel_rfl) (by kernel_rfl) (by kernel_rfl) (by kernel_rfl) hq ?_
          refine runC_oldI (b := ba) (j := off + q * 3) (z := x) (show opAt (opsOf Try.f43 15) 6 = some (some 75, .load 67 (.tmp 74), none) from by kernel_rfl) (by kernel_rfl) (by kernel_rfl) (by kernel_rfl) hbaw c0 c1 c2 ?_
          refine tail_its3 x (show opAt (opsOf Try.f43 15) 7 = some (some 76, .buildSlice 28 1 #[(0, (.tmp 75))], none) from by kernel_rfl) (by kernel_rfl) (by kernel_rfl) (show opAt (opsOf Try.f43 15) 8 = some (some 77, .call { callee := .builtin .append, args := [(.tmp 70), (.tmp 76)].toArray, argTypes := [28, 28].toArray }, none) from by kernel_rfl) (by kernel_rfl) (fun _ => by kernel_rfl) (show opAt (opsOf Try.f43 15) 9 = some (some 78, .fieldAddr 31 (.tmp 5) 1, none) from by kernel_rfl) (by kernel_rfl) (by kernel_rfl) (fun _ _ => by kernel_rfl) (show opAt (opsOf Try.f43 15) 10 = some (none, .store 28 (.tmp 78) (.tmp 77), none) from by kernel_rfl) (by kernel_rfl) (by kernel_rfl) H.out U.out.i LN.out (Nat.succ_le_of_lt (Array.getElem?_eq_some_iff.1 (heldC_at H.out (List.Mem.tail _ (List.Mem.head _)))).1) W0.out (List.Mem.tail _ (List.Mem.head _)) rfl (Nat.lt_succ_self _) B0'.out (fun q hq => far_two FAR.out (Nat.lt_succ_of_lt hbw) (Nat.lt_succ_self _) hq) ?_
          rintro v' w2 ⟨sa, sn, sc2, rfl⟩ hK hO hB hZ hR hG
          simp only [putAll, Act.put, List.setIfInBounds_toArray, List.set_cons_zero, List.set_cons_succ]
          have KA1 := heldC_at H.out (List.Mem.head _)
          have KR1 := heldC_at H.out (List.Mem.head _)
          have hwa := (Array.getElem?_eq_some_iff.1 KA1).1
          have U := Lib.hid (U.out.setI hO hR (fun g hlo hg hne => hG g hg (by omega) hne) hZ)
          have KA := Lib.hid (show w2.heap[w.heap.size]? = some (.cells #[.int .i64 kk, .slice (some ⟨ba, off, none⟩) n ci, .slice ap parts.length cp, .slice an nn cn, .slice ac cls.length cc, .slice al levels.length cl, .int .i64 code, .int .i64 env] 31 (0, 0)) from (hG _ hwa (by omega) (fun e => by have := FAR.out _ e; omega)).trans KA1)
          have KB := Lib.hid (show w2.heap[b]? = some (.cells #[.int .i64 kk, .slice sa sn sc2, .slice none 0 0, vn, .slice none 0 0, .slice none 0 0, .int .i64 0, .int .i64 0] 31 (0, 0)) from hK)
          have BW := Lib.hid hB
          have KR := Lib.hid (show w2.heap[w.heap.size + 1]? = some (.cells #[.int .i64 0, .slice none 0 0, .slice none 0 0, .slice none 0 0, .slice none 0 0, .slice none 0 0, .int .i64 0, .int .i64 0] 31 (0, 0)) from (hG _ hKR (by omega) (fun e => by have := FAR.out _ e; omega)).trans KRW.out)
          clear hK hO hB hR hG hZ H FAR LN KA1 KR1 hwa
          obtain ⟨a0, a1, a2, a3, a4, a5, a6, a7⟩ := vec8 KA.out
          go_wp2
          go_roundw
          case rel => first | exact ⟨k + 1, _, vn, by omega, by go_num, BW.out, KA.out, KR.out, KB.out, by rw [NXI.out, e0]; rw [e1] at U; exact U.out⟩ | ((repeat apply Exists.intro); exact ⟨⟨k + 1, _, vn, by omega, by go_num, BW.out, KA.out, KR.out, KB.out, by rw [NXI.out, e0]; rw [e1] at U; exact U.out⟩, rfl⟩)
          case measure => simp [intOf]; omega
        · have hqn : q < nn := by have := hnm h0; omega
          have hn0 : 0 < (nn : Int) := by omega
          have NXN := Lib.hid (PNk.out h0)
          obtain ⟨bn, offn, rfl, hbN, cn0⟩ := AN.out q w hqn (Below.refl _ _)
          have hbnw : bn < w.heap.size := Nat.lt_of_lt_of_le hbN hhi
          obtain ⟨s, hs⟩ : ∃ s, names.getD q ⟨#[]⟩ = s := ⟨_, rfl⟩
          rw [hs] at cn0 NXN
          clear hs
          have LN := Lib.hid (show (pkL noI items (idx.take k)).length ≤ 1048576 by have := LI.out k; omega)
          have FAR := Lib.hid (fun g hg => (U.out.i.lt g hg).1)
          have H := Lib.hid (show HeldC w wl ([(w.heap.size, 31, #[.int .i64 kk, .slice (some ⟨ba, off, none⟩) n ci, .slice ap parts.length cp, .slice (some ⟨bn, offn, none⟩) nn cn, .slice ac cls.length cc, .slice al levels.length cl, .int .i64 code, .int .i64 env]), (b, 31, #[.int .i64 kk, vi, .slice none 0 0, vn, .slice none 0 0, .slice none 0 0, .int .i64 0, .int .i64 0])]) from heldC_cons (heldC_cons ⟨BW.out, (fun _ h => by cases h)⟩ KB.out) KA.out)
          go_upto_region 15 with (fail)
          clear a0 a1 a2 a3 a4 a5 a6 a7
          refine run_region (ops := (opsOf Try.f43 15)) (S := fun w' => HeldC w w' ([(w.heap.size, 31, #[.int .i64 kk, .slice (some ⟨ba, off, none⟩) n ci, .slice ap parts.length cp, .slice (some ⟨bn, offn, none⟩) nn cn, .slice ac cls.length cc, .slice al levels.length cl, .int .i64 code, .int .i64 env]), (b, 31, #[.int .i64 kk, vi, (.slice none 0 0), vn, .slice none 0 0, .slice none 0 0, .int .i64 0, .int .i64 0])])) [(0, true), (1, true), (2, true), (3, true), (4, true), (5, true), (6, true), (7, false), (8, false), (9, true), (10, false)] (by kernel_rfl) (by kernel_rfl) (by kernel_rfl) (by kernel_rfl) (by kernel_rfl) (fun _ _ _ _ _ h => h) (heldC_drew H.out) ?_
          have H := Lib.hid (heldC_drew H.out)
          have U := Lib.hid (U.out.keep (below_drew' (Below.refl _ _)))
          refine runC_partV (b := b) (by kernel_rfl) (show opAt (opsOf Try.f43 15) 0 = some (some 69, .fieldAddr 31 (.tmp 5) 1, none) from by kernel_rfl) (by kernel_rfl) (by kernel_rfl) (by kernel_rfl) ?_
          refine runC_cell (b := b) (j := 1) (v := vi) load_its (show opAt (opsOf Try.f43 15) 1 = some (some 70, .load 28 (.tmp 69), none) from by kernel_rfl) (by kernel_rfl) (by kernel_rfl) (by kernel_rfl) (List.Mem.tail _ (List.Mem.head _)) rfl ?_
          refine runC_partV (b := w.heap.size) (by kernel_rfl) (show opAt (opsOf Try.f43 15) 2 = some (some 71, .fieldAddr 31 (.tmp 2) 1, none) from by kernel_rfl) (by kernel_rfl) (by kernel_rfl) (by kernel_rfl) ?_
          refine runC_cell (b := w.heap.size) (j := 1) (v := .slice (some ⟨ba, off, none⟩) n ci) load_its (show opAt (opsOf Try.f43 15) 3 = some (some 72, .load 28 (.tmp 71), none) from by kernel_rfl) (by kernel_rfl) (by kernel_rfl) (by kernel_rfl) (List.Mem.head _) rfl ?_
          refine run_mov (v := .int .i64 ((q : Int))) (show opAt (opsOf Try.f43 15) 4 = some (some 73, .move (.tmp 7), none) from by kernel_rfl) (by kernel_rfl) (by kernel_rfl) (by kernel_rfl) ?_
          refine run_idx3 (n := n) (c := ci) (b := ba) (off := off) (k := q) (show opAt (opsOf Try.f43 15) 5 = some (some 74, .indexAddr 28 (.tmp 72) (.tmp 73), none) from by kernel_rfl) (by kernel_rfl) (by kernel_rfl) (by kernel_rfl) (by kernel_rfl) hq ?_
          refine runC_oldI (b := ba) (j := off + q * 3) (z := x) (show opAt (opsOf Try.f43 15) 6 = some (some 75, .load 67 (.tmp 74), none) from by kernel_rfl) (by kernel_rfl) (by kernel_rfl) (by kernel_rfl) hbaw c0 c1 c2 ?_
          refine tail_its3 x (show opAt (opsOf Try.f43 15) 7 = some (some 76, .buildSlice 28 1 #[(0, (.tmp 75))], none) from by kernel_rfl) (by kernel_rfl) (by kernel_rfl) (show opAt (opsOf Try.f43 15) 8 = some (some 77, .call { callee := .builtin .append, args := [(.tmp 70), (.tmp 76)].toArray, argTypes := [28, 28].toArray }, none) from by kernel_rfl) (by kernel_rfl) (fun _ => by kernel_rfl) (show opAt (opsOf Try.f43 15) 9 = some (some 78, .fieldAddr 31 (.tmp 5) 1, none) from by kernel_rfl) (by kernel_rfl) (by kernel_rfl) (fun _ _ => by kernel_rfl) (show opAt (opsOf Try.f43 15) 10 = some (none, .store 28 (.tmp 78) (.tmp 77), none) from by kernel_rfl) (by kernel_rfl) (by kernel_rfl) H.out U.out.i LN.out (Nat.succ_le_of_lt (Array.getElem?_eq_some_iff.1 (heldC_at H.out (List.Mem.tail _ (List.Mem.head _)))).1) W0.out (List.Mem.tail _ (List.Mem.head _)) rfl (Nat.lt_succ_self _) B0'.out (fun q hq => far_two FAR.out (Nat.lt_succ_of_lt hbw) (Nat.lt_succ_self _) hq) ?_
          rintro v' w2 ⟨sa, sn, sc2, rfl⟩ hK hO hB hZ hR hG
          simp only [putAll, Act.put, List.setIfInBounds_toArray, List.set_cons_zero, List.set_cons_succ]
          have KA1 := heldC_at H.out (List.Mem.head _)
          have KR1 := heldC_at H.out (List.Mem.head _)
          have hwa := (Array.getElem?_eq_some_iff.1 KA1).1
          have U := Lib.hid (U.out.setI hO hR (fun g hlo hg hne => hG g hg (by omega) hne) hZ)
          have KA := Lib.hid (show w2.heap[w.heap.size]? = some (.cells #[.int .i64 kk, .slice (some ⟨ba, off, none⟩) n ci, .slice ap parts.length cp, .slice (some ⟨bn, offn, none⟩) nn cn, .slice ac cls.length cc, .slice al levels.length cl, .int .i64 code, .int .i64 env] 31 (0, 0)) from (hG _ hwa (by omega) (fun e => by have := FAR.out _ e; omega)).trans KA1)
          have KB := Lib.hid (show w2.heap[b]? = some (.cells #[.int .i64 kk, .slice sa sn sc2, .slice none 0 0, vn, .slice none 0 0, .slice none 0 0, .int .i64 0, .int .i64 0] 31 (0, 0)) from hK)
          have BW := Lib.hid hB
          have KR := Lib.hid (show w2.heap[w.heap.size + 1]? = some (.cells #[.int .i64 0, .slice none 0 0, .slice none 0 0, .slice none 0 0, .slice none 0 0, .slice none 0 0, .int .i64 0, .int .i64 0] 31 (0, 0)) from (hG _ hKR (by omega) (fun e => by have := FAR.out _ e; omega)).trans KRW.out)
          clear hK hO hB hR hG hZ H FAR LN KA1 KR1 hwa
          obtain ⟨a0, a1, a2, a3, a4, a5, a6, a7⟩ := vec8 KA.out
          have hKR := (Array.getElem?_eq_some_iff.1 KR.out).1
          have KRW := KR
          have LN := Lib.hid (show (pkL ⟨#[]⟩ names (idx.take k)).length ≤ 1048576 by have := LM.out k; omega)
          have FAR := Lib.hid (fun g hg => (U.out.n.lt g hg).1)
          have H := Lib.hid (show HeldC w w2 ([(w.heap.size, 31, #[.int .i64 kk, .slice (some ⟨ba, off, none⟩) n ci, .slice ap parts.length cp, .slice (some ⟨bn, offn, none⟩) nn cn, .slice ac cls.length cc, .slice al levels.length cl, .int .i64 code, .int .i64 env]), (b, 31, #[.int .i64 kk, .slice sa sn sc2, .slice none 0 0, vn, .slice none 0 0, .slice none 0 0, .int .i64 0, .int .i64 0])]) from heldC_cons (heldC_cons ⟨BW.out, (fun _ h => by cases h)⟩ KB.out) KA.out)
          go_upto_region 18 with (fail)
          clear a0 a1 a2 a3 a4 a5 a6 a7
          refine run_region (ops := (opsOf Try.f43 18)) (S := fun w' => HeldC w w' ([(w.heap.size, 31, #[.int .i64 kk, .slice (some ⟨ba, off, none⟩) n ci, .slice ap parts.length cp, .slice (some ⟨bn, offn, none⟩) nn cn, .slice ac cls.length cc, .slice al levels.length cl, .int .i64 code, .int .i64 env]), (b, 31, #[.int .i64 kk, (.slice sa sn sc2), (.slice none 0 0), vn, .slice none 0 0, .slice none 0 0, .int .i64 0, .int .i64 0])])) [(0, true), (1, true), (2, true), (3, true), (4, true), (5, true), (6, true), (7, false), (8, false), (9, true), (10, false)] (by kernel_rfl) (by kernel_rfl) (by kernel_rfl) (by kernel_rfl) (by kernel_rfl) (fun _ _ _ _ _ h => h) (heldC_drew H.out) ?_
          have H := Lib.hid (heldC_drew H.out)
          have U := Lib.hid (U.out.keep (below_drew' (Below.refl _ _)))
          refine runC_partV (b := b) (by kernel_rfl) (show opAt (opsOf Try.f43 18) 0 = some (some 92, .fieldAddr 31 (.tmp 5) 3, none) from by kernel_rfl) (by kernel_rfl) (by kernel_rfl) (by kernel_rfl) ?_
          refine runC_cell (b := b) (j := 3) (v := vn) load_strs (show opAt (opsOf Try.f43 18) 1 = some (some 93, .load 24 (.tmp 92), none) from by kernel_rfl) (by kernel_rfl) (by kernel_rfl) (by kernel_rfl) (List.Mem.tail _ (List.Mem.head _)) rfl ?_
          refine runC_partV (b := w.heap.size) (by kernel_rfl) (show opAt (opsOf Try.f43 18) 2 = some (some 94, .fieldAddr 31 (.tmp 2) 3, none) from by kernel_rfl) (by kernel_rfl) (by kernel_rfl) (by kernel_rfl) ?_
          refine runC_cell (b := w.heap.size) (j := 3) (v := .slice (some ⟨bn, offn, none⟩) nn cn) load_strs (show opAt (opsOf Try.f43 18) 3 = some (some 95, .load 24 (.tmp 94), none) from by kernel_rfl) (by kernel_rfl) (by kernel_rfl) (by kernel_rfl) (List.Mem.head _) rfl ?_
          refine run_mov (v := .int .i64 ((q : Int))) (show opAt (opsOf Try.f43 18) 4 = some (some 96, .move (.tmp 7), none) from by kernel_rfl) (by kernel_rfl) (by kernel_rfl) (by kernel_rfl) ?_
          refine run_idx1 (n := nn) (c := cn) (b := bn) (off := offn) (k := q) (show opAt (opsOf Try.f43 18) 5 = some (some 97, .indexAddr 24 (.tmp 95) (.tmp 96), none) from by kernel_rfl) (by kernel_rfl) (by kernel_rfl) (by kernel_rfl) (by kernel_rfl) hqn Try.underlying24 (by kernel_rfl) infoStr ?_
          refine runC_old (b := bn) (j := offn + q) (v := .string s) load_text (show opAt (opsOf Try.f43 18) 6 = some (some 98, .load 9 (.tmp 97), none) from by kernel_rfl) (by kernel_rfl) (by kernel_rfl) (by kernel_rfl) hbnw cn0 ?_
          refine tail_txs3 s (show opAt (opsOf Try.f43 18) 7 = some (some 99, .buildSlice 24 1 #[(0, (.tmp 98))], none) from by kernel_rfl) (by kernel_rfl) (by kernel_rfl) (show opAt (opsOf Try.f43 18) 8 = some (some 100, .call { callee := .builtin .append, args := [(.tmp 93), (.tmp 99)].toArray, argTypes := [24, 24].toArray }, none) from by kernel_rfl) (by kernel_rfl) (fun _ => by kernel_rfl) (show opAt (opsOf Try.f43 18) 9 = some (some 101, .fieldAddr 31 (.tmp 5) 3, none) from by kernel_rfl) (by kernel_rfl) (by kernel_rfl) (fun _ _ => by kernel_rfl) (show opAt (opsOf Try.f43 18) 10 = some (none, .store 24 (.tmp 101) (.tmp 100), none) from by kernel_rfl) (by kernel_rfl) (by kernel_rfl) H.out U.out.n LN.out (Nat.succ_le_of_lt (Array.getElem?_eq_some_iff.1 (heldC_at H.out (List.Mem.tail _ (List.Mem.head _)))).1) W0.out (List.Mem.tail _ (List.Mem.head _)) rfl (Nat.lt_succ_self _) B0'.out (fun q hq => far_two FAR.out (Nat.lt_succ_of_lt hbw) (Nat.lt_succ_self _) hq) ?_
          rintro v' w3 ⟨sa3, sn3, sc3, rfl⟩ hK hO hB hZ hR hG
          simp only [putAll, Act.put, List.setIfInBounds_toArray, List.set_cons_zero, List.set_cons_succ]
          have KA1 := heldC_at H.out (List.Mem.head _)
          have KR1 := heldC_at H.out (List.Mem.head _)
          have hwa := (Array.getElem?_eq_some_iff.1 KA1).1
          have U := Lib.hid (U.out.setN hO hR (fun g hlo hg hne => hG g hg (by omega) hne) hZ)
          have KA := Lib.hid (show w3.heap[w.heap.size]? = some (.cells #[.int .i64 kk, .slice (some ⟨ba, off, none⟩) n ci, .slice ap parts.length cp, .slice (some ⟨bn, offn, none⟩) nn cn, .slice ac cls.length cc, .slice al levels.length cl, .int .i64 code, .int .i64 env] 31 (0, 0)) from (hG _ hwa (by omega) (fun e => by have := FAR.out _ e; omega)).trans KA1)
          have KB := Lib.hid (show w3.heap[b]? = some (.cells #[.int .i64 kk, .slice sa sn sc2, .slice none 0 0, .slice sa3 sn3 sc3, .slice none 0 0, .slice none 0 0, .int .i64 0, .int .i64 0] 31 (0, 0)) from hK)
          have BW := Lib.hid hB
          have KR := Lib.hid (show w3.heap[w.heap.size + 1]? = some (.cells #[.int .i64 0, .slice none 0 0, .slice none 0 0, .slice none 0 0, .slice none 0 0, .slice none 0 0, .int .i64 0, .int .i64 0] 31 (0, 0)) from (hG _ hKR (by omega) (fun e => by have := FAR.out _ e; omega)).trans KRW.out)
          clear hK hO hB hR hG hZ H FAR LN KA1 KR1 hwa
          go_wp2
          go_roundw
          case rel => first | exact ⟨k + 1, _, _, by omega, by go_num, BW.out, KA.out, KR.out, KB.out, by rw [NXI.out, NXN.out]; exact U.out⟩ | ((repeat apply Exists.intro); exact ⟨⟨k + 1, _, _, by omega, by go_num, BW.out, KA.out, KR.out, KB.out, by rw [NXI.out, NXN.out]; exact U.out⟩, rfl⟩)
          case measure => simp [intOf]; omega
      · obtain rfl : k = m := by omega
        obtain ⟨si, qi, rfl⟩ := row_form U.out.i
        obtain ⟨sn, qn, Fn, rfl, hot, _, hrt, _⟩ := txs_of_row U.out.n
        have CLN := Lib.hid (fun (W : World) (hb : Below wr.heap.size wr W) => specCleanN kk 0 0 si none sn none none (pkL noI items (idx.take k)).length qi 0 0 qn 0 0 0 0 (pkL ⟨#[]⟩ names (idx.take k)) (b + 1) wr.heap.size W ((hot.at_ hrt).below hb (Nat.le_refl _)) hb.size (Nat.le_trans (LM.out k) hn))
        clear hot hrt
        obtain ⟨k0, k1, k2, k3, k4, k5, k6, k7⟩ := vec8 KB.out
        have hKR := (Array.getElem?_eq_some_iff.1 KR.out).1
        go_wp2_with fail
        refine (CLN.out _ (Below.refl _ _)).mono ?_
        rintro e w5 ⟨b', hor⟩
        have BW := Lib.hid (below_then BW.out b')
        have KR := Lib.hid (blk_below b' KR.out)
        have O := Lib.hid ((U.out.below b').own kk)
        have hL1 : w.heap.size + 1 < b + 1 := by omega
        clear b' k0 k1 k2 k3 k4 k5 k6 k7
        obtain ⟨z0, z1, z2, z3, z4, z5, z6, z7⟩ := vec8 KR.out
        obtain ⟨f0, f1, f2, f3, f4, f5, f6, f7⟩ := free8 KR.out
        rcases hor with ⟨hex, rfl⟩ | ⟨hem, g, hg, rfl⟩
        · have EN := Lib.hid (clnN_yes (l := pkL ⟨#[]⟩ names (idx.take k)) (by obtain ⟨i, h1, h2⟩ := hex; exact ⟨i, h1, fun h => h2 (empty_of_size h)⟩))
          rw [EN.out] at EV
          rw [← EV.out] at O
          clear EV EN hex
          go_wp2
          exact vec_end rfl rfl rfl KR.out ⟨_, rfl, (O.out.put8 hL1 _ _ _ _ _ _ _ _).wide (by omega) (by rw [put8_size]; exact Nat.le_refl _), put8_below BW.out (Nat.le_succ _)⟩
        · have EN := Lib.hid (clnN_no (l := pkL ⟨#[]⟩ names (idx.take k)) (fun ⟨i, h1, h2⟩ => h2 (show (txtS _ i).size = 0 by rw [hem i h1]; rfl)))
          rw [EN.out] at EV
          have O := Lib.hid (O.out.noNames (some ⟨g, 0, none⟩) 0)
          rw [← EV.out] at O
          clear EV EN hem hg
          go_wp2
          exact vec_end rfl rfl rfl KR.out ⟨_, rfl, (O.out.put8 hL1 _ _ _ _ _ _ _ _).wide (by omega) (by rw [put8_size]; exact Nat.le_refl _), put8_below BW.out (Nat.le_succ _)⟩
  · have hl0 : 0 < ((levels.length : Nat) : Int) := by omega
    have U := Lib.hid (UST.out w1)
    have EKL := Lib.hid (EK.out hl)
    clear hl
    obtain ⟨a0, a1, a2, a3, a4, a5, a6, a7⟩ := vec8 KA.out
    have hltA := (Array.getElem?_eq_some_iff.1 KA.out).1
    obtain ⟨w2, hw2⟩ : ∃ W, w1.alloc (.cells #[] 9) = W := ⟨_, rfl⟩
    have B12 := Lib.hid (show Below w1.heap.size w1 w2 from hw2 ▸ below1 w1 _)
    have KS := Lib.hid (show w2.heap[w1.heap.size]? = some (.cells #[] 9 (0, 0)) from hw2 ▸ blk_new w1 _ rfl)
    have BW2 := Lib.hid (below_then BW.out B12.out)
    have EW := Lib.hid hw2
    clear hw2
    go_wp2_with (at_builtin; go_loud (rw [EW.out]; refine wpList_copyTz (w0 := w1) rfl _ _ rfl _ rfl (.inr ⟨w1.heap.size, Nat.le_refl _, rfl, KS.out⟩) B12.out ac cc cls lo hi rfl (HC.out _ BW2.out) lc ?_))
    intro v' w3 tz
    obtain ⟨sc, nc, qc, rfl⟩ := tz.form
    have U := Lib.hid (U.out.setC (row_lo tz.row SL) (moved_new tz.row) (fun g _ hg _ => tz.below.block g hg) tz.below.size)
    have BW := Lib.hid (below_then BW.out tz.below)
    have KA := Lib.hid (blk_below tz.below KA.out)
    have KB := Lib.hid (blk_below tz.below KB.out)
    have KR := Lib.hid (blk_below tz.below KR.out)
    have SL := Nat.le_trans SL tz.below.size
    clear tz a0 a1 a2 a3 a4 a5 a6 a7 hltA
    obtain ⟨a0, a1, a2, a3, a4, a5, a6, a7⟩ := vec8 KA.out
    obtain ⟨k0, k1, k2, k3, k4, k5, k6, k7⟩ := vec8 KB.out
    obtain ⟨g0, g1, g2, g3, g4, g5, g6, g7⟩ := free8 KB.out
    have hbb := (Array.getElem?_eq_some_iff.1 KB.out).1
    go_upto_region 4 with (fail)
    clear a0 a1 a2 a3 a4 a5 a6 a7 k0 k1 k2 k3 k4 k5 k6 k7 g0 g1 g2 g3 g4 g5 g6 g7 hbb
    obtain ⟨w4, hw⟩ : ∃ W, w3.setCell ⟨b, 4, none⟩ (.slice sc nc qc) = W := ⟨_, rfl⟩
    have KB := Lib.hid (show w4.heap[b]? = some (.cells #[.int .i64 kk, .slice none 0 0, .slice none 0 0, .slice none 0 0, .slice sc nc qc, .slice none 0 0, .int .i64 0, .int .i64 0] 31 (0, 0)) from hw ▸ Joins.block_setCell KB.out _)
    have KA := Lib.hid (show w4.heap[w.heap.size]? = some (.cells #[.int .i64 kk, .slice ai n ci, .slice ap parts.length cp, .slice an nn cn, .slice ac cls.length cc, .slice al levels.length cl, .int .i64 code, .int .i64 env] 31 (0, 0)) from hw ▸ (Below.heap_setCell _ _ _ _ (show w.heap.size ≠ b by omega)).trans KA.out)
    have KR := Lib.hid (show w4.heap[w.heap.size + 1]? = some (.cells #[.int .i64 0, .slice none 0 0, .slice none 0 0, .slice none 0 0, .slice none 0 0, .slice none 0 0, .int .i64 0, .int .i64 0] 31 (0, 0)) from hw ▸ (Below.heap_setCell _ _ _ _ (show w.heap.size + 1 ≠ b by omega)).trans KR.out)
    have BW := Lib.hid (show Below w.heap.size w w4 from hw ▸ BW.out.setCell (p := ⟨b, 4, none⟩) (show w.heap.size ≤ b by omega) _)
    have U := Lib.hid (show Und (b + 1) w4 _ _ _ _ _ _ _ _ _ _ _ _ from hw ▸ U.out.put (Nat.lt_succ_self _))
    have SL := Nat.le_trans SL (show w3.heap.size ≤ w4.heap.size from hw ▸ (by simp))
    rw [hw]
    clear hw
    obtain ⟨a0, a1, a2, a3, a4, a5, a6, a7⟩ := vec8 KA.out
    have hltA := (Array.getElem?_eq_some_iff.1 KA.out).1
    obtain ⟨w5, hw2⟩ : ∃ W, w4.alloc (.cells #[] 9) = W := ⟨_, rfl⟩
    have B12 := Lib.hid (show Below w4.heap.size w4 w5 from hw2 ▸ below1 w4 _)
    have KS := Lib.hid (show w5.heap[w4.heap.size]? = some (.cells #[] 9 (0, 0)) from hw2 ▸ blk_new w4 _ rfl)
    have BW2 := Lib.hid (below_then BW.out B12.out)
    have EW := Lib.hid hw2
    clear hw2
    go_wp2_with (at_builtin; go_loud (rw [EW.out]; refine wpList_copyTz (w0 := w4) rfl _ _ rfl _ rfl (.inr ⟨w4.heap.size, Nat.le_refl _, rfl, KS.out⟩) B12.out al cl levels lo hi rfl (HL.out _ BW2.out) ll ?_))
    intro v' w6 tz
    obtain ⟨sl, nl, ql, rfl⟩ := tz.form
    have U := Lib.hid (U.out.setL (row_lo tz.row SL) (moved_new tz.row) (fun g _ hg _ => tz.below.block g hg) tz.below.size)
    have BW := Lib.hid (below_then BW.out tz.below)
    have KA := Lib.hid (blk_below tz.below KA.out)
    have KB := Lib.hid (blk_below tz.below KB.out)
    have KR := Lib.hid (blk_below tz.below KR.out)
    have SL := Nat.le_trans SL tz.below.size
    clear tz a0 a1 a2 a3 a4 a5 a6 a7 hltA
    obtain ⟨a0, a1, a2, a3, a4, a5, a6, a7⟩ := vec8 KA.out
    obtain ⟨k0, k1, k2, k3, k4, k5, k6, k7⟩ := vec8 KB.out
    obtain ⟨g0, g1, g2, g3, g4, g5, g6, g7⟩ := free8 KB.out
    have hbb := (Array.getElem?_eq_some_iff.1 KB.out).1
    go_upto_region 5 with (fail)
    clear a0 a1 a2 a3 a4 a5 a6 a7 k0 k1 k2 k3 k4 k5 k6 k7 g0 g1 g2 g3 g4 g5 g6 g7 hbb
    obtain ⟨w7, hw⟩ : ∃ W, w6.setCell ⟨b, 5, none⟩ (.slice sl nl ql) = W := ⟨_, rfl⟩
    have KB := Lib.hid (show w7.heap[b]? = some (.cells #[.int .i64 kk, .slice none 0 0, .slice none 0 0, .slice none 0 0, .slice sc nc qc, .slice sl nl ql, .int .i64 0, .int .i64 0] 31 (0, 0)) from hw ▸ Joins.block_setCell KB.out _)
    have KA := Lib.hid (show w7.heap[w.heap.size]? = some (.cells #[.int .i64 kk, .slice ai n ci, .slice ap parts.length cp, .slice an nn cn, .slice ac cls.length cc, .slice al levels.length cl, .int .i64 code, .int .i64 env] 31 (0, 0)) from hw ▸ (Below.heap_setCell _ _ _ _ (show w.heap.size ≠ b by omega)).trans KA.out)
    have KR := Lib.hid (show w7.heap[w.heap.size + 1]? = some (.cells #[.int .i64 0, .slice none 0 0, .slice none 0 0, .slice none 0 0, .slice none 0 0, .slice none 0 0, .int .i64 0, .int .i64 0] 31 (0, 0)) from hw ▸ (Below.heap_setCell _ _ _ _ (show w.heap.size + 1 ≠ b by omega)).trans KR.out)
    have BW := Lib.hid (show Below w.heap.size w w7 from hw ▸ BW.out.setCell (p := ⟨b, 5, none⟩) (show w.heap.size ≤ b by omega) _)
    have U := Lib.hid (show Und (b + 1) w7 _ _ _ _ _ _ _ _ _ _ _ _ from hw ▸ U.out.put (Nat.lt_succ_self _))
    have SL := Nat.le_trans SL (show w6.heap.size ≤ w7.heap.size from hw ▸ (by simp))
    rw [hw]
    clear hw
    have U := Lib.hid (show Und (b + 1) w7 d [] [] [] (kpC levels cls) levels _ _ _ _ _ [] from by rw [EKL.out]; exact U.out)
    go_wp2
    clear hl0
    obtain ⟨dv, hdv⟩ : ∃ dv, decide (0 < levels.length) = dv := ⟨_, rfl⟩
    try rw [hdv]
    clear hdv
    have W0 := Lib.hid (show w.heap.size ≤ b + 1 by omega)
    have B0' := Lib.hid (show w.heap.size ≤ b by omega)
    go_loopw [6] (fun i wr => ∃ (k : Nat) (vi vn : Value), k ≤ m ∧ i = .int .i64 k ∧ Below w.heap.size w wr ∧ wr.heap[w.heap.size]? = some (.cells #[.int .i64 kk, .slice ai n ci, .slice ap parts.length cp, .slice an nn cn, .slice ac cls.length cc, .slice al levels.length cl, .int .i64 code, .int .i64 env] 31 (0, 0)) ∧ wr.heap[w.heap.size + 1]? = some (.cells #[.int .i64 0, .slice none 0 0, .slice none 0 0, .slice none 0 0, .slice none 0 0, .slice none 0 0, .int .i64 0, .int .i64 0] 31 (0, 0)) ∧ wr.heap[b]? = some (.cells #[.int .i64 kk, vi, .slice none 0 0, vn, .slice sc nc qc, .slice sl nl ql, .int .i64 0, .int .i64 0] 31 (0, 0)) ∧ Und (b + 1) wr d (pkL noI items (idx.take k)) [] (pkL ⟨#[]⟩ names (idx.take k)) (kpC levels cls) levels vi (.slice none 0 0) vn (.slice sc nc qc) (.slice sl nl ql) []) (fun i _ => m - (intOf i).toNat)
    case atStart => exact ⟨0, .slice none 0 0, .slice none 0 0, Nat.zero_le _, rfl, BW.out, KA.out, KR.out, KB.out, by rw [pkT_zero, pkT_zero]; exact U.out⟩
    case round =>
      obtain ⟨k, vi, vn, hk, rfl, hbw', hka, hkr, hkb, hu⟩ := hrel
      have BW := Lib.hid hbw'
      have KA := Lib.hid hka
      have KR := Lib.hid hkr
      have KB := Lib.hid hkb
      have U := Lib.hid hu
      clear hbw' hka hkr hkb hu
      by_cases hlt : k < m
      · obtain ⟨bi, oi, rfl, hbi, cx⟩ := (SA.out.below (BW.out.mono hB)) k hlt
        have hq := IN.out k hlt
        have NXI := Lib.hid (PI.out k (by omega) hlt)
        replace cx := (show wr.cell? ⟨bi, oi + k, none⟩ = some (.int .i64 (((idx.getD k 0 : Nat) : Int) + 1)) from cx)
        have PNk := Lib.hid (fun h => PN.out k h hlt)
        obtain ⟨q, hq'⟩ : ∃ q, idx.getD k 0 = q := ⟨_, rfl⟩
        rw [hq'] at cx hq NXI PNk
        clear hq'
        have IY := Lib.hid (fun W => inYes (q : Int) 0 ((n : Int) - 1) W (by omega) (by omega))
        obtain ⟨ba, off, rfl, hbB, c0, c1, c2'⟩ := AI.out q w hq (Below.refl _ _)
        have c2 : w.cell? ⟨ba, off + q * 3 + 2, none⟩ = some (.string (items.getD q noI).t) := c2'
        have hbaw : ba < w.heap.size := Nat.lt_of_lt_of_le hbB hhi
        obtain ⟨x, hx⟩ : ∃ x, items.getD q noI = x := ⟨_, rfl⟩
        rw [hx] at c0 c1 c2 NXI
        clear hx c2'
        obtain ⟨a0, a1, a2, a3, a4, a5, a6, a7⟩ := vec8 KA.out
        go_wp2_with fail
        with_reducible refine (LE.out _).mono ?_
        rintro e wl ⟨rfl, b'⟩
        have BW := Lib.hid (below_then BW.out b')
        have KA := Lib.hid (blk_below b' KA.out)
        have KR := Lib.hid (blk_below b' KR.out)
        have KB := Lib.hid (blk_below b' KB.out)
        have U := Lib.hid (U.out.below b')
        clear b' a0 a1 a2 a3 a4 a5 a6 a7
        go_wp2_with fail
        with_reducible refine (IY.out _).mono ?_
        rintro e w' ⟨rfl, rfl⟩
        obtain ⟨a0, a1, a2, a3, a4, a5, a6, a7⟩ := vec8 KA.out
        have hbl := (Array.getElem?_eq_some_iff.1 KB.out).1
        have hKR := (Array.getElem?_eq_some_iff.1 KR.out).1
        have KRW := KR
        have UW := U
        by_cases h0 : nn = 0
        · have e0 := P0.out h0 (k + 1)
          have e1 := P0.out h0 k
          have hn0 : (nn : Int) ≤ 0 := by omega
          have H0 := Lib.hid h0
          clear h0
          have LN := Lib.hid (show (pkL noI items (idx.take k)).length ≤ 1048576 by have := LI.out k; omega)
          have FAR := Lib.hid (fun g hg => (U.out.i.lt g hg).1)
          have H := Lib.hid (show HeldC w wl ([(w.heap.size, 31, #[.int .i64 kk, .slice (some ⟨ba, off, none⟩) n ci, .slice ap parts.length cp, .slice an nn cn, .slice ac cls.length cc, .slice al levels.length cl, .int .i64 code, .int .i64 env]), (b, 31, #[.int .i64 kk, vi, .slice none 0 0, vn, .slice sc nc qc, .slice sl nl ql, .int .i64 0, .int .i64 0])]) from heldC_cons (heldC_cons ⟨BW.out, (fun _ h => by cases h)⟩ KB.out) KA.out)
          go_upto_region 15 with (fail)
          clear a0 a1 a2 a3 a4 a5 a6 a7
          refine run_region (ops := (opsOf Try.f43 15)) (S := fun w' => HeldC w w' ([(w.heap.size, 31, #[.int .i64 kk, .slice (some ⟨ba, off, none⟩) n ci, .slice ap parts.length cp, .slice an nn cn, .slice ac cls.length cc, .slice al levels.length cl, .int .i64 code, .int .i64 env]), (b, 31, #[.int .i64 kk, vi, (.slice none 0 0), vn, .slice sc nc qc, .slice sl nl ql, .int .i64 0, .int .i64 0])])) [(0, true), (1, true), (2, true), (3, true), (4, true), (5, true), (6, true), (7, false), (8, false), (9, true), (10, false)] (by kernel_rfl) (by kernel_rfl) (by kernel_rfl) (by kernel_rfl) (by kernel_rfl) (fun _ _ _ _ _ h => h) (heldC_drew H.out) ?_
          have H := Lib.hid (heldC_drew H.out)
          have U := Lib.hid (U.out.keep (below_drew' (Below.refl _ _)))
          refine runC_partV (b := b) (by kernel_rfl) (show opAt (opsOf Try.f43 15) 0 = some (some 69, .fieldAddr 31 (.tmp 5) 1, none) from by kernel_rfl) (by kernel_rfl) (by kernel_rfl) (by kernel_rfl) ?_
          refine runC_cell (b := b) (j := 1) (v := vi) load_its (show opAt (opsOf Try.f43 15) 1 = some (some 70, .load 28 (.tmp 69), none) from by kernel_rfl) (by kernel_rfl) (by kernel_rfl) (by kernel_rfl) (List.Mem.tail _ (List.Mem.head _)) rfl ?_
          refine runC_partV (b := w.heap.size) (by kernel_rfl) (show opAt (opsOf Try.f43 15) 2 = some (some 71, .fieldAddr 31 (.tmp 2) 1, none) from by kernel_rfl) (by kernel_rfl) (by kernel_rfl) (by kernel_rfl) ?_
          refine runC_cell (b := w.heap.size) (j := 1) (v := .slice (some ⟨ba, off, none⟩) n ci) load_its (show opAt (opsOf Try.f43 15) 3 = some (some 72, .load 28 (.tmp 71), none) from by kernel_rfl) (by kernel_rfl) (by kernel_rfl) (by kernel_rfl) (List.Mem.head _) rfl ?_
          refine run_mov (v := .int .i64 ((q : Int))) (show opAt (opsOf Try.f43 15) 4 = some (some 73, .move (.tmp 7), none) from by kernel_rfl) (by kernel_rfl) (by kernel_rfl) (by kernel_rfl) ?_
          refine run_idx3 (n := n) (c := ci) (b := ba) (off := off) (k := q) (show opAt (opsOf Try.f43 15) 5 = some (some 74, .indexAddr 28 (.tmp 72) (.tmp 73), none) from by kernel_rfl) (by kernel_rfl) (by kernel_rfl) (by kernel_rfl) (by kernel_rfl) hq ?_
          refine runC_oldI (b := ba) (j := off + q * 3) (z := x) (show opAt (opsOf Try.f43 15) 6 = some (some 75, .load 67 (.tmp 74), none) from by kernel_rfl) (by kernel_rfl) (by kernel_rfl) (by kernel_rfl) hbaw c0 c1 c2 ?_
          refine tail_its3 x (show opAt (opsOf Try.f43 15) 7 = some (some 76, .buildSlice 28 1 #[(0, (.tmp 75))], none) from by kernel_rfl) (by kernel_rfl) (by kernel_rfl) (show opAt (opsOf Try.f43 15) 8 = some (some 77, .call { callee := .builtin .append, args := [(.tmp 70), (.tmp 76)].toArray, argTypes := [28, 28].toArray }, none) from by kernel_rfl) (by kernel_rfl) (fun _ => by kernel_rfl) (show opAt (opsOf Try.f43 15) 9 = some (some 78, .fieldAddr 31 (.tmp 5) 1, none) from by kernel_rfl) (by kernel_rfl) (by kernel_rfl) (fun _ _ => by kernel_rfl) (show opAt (opsOf Try.f43 15) 10 = some (none, .store 28 (.tmp 78) (.tmp 77), none) from by kernel_rfl) (by kernel_rfl) (by kernel_rfl) H.out U.out.i LN.out (Nat.succ_le_of_lt (Array.getElem?_eq_some_iff.1 (heldC_at H.out (List.Mem.tail _ (List.Mem.head _)))).1) W0.out (List.Mem.tail _ (List.Mem.head _)) rfl (Nat.lt_succ_self _) B0'.out (fun q hq => far_two FAR.out (Nat.lt_succ_of_lt hbw) (Nat.lt_succ_self _) hq) ?_
          rintro v' w2 ⟨sa, sn, sc2, rfl⟩ hK hO hB hZ hR hG
          simp only [putAll, Act.put, List.setIfInBounds_toArray, List.set_cons_zero, List.set_cons_succ]
          have KA1 := heldC_at H.out (List.Mem.head _)
          have KR1 := heldC_at H.out (List.Mem.head _)
          have hwa := (Array.getElem?_eq_some_iff.1 KA1).1
          have U := Lib.hid (U.out.setI hO hR (fun g hlo hg hne => hG g hg (by omega) hne) hZ)
          have KA := Lib.hid (show w2.heap[w.heap.size]? = some (.cells #[.int .i64 kk, .slice (some ⟨ba, off, none⟩) n ci, .slice ap parts.length cp, .slice an nn cn, .slice ac cls.length cc, .slice al levels.length cl, .int .i64 code, .int .i64 env] 31 (0, 0)) from (hG _ hwa (by omega) (fun e => by have := FAR.out _ e; omega)).trans KA1)
          have KB := Lib.hid (show w2.heap[b]? = some (.cells #[.int .i64 kk, .slice sa sn sc2, .slice none 0 0, vn, .slice sc nc qc, .slice sl nl ql, .int .i64 0, .int .i64 0] 31 (0, 0)) from hK)
          have BW := Lib.hid hB
          have KR := Lib.hid (show w2.heap[w.heap.size + 1]? = some (.cells #[.int .i64 0, .slice none 0 0, .slice none 0 0, .slice none 0 0, .slice none 0 0, .slice none 0 0, .int .i64 0, .int .i64 0] 31 (0, 0)) from (hG _ hKR (by omega) (fun e => by have := FAR.out _ e; omega)).trans KRW.out)
          clear hK hO hB hR hG hZ H FAR LN KA1 KR1 hwa
          obtain ⟨a0, a1, a2, a3, a4, a5, a6, a7⟩ := vec8 KA.out
          go_wp2
          go_roundw
          case rel => first | exact ⟨k + 1, _, vn, by omega, by go_num, BW.out, KA.out, KR.out, KB.out, by rw [NXI.out, e0]; rw [e1] at U; exact U.out⟩ | ((repeat apply Exists.intro); exact ⟨⟨k + 1, _, vn, by omega, by go_num, BW.out, KA.out, KR.out, KB.out, by rw [NXI.out, e0]; rw [e1] at U; exact U.out⟩, rfl⟩)
          case measure => simp [intOf]; omega
        · have hqn : q < nn := by have := hnm h0; omega
          have hn0 : 0 < (nn : Int) := by omega
          have NXN := Lib.hid (PNk.out h0)
          obtain ⟨bn, offn, rfl, hbN, cn0⟩ := AN.out q w hqn (Below.refl _ _)
          have hbnw : bn < w.heap.size := Nat.lt_of_lt_of_le hbN hhi
          obtain ⟨s, hs⟩ : ∃ s, names.getD q ⟨#[]⟩ = s := ⟨_, rfl⟩
          rw [hs] at cn0 NXN
          clear hs
          have LN := Lib.hid (show (pkL noI items (idx.take k)).length ≤ 1048576 by have := LI.out k; omega)
          have FAR := Lib.hid (fun g hg => (U.out.i.lt g hg).1)
          have H := Lib.hid (show HeldC w wl ([(w.heap.size, 31, #[.int .i64 kk, .slice (some ⟨ba, off, none⟩) n ci, .slice ap parts.length cp, .slice (some ⟨bn, offn, none⟩) nn cn, .slice ac cls.length cc, .slice al levels.length cl, .int .i64 code, .int .i64 env]), (b, 31, #[.int .i64 kk, vi, .slice none 0 0, vn, .slice sc nc qc, .slice sl nl ql, .int .i64 0, .int .i64 0])]) from heldC_cons (heldC_cons ⟨BW.out, (fun _ h => by cases h)⟩ KB.out) KA.out)
          go_upto_region 15 with (fail)
          clear a0 a1 a2 a3 a4 a5 a6 a7
          refine run_region (ops := (opsOf Try.f43 15)) (S := fun w' => HeldC w w' ([(w.heap.size, 31, #[.int .i64 kk, .slice (some ⟨ba, off, none⟩) n ci, .slice ap parts.length cp, .slice (some ⟨bn, offn, none⟩) nn cn, .slice ac cls.length cc, .slice al levels.length cl, .int .i64 code, .int .i64 env]), (b, 31, #[.int .i64 kk, vi, (.slice none 0 0), vn, .slice sc nc qc, .slice sl nl ql, .int .i64 0, .int .i64 0])])) [(0, true), (1, true), (2, true), (3, true), (4, true), (5, true), (6, true), (7, false), (8, false), (9, true), (10, false)] (by kernel_rfl) (by kernel_rfl) (by kernel_rfl) (by kernel_rfl) (by kernel_rfl) (fun _ _ _ _ _ h => h) (heldC_drew H.out) ?_
          have H := Lib.hid (heldC_drew H.out)
          have U := Lib.hid (U.out.keep (below_drew' (Below.refl _ _)))
          refine runC_partV (b := b) (by kernel_rfl) (show opAt (opsOf Try.f43 15) 0 = some (some 69, .fieldAddr 31 (.tmp 5) 1, none) from by kernel_rfl) (by kernel_rfl) (by kernel_rfl) (by kernel_rfl) ?_
          refine runC_cell (b := b) (j := 1) (v := vi) load_its (show opAt (opsOf Try.f43 15) 1 = some (some 70, .load 28 (.tmp 69), none) from by kernel_rfl) (by kernel_rfl) (by kernel_rfl) (by kernel_rfl) (List.Mem.tail _ (List.Mem.head _)) rfl ?_
          refine runC_partV (b := w.heap.size) (by kernel_rfl) (show opAt (opsOf Try.f43 15) 2 = some (some 71, .fieldAddr 31 (.tmp 2) 1, none) from by kernel_rfl) (by kernel_rfl) (by kernel_rfl) (by kernel_rfl) ?_
          refine runC_cell (b := w.heap.size) (j := 1) (v := .slice (some ⟨ba, off, none⟩) n ci) load_its (show opAt (opsOf Try.f43 15) 3 = some (some 72, .load 28 (.tmp 71), none) from by kernel_rfl) (by kernel_rfl) (by kernel_rfl) (by kernel_rfl) (List.Mem.head _) rfl ?_
          refine run_mov (v := .int .i64 ((q : Int))) (show opAt (opsOf Try.f43 15) 4 = some (some 73, .move (.tmp 7), none) from by kernel_rfl) (by kernel_rfl) (by kernel_rfl) (by kernel_rfl) ?_
          refine run_idx3 (n := n) (c := ci) (b := ba) (off := off) (k := q) (show opAt (opsOf Try.f43 15) 5 = some (some 74, .indexAddr 28 (.tmp 72) (.tmp 73), none) from by kernel_rfl) (by kernel_rfl) (by kernel_rfl) (by kernel_rfl) (by kernel_rfl) hq ?_
          refine runC_oldI (b := ba) (j := off + q * 3) (z := x) (show opAt (opsOf Try.f43 15) 6 = some (some 75, .load 67 (.tmp 74), none) from by kernel_rfl) (by kernel_rfl) (by kernel_rfl) (by kernel_rfl) hbaw c0 c1 c2 ?_
          refine tail_its3 x (show opAt (opsOf Try.f43 15) 7 = some (some 76, .buildSlice 28 1 #[(0, (.tmp 75))], none) from by kernel_rfl) (by kernel_rfl) (by kernel_rfl) (show opAt (opsOf Try.f43 15) 8 = some (some 77, .call { callee := .builtin .append, args := [(.tmp 70), (.tmp 76)].toArray, argTypes := [28, 28].toArray }, none) from by kernel_rfl) (by kernel_rfl) (fun _ => by kernel_rfl) (show opAt (opsOf Try.f43 15) 9 = some (some 78, .fieldAddr 31 (.tmp 5) 1, none) from by kernel_rfl) (by kernel_rfl) (by kernel_rfl) (fun _ _ => by kernel_rfl) (show opAt (opsOf Try.f43 15) 10 = some (none, .store 28 (.tmp 78) (.tmp 77), none) from by kernel_rfl) (by kernel_rfl) (by kernel_rfl) H.out U.out.i LN.out (Nat.succ_le_of_lt (Array.getElem?_eq_some_iff.1 (heldC_at H.out (List.Mem.tail _ (List.Mem.head _)))).1) W0.out (List.Mem.tail _ (List.Mem.head _)) rfl (Nat.lt_succ_self _) B0'.out (fun q hq => far_two FAR.out (Nat.lt_succ_of_lt hbw) (Nat.lt_succ_self _) hq) ?_
          rintro v' w2 ⟨sa, sn, sc2, rfl⟩ hK hO hB hZ hR hG
          simp only [putAll, Act.put, List.setIfInBounds_toArray, List.set_cons_zero, List.set_cons_succ]
          have KA1 := heldC_at H.out (List.Mem.head _)
          have KR1 := heldC_at H.out (List.Mem.head _)
          have hwa := (Array.getElem?_eq_some_iff.1 KA1).1
          have U := Lib.hid (U.out.setI hO hR (fun g hlo hg hne => hG g hg (by omega) hne) hZ)
          have KA := Lib.hid (show w2.heap[w.heap.size]? = some (.cells #[.int .i64 kk, .slice (some ⟨ba, off, none⟩) n ci, .slice ap parts.length cp, .slice (some ⟨bn, offn, none⟩) nn cn, .slice ac cls.length cc, .slice al levels.length cl, .int .i64 code, .int .i64 env] 31 (0, 0)) from (hG _ hwa (by omega) (fun e => by have := FAR.out _ e; omega)).trans KA1)
          have KB := Lib.hid (show w2.heap[b]? = some (.cells #[.int .i64 kk, .slice sa sn sc2, .slice none 0 0, vn, .slice sc nc qc, .slice sl nl ql, .int .i64 0, .int .i64 0] 31 (0, 0)) from hK)
          have BW := Lib.hid hB
          have KR := Lib.hid (show w2.heap[w.heap.size + 1]? = some (.cells #[.int .i64 0, .slice none 0 0, .slice none 0 0, .slice none 0 0, .slice none 0 0, .slice none 0 0, .int .i64 0, .int .i64 0] 31 (0, 0)) from (hG _ hKR (by omega) (fun e => by have := FAR.out _ e; omega)).trans KRW.out)
          clear hK hO hB hR hG hZ H FAR LN KA1 KR1 hwa
          obtain ⟨a0, a1, a2, a3, a4, a5, a6, a7⟩ := vec8 KA.out
          have hKR := (Array.getElem?_eq_some_iff.1 KR.out).1
          have KRW := KR
          have LN := Lib.hid (show (pkL ⟨#[]⟩ names (idx.take k)).length ≤ 1048576 by have := LM.out k; omega)
          have FAR := Lib.hid (fun g hg => (U.out.n.lt g hg).1)
          have H := Lib.hid (show HeldC w w2 ([(w.heap.size, 31, #[.int .i64 kk, .slice (some ⟨ba, off, none⟩) n ci, .slice ap parts.length cp, .slice (some ⟨bn, offn, none⟩) nn cn, .slice ac cls.length cc, .slice al levels.length cl, .int .i64 code, .int .i64 env]), (b, 31, #[.int .i64 kk, .slice sa sn sc2, .slice none 0 0, vn, .slice sc nc qc, .slice sl nl ql, .int .i64 0, .int .i64 0])]) from heldC_cons (heldC_cons ⟨BW.out, (fun _ h => by cases h)⟩ KB.out) KA.out)
          go_upto_region 18 with (fail)
          clear a0 a1 a2 a3 a4 a5 a6 a7
          refine run_region (ops := (opsOf Try.f43 18)) (S := fun w' => HeldC w w' ([(w.heap.size, 31, #[.int .i64 kk, .slice (some ⟨ba, off, none⟩) n ci, .slice ap parts.length cp, .slice (some ⟨bn, offn, none⟩) nn cn, .slice ac cls.length cc, .slice al levels.length cl, .int .i64 code, .int .i64 env]), (b, 31, #[.int .i64 kk, (.slice sa sn sc2), (.slice none 0 0), vn, .slice sc nc qc, .slice sl nl ql, .int .i64 0, .int .i64 0])])) [(0, true), (1, true), (2, true), (3, true), (4, true), (5, true), (6, true), (7, false), (8, false), (9, true), (10, false)] (by kernel_rfl) (by kernel_rfl) (by kernel_rfl) (by kernel_rfl) (by kernel_rfl) (fun _ _ _ _ _ h => h) (heldC_drew H.out) ?_
          have H := Lib.hid (heldC_drew H.out)
          have U := Lib.hid (U.out.keep (below_drew' (Below.refl _ _)))
          refine runC_partV (b := b) (by kernel_rfl) (show opAt (opsOf Try.f43 18) 0 = some (some 92, .fieldAddr 31 (.tmp 5) 3, none) from by kernel_rfl) (by kernel_rfl) (by kernel_rfl) (by kernel_rfl) ?_
          refine runC_cell (b := b) (j := 3) (v := vn) load_strs (show opAt (opsOf Try.f43 18) 1 = some (some 93, .load 24 (.tmp 92), none) from by kernel_rfl) (by kernel_rfl) (by kernel_rfl) (by kernel_rfl) (List.Mem.tail _ (List.Mem.head _)) rfl ?_
          refine runC_partV (b := w.heap.size) (by kernel_rfl) (show opAt (opsOf Try.f43 18) 2 = some (some 94, .fieldAddr 31 (.tmp 2) 3, none) from by kernel_rfl) (by kernel_rfl) (by kernel_rfl) (by kernel_rfl) ?_
          refine runC_cell (b := w.heap.size) (j := 3) (v := .slice (some ⟨bn, offn, none⟩) nn cn) load_strs (show opAt (opsOf Try.f43 18) 3 = some (some 95, .load 24 (.tmp 94), none) from by kernel_rfl) (by kernel_rfl) (by kernel_rfl) (by kernel_rfl) (List.Mem.head _) rfl ?_
          refine run_mov (v := .int .i64 ((q : Int))) (show opAt (opsOf Try.f43 18) 4 = some (some 96, .move (.tmp 7), none) from by kernel_rfl) (by kernel_rfl) (by kernel_rfl) (by kernel_rfl) ?_
          refine run_idx1 (n := nn) (c := cn) (b := bn) (off := offn) (k := q) (show opAt (opsOf Try.f43 18) 5 = some (some 97, .indexAddr 24 (.tmp 95) (.tmp 96), none) from by kernel_rfl) (by kernel_rfl) (by kernel_rfl) (by kernel_rfl) (by kernel_rfl) hqn Try.underlying24 (by kernel_rfl) infoStr ?_
          refine runC_old (b := bn) (j := offn + q) (v := .string s) load_text (show opAt (opsOf Try.f43 18) 6 = some (some 98, .load 9 (.tmp 97), none) from by kernel_rfl) (by kernel_rfl) (by kernel_rfl) (by kernel_rfl) hbnw cn0 ?_
          refine tail_txs3 s (show opAt (opsOf Try.f43 18) 7 = some (some 99, .buildSlice 24 1 #[(0, (.tmp 98))], none) from by kernel_rfl) (by kernel_rfl) (by kernel_rfl) (show opAt (opsOf Try.f43 18) 8 = some (some 100, .call { callee := .builtin .append, args := [(.tmp 93), (.tmp 99)].toArray, argTypes := [24, 24].toArray }, none) from by kernel_rfl) (by kernel_rfl) (fun _ => by kernel_rfl) (show opAt (opsOf Try.f43 18) 9 = some (some 101, .fieldAddr 31 (.tmp 5) 3, none) from by kernel_rfl) (by kernel_rfl) (by kernel_rfl) (fun _ _ => by kernel_rfl) (show opAt (opsOf Try.f43 18) 10 = some (none, .store 24 (.tmp 101) (.tmp 100), none) from by kernel_rfl) (by kernel_rfl) (by kernel_rfl) H.out U.out.n LN.out (Nat.succ_le_of_lt (Array.getElem?_eq_some_iff.1 (heldC_at H.out (List.Mem.tail _ (List.Mem.head _)))).1) W0.out (List.Mem.tail _ (List.Mem.head _)) rfl (Nat.lt_succ_self _) B0'.out (fun q hq => far_two FAR.out (Nat.lt_succ_of_lt hbw) (Nat.lt_succ_self _) hq) ?_
          rintro v' w3 ⟨sa3, sn3, sc3, rfl⟩ hK hO hB hZ hR hG
          simp only [putAll, Act.put, List.setIfInBounds_toArray, List.set_cons_zero, List.set_cons_succ]
          have KA1 := heldC_at H.out (List.Mem.head _)
          have KR1 := heldC_at H.out (List.Mem.head _)
          have hwa := (Array.getElem?_eq_some_iff.1 KA1).1
          have U := Lib.hid (U.out.setN hO hR (fun g hlo hg hne => hG g hg (by omega) hne) hZ)
          have KA := Lib.hid (show w3.heap[w.heap.size]? = some (.cells #[.int .i64 kk, .slice (some ⟨ba, off, none⟩) n ci, .slice ap parts.length cp, .slice (some ⟨bn, offn, none⟩) nn cn, .slice ac cls.length cc, .slice al levels.length cl, .int .i64 code, .int .i64 env] 31 (0, 0)) from (hG _ hwa (by omega) (fun e => by have := FAR.out _ e; omega)).trans KA1)
          have KB := Lib.hid (show w3.heap[b]? = some (.cells #[.int .i64 kk, .slice sa sn sc2, .slice none 0 0, .slice sa3 sn3 sc3, .slice sc nc qc, .slice sl nl ql, .int .i64 0, .int .i64 0] 31 (0, 0)) from hK)
          have BW := Lib.hid hB
          have KR := Lib.hid (show w3.heap[w.heap.size + 1]? = some (.cells #[.int .i64 0, .slice none 0 0, .slice none 0 0, .slice none 0 0, .slice none 0 0, .slice none 0 0, .int .i64 0, .int .i64 0] 31 (0, 0)) from (hG _ hKR (by omega) (fun e => by have := FAR.out _ e; omega)).trans KRW.out)
          clear hK hO hB hR hG hZ H FAR LN KA1 KR1 hwa
          go_wp2
          go_roundw
          case rel => first | exact ⟨k + 1, _, _, by omega, by go_num, BW.out, KA.out, KR.out, KB.out, by rw [NXI.out, NXN.out]; exact U.out⟩ | ((repeat apply Exists.intro); exact ⟨⟨k + 1, _, _, by omega, by go_num, BW.out, KA.out, KR.out, KB.out, by rw [NXI.out, NXN.out]; exact U.out⟩, rfl⟩)
          case measure => simp [intOf]; omega
      · obtain rfl : k = m := by omega
        obtain ⟨si, qi, rfl⟩ := row_form U.out.i
        obtain ⟨sn, qn, Fn, rfl, hot, _, hrt, _⟩ := txs_of_row U.out.n
        have CLN := Lib.hid (fun (W : World) (hb : Below wr.heap.size wr W) => specCleanN kk 0 0 si none sn sc sl (pkL noI items (idx.take k)).length qi 0 0 qn nc qc nl ql (pkL ⟨#[]⟩ names (idx.take k)) (b + 1) wr.heap.size W ((hot.at_ hrt).below hb (Nat.le_refl _)) hb.size (Nat.le_trans (LM.out k) hn))
        clear hot hrt
        obtain ⟨k0, k1, k2, k3, k4, k5, k6, k7⟩ := vec8 KB.out
        have hKR := (Array.getElem?_eq_some_iff.1 KR.out).1
        go_wp2_with fail
        refine (CLN.out _ (Below.refl _ _)).mono ?_
        rintro e w5 ⟨b', hor⟩
        have BW := Lib.hid (below_then BW.out b')
        have KR := Lib.hid (blk_below b' KR.out)
        have O := Lib.hid ((U.out.below b').own kk)
        have hL1 : w.heap.size + 1 < b + 1 := by omega
        clear b' k0 k1 k2 k3 k4 k5 k6 k7
        obtain ⟨z0, z1, z2, z3, z4, z5, z6, z7⟩ := vec8 KR.out
        obtain ⟨f0, f1, f2, f3, f4, f5, f6, f7⟩ := free8 KR.out
        rcases hor with ⟨hex, rfl⟩ | ⟨hem, g, hg, rfl⟩
        · have EN := Lib.hid (clnN_yes (l := pkL ⟨#[]⟩ names (idx.take k)) (by obtain ⟨i, h1, h2⟩ := hex; exact ⟨i, h1, fun h => h2 (empty_of_size h)⟩))
          rw [EN.out] at EV
          rw [← EV.out] at O
          clear EV EN hex
          go_wp2
          exact vec_end rfl rfl rfl KR.out ⟨_, rfl, (O.out.put8 hL1 _ _ _ _ _ _ _ _).wide (by omega) (by rw [put8_size]; exact Nat.le_refl _), put8_below BW.out (Nat.le_succ _)⟩
        · have EN := Lib.hid (clnN_no (l := pkL ⟨#[]⟩ names (idx.take k)) (fun ⟨i, h1, h2⟩ => h2 (show (txtS _ i).size = 0 by rw [hem i h1]; rfl)))
          rw [EN.out] at EV
          have O := Lib.hid (O.out.noNames (some ⟨g, 0, none⟩) 0)
          rw [← EV.out] at O
          clear EV EN hem hg
          go_wp2
          exact vec_end rfl rfl rfl KR.out ⟨_, rfl, (O.out.put8 hL1 _ _ _ _ _ _ _ _).wide (by omega) (by rw [put8_size]; exact Nat.le_refl _), put8_below BW.out (Nat.le_succ _)⟩
end Go.Proofs.Ytfbpbpbmnieieaa

/- ListVector of the reference. -/
namespace Go.Proofs.Ytfbpbpbmnieieaa
open Go.RowKit
set_option maxRecDepth 100000
set_option linter.unusedVariables false

def bvV : Vec := .mk (-1) [] [] [] [] [] 0 0
/-- A part as l4Copies hands it on. -/
noncomputable def lcF (p : Vec) : Vec := match bB (IsV 3 p) with | true => p | false => bvV
noncomputable def lcp (parts : List Vec) : List Vec := (parts.take 41).map lcF
theorem lcF_yes {p : Vec} (h : IsV 3 p) : lcF p = p := by unfold lcF; rw [bB_yes h]
theorem lcF_no {p : Vec} (h : ¬ IsV 3 p) : lcF p = bvV := by unfold lcF; rw [bB_no h]
theorem lcp_len (parts : List Vec) : (lcp parts).length = min 41 parts.length := by unfold lcp; simp
theorem lcp_at {parts : List Vec} {k : Nat} (h : k < parts.length) (h2 : k < 41) : (lcp parts).getD k noV = lcF (parts.getD k noV) := by
  unfold lcp; simp [List.getD_eq_getElem?_getD, h, h2]
theorem lcp_same {parts : List Vec} (h : parts.length ≤ 41) (hv : ∀ i, i < parts.length → IsV 3 (parts.getD i noV)) : lcp parts = parts := by
  unfold lcp
  rw [List.take_of_length_le h]
  apply List.ext_getElem
  · simp
  · intro i h1 h2
    have e : parts.getD i noV = parts[i] := by simp [List.getD_eq_getElem?_getD, h2]
    rw [List.getElem_map, lcF_yes (e ▸ hv i h2)]
theorem lst_fwd {parts : List Vec} {nm : List ByteArray} (h : ValidV (.mk 4 [] (lcp parts) nm [] [] 0 0)) : lcp parts = parts := by
  have hf : FlatOk 4 [] (lcp parts).length nm [] [] 0 0 := h.1.flat
  have h1 := hf.h_len
  unfold lenV at h1
  rw [if_neg (by decide), lcp_len] at h1
  simp only [List.length_nil] at h1
  have hl : parts.length ≤ 40 := by omega
  refine lcp_same (by omega) (fun i hi => ?_)
  have h2 := h.1.2 i (show i < (lcp parts).length by rw [lcp_len]; omega)
  have h2' : IsV 2 ((lcp parts).getD i noV) := h2
  rw [lcp_at hi (by omega)] at h2'
  by_cases q : IsV 3 (parts.getD i noV)
  · exact q
  · rw [lcF_no q] at h2'
    have hk : FlatOk (-1) [] 0 [] [] [] 0 0 := h2'.flat
    have := hk.h_kind
    omega
theorem lst_bwd {parts : List Vec} {nm : List ByteArray} (h : ValidV (.mk 4 [] parts nm [] [] 0 0)) : lcp parts = parts := by
  have hp := (IsV.flat h.1).parts
  have hl : parts.length ≤ 40 := hp
  exact lcp_same (by omega) (fun i hi => isV_up 2 _ (h.1.2 i hi))
theorem own_kind (k : Int) (d lo hi : Nat) (w : World) : Own (d + 1) (.mk k [] [] [] [] [] 0 0) (.agg #[.int .i64 k, .slice none 0 0, .slice none 0 0, .slice none 0 0, .slice none 0 0, .slice none 0 0, .int .i64 0, .int .i64 0]) lo hi w := by
  refine ⟨[], ?_, List.nodup_nil, (fun _ h => by cases h)⟩
  unfold OwnVec
  exact ⟨none, 0, none, 0, none, 0, none, 0, none, 0, [], [], [], [], [], rfl, rfl, ⟨Nat.le_refl _, Nat.le_refl _, Nat.le_refl _, Nat.le_refl _, Nat.le_refl _⟩, .inl ⟨rfl, rfl⟩, .inl ⟨rfl, rfl⟩, .inl ⟨rfl, rfl⟩, .inl ⟨rfl, rfl⟩, .inl ⟨rfl, rfl⟩⟩
set_option maxHeartbeats 4000000 in
theorem specCopiesAny (d : Nat) (parts : List Vec) (a : Option Addr) (cap lo hi : Nat) (w : World) (hs : VecsAt lo hi w (d + 1) a parts) (hhi : hi ≤ w.heap.size) (hsm : ∀ i, i < parts.length → Small (d + 1) (parts.getD i noV)) (hn : parts.length ≤ 1048576) :
    Calls Try.prog 55 #[.slice a parts.length cap] w (ResP (d + 1) (lcp parts) w) := by
  have A := Lib.hid (fun (k : Nat) (w1 : World) (hk : k < parts.length) (hb : Below w.heap.size w w1) => (hs.below hb hhi).at_ hk)
  have C := Lib.hid (fun (k : Nat) (w1 : World) (x : Value) (hk : k < parts.length) (h3 : IsV 3 (parts.getD k noV)) (hb : Below w.heap.size w w1) (hv : VecAt lo hi w1 (d + 1) (parts.getD k noV) x) => (scvAll (d + 1)).out _ x lo hi w1 hv (Nat.le_trans hhi hb.size) (hsm k hk) (allIs_of (d + 1) 3 _ (Nat.le_refl _) h3) (by have := h3.flat.parts; omega))
  have L := Lib.hid (fun (k : Nat) (w1 : World) (x : Value) (hk : k < parts.length) (hb : Below w.heap.size w w1) (hv : VecAt lo hi w1 (d + 1) (parts.getD k noV) x) => show Calls Try.prog 82 #[x, .int .i64 3] w1 (fun e w' => e = .returned (.bool (bB (IsV 3 (parts.getD k noV)))) ∧ Below w1.heap.size w1 w') from (sIsAll 3 (Nat.le_refl _)).out (d + 1) _ x lo hi w1 hv (Nat.le_trans hhi hb.size) (hsm k hk))
  have QY := Lib.hid (fun k (h : k < parts.length) (h2 : k < 41) (hv : IsV 3 (parts.getD k noV)) => (lcp_at h h2).trans (lcF_yes hv))
  have QN := Lib.hid (fun k (h : k < parts.length) (h2 : k < 41) (hv : ¬ IsV 3 (parts.getD k noV)) => (lcp_at h h2).trans (lcF_no hv))
  have FIN := Lib.hid (fun (wr : World) (v : Value) (h : RowV w wr (d + 1) (lcp parts) (lcp parts).length v) => h.parts)
  have QL := lcp_len parts
  clear hs hsm
  obtain ⟨Q, hQ⟩ : ∃ Q, lcp parts = Q := ⟨_, rfl⟩
  rw [hQ] at QY QN FIN QL ⊢
  obtain ⟨M, hM⟩ : ∃ M, Q.length = M := ⟨_, rfl⟩
  have HNn := Lib.hid hM
  rw [hM] at FIN QL
  obtain ⟨n, hn'⟩ : ∃ n, parts.length = n := ⟨_, rfl⟩
  rw [hn'] at hn A C L QY QN QL ⊢
  have hM1 : M ≤ n ∧ M ≤ 41 := by omega
  have hM2 := Lib.hid (show ∀ k, ¬ k < M → k ≤ M → ¬ (k < n ∧ k ≤ 40) by intro k h1 h2 h3; omega)
  clear hn' hQ hM QL
  obtain ⟨i0, hi0, hz0, hz1, hz2⟩ := info_parts infoVec8
  go_enter Try.func55, Try.ntmps55
  go_wp2
  go_loopw [3, 4] (fun v i wr => ∃ k : Nat, k ≤ M ∧ i = .int .i64 k ∧ RowV w wr (d + 1) Q k v) (fun _ i _ => M - (intOf i).toNat)
  case atStart => exact ⟨0, Nat.zero_le _, rfl, RowV.start0 w (d + 1) Q⟩
  case round =>
    obtain ⟨k, hk, rfl, hr⟩ := hrel
    have RV := Lib.hid hr
    clear hr
    by_cases hlt : k < M
    · have h40 : k ≤ 40 := by omega
      have hkn : k < n := by omega
      obtain ⟨b, off, p0, p1, p2, p3, p4, p5, p6, p7, rfl, hbB, hv, c0, c1, c2, c3, c4, c5, c6, c7⟩ := A.out _ _ hkn RV.out.below
      have HV := Lib.hid hv
      clear hv
      go_wp2_with fail
      refine (L.out _ _ _ hkn RV.out.below HV.out).mono ?_
      rintro e wi ⟨rfl, hbi⟩
      have RV := Lib.hid (RV.out.keep hbi)
      clear hbi HV c0 c1 c2 c3 c4 c5 c6 c7 hbB
      by_cases hv3 : IsV 3 (parts.getD k noV)
      · rw [bB_yes hv3]
        obtain ⟨b', off', u0, u1, u2, u3, u4, u5, u6, u7, e', hbB, hv, c0, c1, c2, c3, c4, c5, c6, c7⟩ := A.out _ _ hkn RV.out.below
        simp only [Option.some.injEq, Addr.mk.injEq, and_true] at e'
        obtain ⟨rfl, rfl⟩ := e'
        have HV := Lib.hid hv
        have EQ := Lib.hid (QY.out k hkn (by omega) hv3)
        clear hv
        go_wp2_with fail
        refine (C.out _ _ _ hkn hv3 RV.out.below HV.out).mono ?_
        rintro e w2 ⟨y, rfl, ho, hb⟩
        obtain ⟨yk, ya1, yn1, ym1, ya2, yn2, ym2, ya3, yn3, ym3, ya4, yn4, ym4, ya5, yn5, ym5, yc, ye, rfl⟩ := ho.agg
        have HO := Lib.hid (EQ.out.symm ▸ ho)
        have BW := Lib.hid hb
        obtain ⟨xs, hxs⟩ := RV.out.row
        have XS := Lib.hid hxs
        have OR := Lib.hid (ownsRow_below (ownsRow_below hxs BW.out) (below1 w2 (.cells #[.int .i64 yk, .slice ya1 yn1 ym1, .slice ya2 yn2 ym2, .slice ya3 yn3 ym3, .slice ya4 yn4 ym4, .slice ya5 yn5 ym5, .int .i64 yc, .int .i64 ye] 31)))
        have S1 := Lib.hid (show w.heap.size ≤ w2.heap.size from (below_then RV.out.below BW.out).size)
        clear ho hb hxs c0 c1 c2 c3 c4 c5 c6 c7
        go_wp2_with (at_builtin; refine wpList_append_own_at _ rfl _ _ 29 rfl w.heap.size 31 i0 _ 8 144 Try.underlying29 hi0 hz0 hz1 hz2 rfl (by decide) _ k xs rfl OR.out ⟨w2.heap.size, 0, none⟩ 1 1 [.int .i64 yk, .slice ya1 yn1 ym1, .slice ya2 yn2 ym2, .slice ya3 yn3 ym3, .slice ya4 yn4 ym4, .slice ya5 yn5 ym5, .int .i64 yc, .int .i64 ye] rfl rfl ?c1 ?c2 ?c3 ?c4 ?c5 ?_)
        case c1 =>
          intro j u hj
          have hlt : j < 8 := by have := (List.getElem?_eq_some_iff.1 hj).1; simpa using this
          rw [addr_add, Nat.zero_add]
          refine cellOf (blk_new w2 _ rfl) ?_
          rw [← hj]
          rcases (show j = 0 ∨ j = 1 ∨ j = 2 ∨ j = 3 ∨ j = 4 ∨ j = 5 ∨ j = 6 ∨ j = 7 by omega) with rfl | rfl | rfl | rfl | rfl | rfl | rfl | rfl <;> rfl
        case c2 => intro u hu; simp only [List.mem_cons, List.not_mem_nil, or_false] at hu; rcases hu with rfl | rfl | rfl | rfl | rfl | rfl | rfl | rfl <;> rfl
        case c3 => unfold maxLen; omega
        case c4 => omega
        case c5 => have := S1.out; simp; omega
        intro v' w3 hown' hgrow _ hwh
        have NX := Lib.hid (RV.out.next HO.out (by simp) BW.out hgrow (fun ys hy => ownsRow_same XS.out hy ▸ hown') (by simpa using hwh))
        clear hown' hgrow hwh
        go_wp2
        go_roundw
        case rel => exact ⟨k + 1, by omega, by go_num, NX.out⟩
        case measure => simp [intOf]; omega
      · rw [bB_no hv3]
        have EQ := Lib.hid (QN.out k hkn (by omega) hv3)
        have HO := Lib.hid (show Own (d + 1) (Q.getD k noV) (.agg #[.int .i64 (-1), .slice none 0 0, .slice none 0 0, .slice none 0 0, .slice none 0 0, .slice none 0 0, .int .i64 0, .int .i64 0]) wi.heap.size wi.heap.size wi from EQ.out.symm ▸ own_kind (-1) d _ _ _)
        obtain ⟨xs, hxs⟩ := RV.out.row
        have XS := Lib.hid hxs
        have OR := Lib.hid (ownsRow_below hxs (below1 wi (.cells #[.int .i64 (-1), .slice none 0 0, .slice none 0 0, .slice none 0 0, .slice none 0 0, .slice none 0 0, .int .i64 0, .int .i64 0] 31)))
        have S1 := Lib.hid (show w.heap.size ≤ wi.heap.size from RV.out.below.size)
        clear hxs
        go_wp2_with (at_builtin; refine wpList_append_own_at _ rfl _ _ 29 rfl w.heap.size 31 i0 _ 8 144 Try.underlying29 hi0 hz0 hz1 hz2 rfl (by decide) _ k xs rfl OR.out ⟨wi.heap.size, 0, none⟩ 1 1 [.int .i64 (-1), .slice none 0 0, .slice none 0 0, .slice none 0 0, .slice none 0 0, .slice none 0 0, .int .i64 0, .int .i64 0] rfl rfl ?c1 ?c2 ?c3 ?c4 ?c5 ?_)
        case c1 =>
          intro j u hj
          have hlt : j < 8 := by have := (List.getElem?_eq_some_iff.1 hj).1; simpa using this
          rw [addr_add, Nat.zero_add]
          refine cellOf (blk_new wi _ rfl) ?_
          rw [← hj]
          rcases (show j = 0 ∨ j = 1 ∨ j = 2 ∨ j = 3 ∨ j = 4 ∨ j = 5 ∨ j = 6 ∨ j = 7 by omega) with rfl | rfl | rfl | rfl | rfl | rfl | rfl | rfl <;> rfl
        case c2 => intro u hu; simp only [List.mem_cons, List.not_mem_nil, or_false] at hu; rcases hu with rfl | rfl | rfl | rfl | rfl | rfl | rfl | rfl <;> rfl
        case c3 => unfold maxLen; omega
        case c4 => omega
        case c5 => have := S1.out; simp; omega
        intro v' w3 hown' hgrow _ hwh
        have NX := Lib.hid (RV.out.next HO.out (Nat.le_refl _) (Below.refl _ _) hgrow (fun ys hy => ownsRow_same XS.out hy ▸ hown') (by simpa using hwh))
        clear hown' hgrow hwh
        go_wp2
        go_roundw
        case rel => exact ⟨k + 1, by omega, by go_num, NX.out⟩
        case measure => simp [intOf]; omega
    · obtain rfl : k = M := by omega
      have hno := hM2.out k hlt hk
      by_cases hkn : k < n
      · have h40 : ¬ k ≤ 40 := fun h => hno ⟨hkn, h⟩
        clear hno
        go_wp2
        obtain ⟨F, h1, h2, h3⟩ := FIN.out _ _ RV.out
        go_ret
        exact ⟨_, F, rfl, h1, h2, h3, RV.out.below, by rw [HNn.out]; exact RV.out.row⟩
      · clear hno
        go_wp2
        obtain ⟨F, h1, h2, h3⟩ := FIN.out _ _ RV.out
        go_ret
        exact ⟨_, F, rfl, h1, h2, h3, RV.out.below, by rw [HNn.out]; exact RV.out.row⟩
noncomputable def lcR (parts : List Vec) (nm : List ByteArray) : Vec := .mk 4 [] (lcp parts) nm [] [] 0 0
theorem lcR_small {d : Nat} {parts : List Vec} {names : List ByteArray} (hsp : ∀ p ∈ parts, Small (d + 1) p) (lp : parts.length ≤ 1048576) (ln : names.length ≤ 1048576) (hns : ∀ s ∈ names, s.size ≤ 1048576) : Small (d + 1 + 1) (lcR parts (clnN names)) := by
  have h := clnN_sub names
  show Small (d + 1 + 1) (.mk 4 [] (lcp parts) (clnN names) [] [] 0 0)
  unfold Small
  refine ⟨Nat.zero_le _, by rw [lcp_len]; omega, Nat.le_trans h.1 ln, Nat.zero_le _, Nat.zero_le _, (fun _ h => by cases h), fun s hs => hns s (h.2 s hs), (fun _ h => by cases h), (fun _ h => by cases h), fun p hp => ?_⟩
  unfold lcp at hp
  obtain ⟨q, hq, rfl⟩ := List.mem_map.1 hp
  by_cases h3 : IsV 3 q
  · rw [lcF_yes h3]; exact hsp q (List.mem_of_mem_take hq)
  · rw [lcF_no h3]
    show Small (d + 1) (.mk (-1) [] [] [] [] [] 0 0)
    unfold Small
    exact ⟨Nat.zero_le _, Nat.zero_le _, Nat.zero_le _, Nat.zero_le _, Nat.zero_le _, (fun _ h => by cases h), (fun _ h => by cases h), (fun _ h => by cases h), (fun _ h => by cases h), (fun _ h => by cases h)⟩
set_option maxHeartbeats 4000000 in
theorem specList (d : Nat) (parts : List Vec) (names : List ByteArray) (pa na : Option Addr) (pc nc lo hi : Nat) (w : World) (hP : VecsAt lo hi w (d + 1) pa parts) (hN : TextsAt lo hi w na names) (hhi : hi ≤ w.heap.size) (hpc : parts.length ≤ pc) (hnc : names.length ≤ nc) (hsp : ∀ p ∈ parts, Small (d + 1) p) (lp : parts.length ≤ 1048576) (ln : names.length ≤ 1048576) (hns : ∀ s ∈ names, s.size ≤ 1048576) :
    Calls Try.prog 19 #[.slice pa parts.length pc, .slice na names.length nc] w (ResVS (d + 1 + 1) (lstV parts names) (lstS parts names) w) := by
  have SM := Lib.hid (lcR_small (names := names) hsp lp ln hns)
  have CC := Lib.hid (fun (W : World) (hb : Below w.heap.size w W) => specCopiesAny d parts pa pc lo hi W (hP.below hb hhi) (Nat.le_trans hhi hb.size) (fun i hi => hsp _ (by rw [List.getD_eq_getElem?_getD, List.getElem?_eq_getElem hi]; exact List.getElem_mem hi)) lp)
  have HN := Lib.hid (fun (W : World) (hb : Below w.heap.size w W) => hN.below hb hhi)
  have XY := Lib.hid (fun (h : ValidV (lcR parts (clnN names))) => (by
    have e := lst_fwd h
    have e2 : lcR parts (clnN names) = lstR parts names := by unfold lcR lstR; rw [e]
    rw [e2] at h ⊢
    exact lst_yes h : lstV parts names = lcR parts (clnN names) ∧ lstS parts names = ⟨#[]⟩))
  have XB := Lib.hid (fun (h : ¬ ValidV (lcR parts (clnN names))) => lst_no (parts := parts) (names := names) (fun h' => h (by
    have e := lst_bwd h'
    have e2 : lcR parts (clnN names) = lstR parts names := by unfold lcR lstR; rw [e]
    rw [e2]; exact h')))
  have UR := Lib.hid (show lcR parts (clnN names) = .mk 4 [] (lcp parts) (clnN names) [] [] 0 0 from rfl)
  obtain ⟨R, hR⟩ : ∃ R, lcR parts (clnN names) = R := ⟨_, rfl⟩
  rw [hR] at SM XY XB UR
  obtain ⟨Q, hQ⟩ : ∃ Q, lcp parts = Q := ⟨_, rfl⟩
  rw [hQ] at CC UR
  clear hR hQ hP hN hpc hnc hsp lp hns
  go_enter Try.func19, Try.ntmps19
  go_wp2_with fail
  obtain ⟨w1, hw1⟩ : ∃ W, w.alloc (.cells #[.int .i64 0, .slice none 0 0, .slice none 0 0, .slice none 0 0, .slice none 0 0, .slice none 0 0, .int .i64 0, .int .i64 0] 31) = W := ⟨_, rfl⟩
  have B1 := Lib.hid (show Below w.heap.size w w1 from hw1 ▸ below1 w _)
  have KR := Lib.hid (show w1.heap[w.heap.size]? = some (.cells #[.int .i64 0, .slice none 0 0, .slice none 0 0, .slice none 0 0, .slice none 0 0, .slice none 0 0, .int .i64 0, .int .i64 0] 31 (0, 0)) from hw1 ▸ blk_new w _ rfl)
  rw [hw1]
  clear hw1
  have hr1 := (Array.getElem?_eq_some_iff.1 KR.out).1
  refine (CC.out _ B1.out).mono ?_
  rintro e w2 ⟨v2, F, rfl, hop, hnd, hrg, b', xs, hxs⟩
  obtain ⟨X, hrx, hxn, hxf, hxo⟩ := hop.rowX hnd hxs
  obtain ⟨sp, qp, rfl⟩ := row_form hxs
  have U := Lib.hid ((Und.start w1.heap.size w1 (d + 1)).setP hrx (moved_new hxs) (fun g _ hg _ => b'.block g hg) b'.size hxn (fun g hg => ⟨.inr (hrg g (hxf g hg)).1, (hrg g (hxf g hg)).2⟩) (Nat.le_refl _) hxo)
  have BW := Lib.hid (below_then B1.out b')
  have KR := Lib.hid (blk_below b' KR.out)
  have SL := b'.size
  clear hop hnd hrg hxs hrx hxn hxf hxo b' CC
  obtain ⟨np, hnp⟩ : ∃ n, Q.length = n := ⟨_, rfl⟩
  rw [hnp] at U ⊢
  clear hnp
  obtain ⟨w3, hw3⟩ : ∃ W, w2.alloc (.cells #[] 9) = W := ⟨_, rfl⟩
  have B23 := Lib.hid (show Below w2.heap.size w2 w3 from hw3 ▸ below1 w2 _)
  have KS := Lib.hid (show w3.heap[w2.heap.size]? = some (.cells #[] 9 (0, 0)) from hw3 ▸ blk_new w2 _ rfl)
  have EW := Lib.hid hw3
  clear hw3
  go_wp2_with (at_builtin; go_loud (rw [EW.out]; refine wpList_copyTz (w0 := w2) rfl _ _ rfl _ rfl (.inr ⟨w2.heap.size, Nat.le_refl _, rfl, KS.out⟩) B23.out na nc names lo hi rfl (HN.out _ (below_then BW.out B23.out)) ln ?_))
  intro v' w4 tz
  obtain ⟨sn, nn, qn, rfl⟩ := tz.form
  obtain rfl : nn = names.length := by
    obtain ⟨_, ⟨e, h0⟩ | ⟨g, cap, cur, e, _⟩⟩ := tz.row
    · simp only [Value.slice.injEq] at e; omega
    · simp only [Value.slice.injEq] at e; exact e.2.1
  have U := Lib.hid (U.out.setN (row_lo tz.row SL) (moved_new tz.row) (fun g _ hg _ => tz.below.block g hg) tz.below.size)
  have TX := Lib.hid tz.texts
  have BW := Lib.hid (below_then BW.out tz.below)
  have KR := Lib.hid (blk_below tz.below KR.out)
  clear tz EW KS B23 SL
  have CLN := Lib.hid (fun (W : World) (hb : Below w4.heap.size w4 W) => specCleanN 4 0 0 none sp sn none none 0 0 np qp qn 0 0 0 0 names w2.heap.size w4.heap.size W (TX.out.below hb (Nat.le_refl _)) hb.size ln)
  go_wp2_with fail
  refine (CLN.out _ (Below.refl _ _)).mono ?_
  rintro e w6 ⟨b', hor⟩
  have BW := Lib.hid (below_then BW.out b')
  have KR := Lib.hid (blk_below b' KR.out)
  have U := Lib.hid (U.out.below b')
  have O := Lib.hid (U.out.own 4)
  clear b' CLN TX
  rcases hor with ⟨hex, rfl⟩ | ⟨hem, g, hg, rfl⟩
  · have EN := Lib.hid (clnN_yes (l := names) (by obtain ⟨i, h1, h2⟩ := hex; exact ⟨i, h1, fun h => h2 (empty_of_size h)⟩))
    rw [EN.out] at UR
    have O := Lib.hid (by have h := O.out; rw [← UR.out] at h; exact h)
    clear hex
    have FT := Lib.hid (specFit (d + 1 + 1) R _ 0 w6.heap.size w6 (O.out.vat (Nat.le_refl _)) (Nat.le_refl _) SM.out)
    clear U EN
    go_wp2_with fail
    refine FT.out.mono ?_
    rintro e w7 ⟨b7, hor⟩
    have B7 := Lib.hid (below_then BW.out b7)
    have KR := Lib.hid (blk_below b7 KR.out)
    have O := Lib.hid (O.out.below b7 (Nat.le_refl _))
    have h76 := b7.size
    clear b7 FT
    rcases hor with ⟨hvr, rfl⟩ | ⟨hvr, rfl⟩
    · obtain ⟨x1, x2⟩ := XY.out hvr
      have XV1 := Lib.hid x1
      have XS1 := Lib.hid x2
      clear x1 x2 XY XB
      go_upto_region 2 with (fail)
      obtain ⟨w8, hw8⟩ : ∃ W, w7.alloc (.cells #[.int .i64 4, .slice none 0 0, .slice sp np qp, .slice sn names.length qn, .slice none 0 0, .slice none 0 0, .int .i64 0, .int .i64 0] 31) = W := ⟨_, rfl⟩
      have N8 := Lib.hid (show w8.heap[w7.heap.size]? = some (.cells #[.int .i64 4, .slice none 0 0, .slice sp np qp, .slice sn names.length qn, .slice none 0 0, .slice none 0 0, .int .i64 0, .int .i64 0] 31 (0, 0)) from hw8 ▸ blk_new w7 _ rfl)
      have B78 := Lib.hid (show Below w7.heap.size w7 w8 from hw8 ▸ below1 w7 _)
      have B8 := Lib.hid (below_then B7.out B78.out)
      have KR := Lib.hid (blk_below B78.out KR.out)
      have hs8 := B78.out.size
      rw [hw8]
      clear hw8
      obtain ⟨n0, n1, n2, n3, n4, n5, n6, n7⟩ := vec8 N8.out
      obtain ⟨z0, z1, z2, z3, z4, z5, z6, z7⟩ := vec8 KR.out
      obtain ⟨f0, f1, f2, f3, f4, f5, f6, f7⟩ := free8 KR.out
      go_wp2
      rw [XV1.out, XS1.out]
      exact vec_endS rfl rfl rfl rfl KR.out ⟨_, rfl, ((O.out.below B78.out (by omega)).put8 (by omega) _ _ _ _ _ _ _ _).wide (by omega) (by rw [put8_size]; omega), put8_below B8.out (Nat.le_refl _)⟩
    · obtain ⟨x1, x2⟩ := XB.out hvr
      have XV1 := Lib.hid x1
      have XS1 := Lib.hid x2
      clear x1 x2 XY XB
      go_upto_region 2 with (fail)
      obtain ⟨w8, hw8⟩ : ∃ W, w7.alloc (.cells #[.int .i64 0, .slice none 0 0, .slice none 0 0, .slice none 0 0, .slice none 0 0, .slice none 0 0, .int .i64 0, .int .i64 0] 31) = W := ⟨_, rfl⟩
      have N8 := Lib.hid (show w8.heap[w7.heap.size]? = some (.cells #[.int .i64 0, .slice none 0 0, .slice none 0 0, .slice none 0 0, .slice none 0 0, .slice none 0 0, .int .i64 0, .int .i64 0] 31 (0, 0)) from hw8 ▸ blk_new w7 _ rfl)
      have B78 := Lib.hid (show Below w7.heap.size w7 w8 from hw8 ▸ below1 w7 _)
      have B8 := Lib.hid (below_then B7.out B78.out)
      have KR := Lib.hid (blk_below B78.out KR.out)
      have hs8 := B78.out.size
      rw [hw8]
      clear hw8
      obtain ⟨n0, n1, n2, n3, n4, n5, n6, n7⟩ := vec8 N8.out
      obtain ⟨z0, z1, z2, z3, z4, z5, z6, z7⟩ := vec8 KR.out
      obtain ⟨f0, f1, f2, f3, f4, f5, f6, f7⟩ := free8 KR.out
      go_wp2
      rw [XV1.out, XS1.out]
      exact vec_endS rfl rfl rfl rfl KR.out (zeroSD _ _ w _ (put8_below B8.out (Nat.le_refl _)))
  · have EN := Lib.hid (clnN_no (l := names) (fun ⟨i, h1, h2⟩ => h2 (show (txtS _ i).size = 0 by rw [hem i h1]; rfl)))
    rw [EN.out] at UR
    have O := Lib.hid (by have h := O.out.noNames (some ⟨g, 0, none⟩) 0; rw [← UR.out] at h; exact h)
    clear hem hg
    have FT := Lib.hid (specFit (d + 1 + 1) R _ 0 w6.heap.size w6 (O.out.vat (Nat.le_refl _)) (Nat.le_refl _) SM.out)
    clear U EN
    go_wp2_with fail
    refine FT.out.mono ?_
    rintro e w7 ⟨b7, hor⟩
    have B7 := Lib.hid (below_then BW.out b7)
    have KR := Lib.hid (blk_below b7 KR.out)
    have O := Lib.hid (O.out.below b7 (Nat.le_refl _))
    have h76 := b7.size
    clear b7 FT
    rcases hor with ⟨hvr, rfl⟩ | ⟨hvr, rfl⟩
    · obtain ⟨x1, x2⟩ := XY.out hvr
      have XV1 := Lib.hid x1
      have XS1 := Lib.hid x2
      clear x1 x2 XY XB
      go_upto_region 2 with (fail)
      obtain ⟨w8, hw8⟩ : ∃ W, w7.alloc (.cells #[.int .i64 4, .slice none 0 0, .slice sp np qp, .slice (some ⟨g, 0, none⟩) 0 0, .slice none 0 0, .slice none 0 0, .int .i64 0, .int .i64 0] 31) = W := ⟨_, rfl⟩
      have N8 := Lib.hid (show w8.heap[w7.heap.size]? = some (.cells #[.int .i64 4, .slice none 0 0, .slice sp np qp, .slice (some ⟨g, 0, none⟩) 0 0, .slice none 0 0, .slice none 0 0, .int .i64 0, .int .i64 0] 31 (0, 0)) from hw8 ▸ blk_new w7 _ rfl)
      have B78 := Lib.hid (show Below w7.heap.size w7 w8 from hw8 ▸ below1 w7 _)
      have B8 := Lib.hid (below_then B7.out B78.out)
      have KR := Lib.hid (blk_below B78.out KR.out)
      have hs8 := B78.out.size
      rw [hw8]
      clear hw8
      obtain ⟨n0, n1, n2, n3, n4, n5, n6, n7⟩ := vec8 N8.out
      obtain ⟨z0, z1, z2, z3, z4, z5, z6, z7⟩ := vec8 KR.out
      obtain ⟨f0, f1, f2, f3, f4, f5, f6, f7⟩ := free8 KR.out
      go_wp2
      rw [XV1.out, XS1.out]
      exact vec_endS rfl rfl rfl rfl KR.out ⟨_, rfl, ((O.out.below B78.out (by omega)).put8 (by omega) _ _ _ _ _ _ _ _).wide (by omega) (by rw [put8_size]; omega), put8_below B8.out (Nat.le_refl _)⟩
    · obtain ⟨x1, x2⟩ := XB.out hvr
      have XV1 := Lib.hid x1
      have XS1 := Lib.hid x2
      clear x1 x2 XY XB
      go_upto_region 2 with (fail)
      obtain ⟨w8, hw8⟩ : ∃ W, w7.alloc (.cells #[.int .i64 0, .slice none 0 0, .slice none 0 0, .slice none 0 0, .slice none 0 0, .slice none 0 0, .int .i64 0, .int .i64 0] 31) = W := ⟨_, rfl⟩
      have N8 := Lib.hid (show w8.heap[w7.heap.size]? = some (.cells #[.int .i64 0, .slice none 0 0, .slice none 0 0, .slice none 0 0, .slice none 0 0, .slice none 0 0, .int .i64 0, .int .i64 0] 31 (0, 0)) from hw8 ▸ blk_new w7 _ rfl)
      have B78 := Lib.hid (show Below w7.heap.size w7 w8 from hw8 ▸ below1 w7 _)
      have B8 := Lib.hid (below_then B7.out B78.out)
      have KR := Lib.hid (blk_below B78.out KR.out)
      have hs8 := B78.out.size
      rw [hw8]
      clear hw8
      obtain ⟨n0, n1, n2, n3, n4, n5, n6, n7⟩ := vec8 N8.out
      obtain ⟨z0, z1, z2, z3, z4, z5, z6, z7⟩ := vec8 KR.out
      obtain ⟨f0, f1, f2, f3, f4, f5, f6, f7⟩ := free8 KR.out
      go_wp2
      rw [XV1.out, XS1.out]
      exact vec_endS rfl rfl rfl rfl KR.out (zeroSD _ _ w _ (put8_below B8.out (Nat.le_refl _)))
end Go.Proofs.Ytfbpbpbmnieieaa

/- Lists of vectors in laws. -/
namespace Go.Proofs.Ytfbpbpbmnieieaa
open Go.RowKit
set_option maxRecDepth 100000
set_option linter.unusedVariables false

/-- A list of vectors in blocks of its own, within lo .. hi. -/
structure OwnL (d : Nat) (l : List Vec) (a : Option Addr) (lo hi : Nat) (w : World) : Prop where
  out : ∃ F, OwnPs w d a l F ∧ F.Nodup ∧ ∀ b ∈ F, lo ≤ b ∧ b < hi
theorem OwnL.below {d : Nat} {l : List Vec} {a : Option Addr} {lo hi : Nat} {w w' : World} (h : OwnL d l a lo hi w) (hb : Below w.heap.size w w') (hh : hi ≤ w.heap.size) : OwnL d l a lo hi w' := by
  obtain ⟨F, h1, h2, h3⟩ := h.out
  exact ⟨F, h1.kept (fun b hm => hb.block b (by have := h3 b hm; omega)), h2, h3⟩
theorem OwnL.within {d : Nat} {l : List Vec} {a : Option Addr} {lo hi lo' hi' : Nat} {w w' : World} (h : OwnL d l a lo hi w) (k : Within lo' hi' w w') (hr : hi ≤ lo' ∨ hi' ≤ lo) (hh : hi ≤ w.heap.size) : OwnL d l a lo hi w' := by
  obtain ⟨F, h1, h2, h3⟩ := h.out
  exact ⟨F, h1.kept (fun b hm => k.block b (by have := h3 b hm; omega) (by have := h3 b hm; omega)), h2, h3⟩
theorem OwnL.at_ {d : Nat} {l : List Vec} {a : Option Addr} {lo hi : Nat} {w : World} (h : OwnL d l a lo hi w) {H : Nat} (hh : hi ≤ H) : VecsAt 0 H w d a l := by
  obtain ⟨F, h1, _, h3⟩ := h.out
  intro i p hp
  obtain ⟨hi', rfl⟩ := List.getElem?_eq_some_iff.1 hp
  rcases h1 with ⟨rfl, _⟩ | ⟨b, C, Fs, rfl, hl, e', hb, hc, hps⟩
  · cases hi'
  · obtain ⟨val, hv, c0, c1, c2, c3, c4, c5, c6, c7, rfl, m0, m1, m2, m3, m4, m5, m6, m7⟩ := hps i hi'
    have e1 : l.getD i noV = l[i] := by simp [List.getD_eq_getElem?_getD, List.getElem?_eq_getElem hi']
    rw [e1] at hv
    have hbb := h3 b (by simp)
    refine ⟨b, 0, c0, c1, c2, c3, c4, c5, c6, c7, e', Nat.zero_le _, by omega, hv.vecAt _ _ _ _ (fun b' hb' => by have := h3 b' (List.mem_cons_of_mem _ (mem_flat (by omega) hb')); omega), ?_⟩
    rw [Nat.zero_add]
    exact ⟨cellOf hb m0, cellOf hb m1, cellOf hb m2, cellOf hb m3, cellOf hb m4, cellOf hb m5, cellOf hb m6, cellOf hb m7⟩
theorem toVecsR (d : Nat) (l : List Vec) (a : Option Addr) (cap lo hi : Nat) (w : World) (hs : VecsAt lo hi w d a l) (hhi : hi ≤ w.heap.size) (hsm : ∀ i, i < l.length → Small d (l.getD i noV)) (hn : l.length ≤ 1048576) :
    Calls Try.prog 20 #[.slice a l.length cap] w fun e w' => ∃ x, e = .returned (.slice x l.length l.length) ∧ OwnL d l x w.heap.size w'.heap.size w' ∧ Below w.heap.size w w' := by
  refine (toParts d (toAll d) l a cap lo hi w hs hhi hsm hn).mono ?_
  rintro e w' ⟨Fs, rfl, ⟨C, hC, hsz, hl, hp⟩, hnd, hF, hb, hlt⟩
  refine ⟨_, rfl, ⟨w.heap.size :: Fs.flatten, .inr ⟨w.heap.size, C, Fs, rfl, hl, rfl, hC, by omega, hp⟩, ?_, fun b hb' => ?_⟩, hb⟩
  · rw [List.nodup_cons]
    exact ⟨fun h => by have := hF _ h; omega, hnd⟩
  · rcases List.mem_cons.1 hb' with rfl | h
    · exact ⟨Nat.le_refl _, hlt⟩
    · have := hF b h; omega
theorem markVecsR (d : Nat) (l : List Vec) (a : Option Addr) (c k : Nat) (lo hi : Nat) (w : World) (h : OwnL d l a lo hi w) (hh : hi ≤ w.heap.size) (hn : l.length ≤ 1048576) (hsm : ∀ i, i < l.length → Small d (l.getD i noV)) (h1 : 1 ≤ k) (hk : k + cntP d l l.length ≤ 8000000) :
    Calls Try.prog 25 #[.slice a l.length c, .int .i64 k] w fun e w' => e = .returned (.int .i64 ((k : Int) + (cntP d l l.length : Int))) ∧ Within lo hi w w' := by
  obtain ⟨F, h2, h3, h4⟩ := h.out
  refine ((mpAll d).out l a c k F w h2 h3 (fun b hb => by have := h4 b hb; omega) hn hsm h1 hk).mono ?_
  rintro e w' ⟨rfl, _, t⟩
  exact ⟨rfl, t.within h4⟩
theorem texts_of_strs {B : Nat} {w : World} {a : Option Addr} {n : Nat} {f : Nat → ByteArray} (h : StrsAt B w a n f) : TextsAt 0 B w a ((List.range n).map f) := by
  intro i x hx
  rw [List.getElem?_map] at hx
  obtain ⟨k, hk, rfl⟩ := Option.map_eq_some_iff.1 hx
  obtain ⟨hlt, e⟩ := List.getElem?_eq_some_iff.1 hk
  have hlt' : i < n := by simpa using hlt
  obtain rfl : i = k := by simpa using e
  obtain ⟨b, off, e, h1, h2⟩ := h i hlt'
  exact ⟨b, off, e, Nat.zero_le _, h1, h2⟩
theorem VecsAt.more {lo hi : Nat} {w : World} {d : Nat} {a : Option Addr} {l : List Vec} (h : VecsAt lo hi w d a l) : VecsAt lo hi w (d + 1) a l := by
  intro i p hp
  obtain ⟨b, off, c0, c1, c2, c3, c4, c5, c6, c7, e, g0, g1, hv, m⟩ := h i p hp
  exact ⟨b, off, c0, c1, c2, c3, c4, c5, c6, c7, e, g0, g1, VecAt.more d p _ hv, m⟩
end Go.Proofs.Ytfbpbpbmnieieaa

/- A list of vectors that came in. -/
namespace Go.Proofs.Ytfbpbpbmnieieaa
open Go.ChangeShapes Go.WideShapes Go.RowKit Go.Deep
open Go.ChangeMaps (open_string shut_string)
set_option maxRecDepth 100000
set_option linter.unusedVariables false

section
variable {H : Type} {enc : TypeId × Value → H} {W : World} {base : Nat} {sp : Nat → Bool} {held : Bool}
theorem vecs_in {b0 : Nat} {r : Reach} {v : Value} {dt : DataW H} {p : List MemPlace} (hv : Value.okWide Try.prog W r b0 23 v) (h : DataW.Trod enc Try.prog W base sp held 23 v dt p) :
    ∃ (d : Nat) (l : List Vec) (a : Option Addr) (cap : Nat), v = .slice a l.length cap ∧ VecsAt 0 W.heap.size W d a l ∧ l.length ≤ maxLen ∧ ∀ q ∈ l, Fits d q := by
  obtain ⟨ap, n, cp, rfl⟩ := okWide_slice Try.underlying23 hv
  obtain ⟨fuel, t2⟩ := h
  obtain ⟨hn, hi⟩ := open_structs Try.underlying23 Try.underlying26 (by kernel_rfl) (by kernel_rfl) (by decide) t2
  obtain ⟨parts, hl, hp⟩ := list_of (fun i (p : Vec) => (∃ b off u0 u1 u2 u3 u4 u5 u6 u7, ap = some ⟨b, off, none⟩ ∧ 0 ≤ b ∧ b < W.heap.size ∧ VecAt 0 W.heap.size W fuel p (.agg #[u0, u1, u2, u3, u4, u5, u6, u7]) ∧
      W.cell? ⟨b, off + i * 8, none⟩ = some u0 ∧ W.cell? ⟨b, off + i * 8 + 1, none⟩ = some u1 ∧ W.cell? ⟨b, off + i * 8 + 2, none⟩ = some u2 ∧ W.cell? ⟨b, off + i * 8 + 3, none⟩ = some u3 ∧ W.cell? ⟨b, off + i * 8 + 4, none⟩ = some u4 ∧ W.cell? ⟨b, off + i * 8 + 5, none⟩ = some u5 ∧ W.cell? ⟨b, off + i * 8 + 6, none⟩ = some u6 ∧ W.cell? ⟨b, off + i * 8 + 7, none⟩ = some u7) ∧ Fits fuel p) n (by
    intro i hin
    obtain ⟨b, o, m, hm, ha, hb, hf⟩ := hi i hin
    obtain ⟨v0, z0, q0, s0⟩ := hf 0 _ rfl
    obtain ⟨v1, z1, q1, s1⟩ := hf 1 _ rfl
    obtain ⟨v2, z2, q2, s2⟩ := hf 2 _ rfl
    obtain ⟨v3, z3, q3, s3⟩ := hf 3 _ rfl
    obtain ⟨v4, z4, q4, s4⟩ := hf 4 _ rfl
    obtain ⟨v5, z5, q5, s5⟩ := hf 5 _ rfl
    obtain ⟨v6, z6, q6, s6⟩ := hf 6 _ rfl
    obtain ⟨v7, z7, q7, s7⟩ := hf 7 _ rfl
    obtain ⟨v, hv, hfit⟩ := vec_fields m v0 v1 v2 v3 v4 v5 v6 v7 _ _ _ _ _ _ _ _ s0 s1 s2 s3 s4 s5 s6 s7
    exact ⟨v, ⟨b, o, v0, v1, v2, v3, v4, v5, v6, v7, ha, Nat.zero_le _, hb, hv.le (by omega), q0, q1, q2, q3, q4, q5, q6, q7⟩, hfit.le (by omega)⟩)
  subst hl
  refine ⟨fuel, parts, ap, cp, rfl, (fun i p hp' => (hp i p hp').1), hn, fun q hq => ?_⟩
  obtain ⟨i, hi'⟩ := List.getElem?_of_mem hq
  exact (hp i q hi').2
end
end Go.Proofs.Ytfbpbpbmnieieaa
