/- DuplicatedIn on both sides. -/
import Derived.Test.YtfbpbpbmnieieaaRows
import Derived.Test.YtfbpbpbmnieieaaMg1
import Derived.Test.YtfbpbpbmnieieaaNumMath
import Derived.Test.YtfbpbpbmnieieaaNumKit
import Derived.Test.YtfbpbpbmnieieaaNumMake
import Derived.IntWalk
import Derived.WalkKit
import Derived.OwnWalk
import Derived.Deep.DeepCutAuto
import Derived.Lib.Hide
import Derived.Laws.EntriesVeiled
import Derived.WalkSpells
import Derived.WalkLawsBesides
import Derived.Deep.RegionWith
import Derived.StillTailTactics
import Derived.RegionTactic
import Derived.Lib.Bytealg
namespace Go.Proofs.Ytfbpbpbmnieieaa
open Go.RowKit
set_option maxRecDepth 100000
set_option linter.unusedVariables false

noncomputable def dupZ (l : List It) (i : Nat) : Int := match bB (DupAt l i) with | true => 1 | false => 0
/-- Which elements are duplicates. -/
noncomputable def dupV (v : Vec) : Vec := match bB (atmS v = ⟨#[]⟩) with | true => mkN 1 (itF (fun i => logI (dupZ (itemsV v) i)) (itemsV v).length) [] | false => noV
theorem dupV_yes {v : Vec} (h : atmS v = ⟨#[]⟩) : dupV v = mkN 1 (itF (fun i => logI (dupZ (itemsV v) i)) (itemsV v).length) [] := by unfold dupV; rw [bB_yes h]
theorem dupV_no {v : Vec} (h : ¬ atmS v = ⟨#[]⟩) : dupV v = noV := by unfold dupV; rw [bB_no h]
theorem atm_len {v : Vec} (h : atmS v = ⟨#[]⟩) : (itemsV v).length ≤ 40 := by
  obtain ⟨h1, h2⟩ := atmS_iff.1 h
  obtain ⟨k, items, parts, names, cls, levels, code, env⟩ := v
  have hf : FlatOk k items parts.length names cls levels code env := h1.1.flat
  have h3 := hf.h_len
  have h4 : k ≤ 3 := h2
  unfold lenV at h3
  rw [if_neg (by omega)] at h3
  show items.length ≤ 40
  omega
/-- The argument's block beside those of a loop that appends. -/
theorem AppN.far1 {w wr : World} {r b : Nat} {kind : Int} {l : List It} {sa : Option Addr} {sn sc : Nat} {names : List ByteArray} {na : Option Addr} {nc : Nat} {F : List Nat} (h : AppN w wr r b kind l sa sn sc names na nc F) {g : Nat} (hg : g ≤ b) {t : TypeId} {C C1 C2 : Array Value} {q : Nat × TypeId × Array Value} (hq : q ∈ [(g, t, C), (r, 31, C1), (b, 31, C2)]) : ∀ k, (Value.slice sa sn sc).ownBlock = some k → q.1 ≠ k := by
  intro k hk e
  have h1 := h.row.lt k hk
  have h2 := h.o2
  simp only [List.mem_cons, List.not_mem_nil, or_false] at hq
  rcases hq with rfl | rfl | rfl <;> (simp only at e; omega)
set_option maxHeartbeats 4000000 in
theorem implDup (d : Nat) (v : Vec) (val : Value) (lo hi : Nat) (w : World) (hv : VecAt lo hi w d v val) (hhi : hi ≤ w.heap.size) (hsm : Small d v) :
    Calls Try.prog 30 #[val] w (ResVS 1 (dupV v) (atmS v) w) := by
  obtain ⟨VV, hVV⟩ : ∃ V, v = V := ⟨_, rfl⟩
  rw [hVV]
  obtain ⟨kk, items, parts, names, cls, levels, code, env⟩ := v
  obtain ⟨d', ai, ci, ap, cp, an, cn, ac, cc, al, cl, ed, rfl, hI, hN, hC, hL, hP, hcap⟩ := vecAt_openC hv
  have C1 := Lib.hid (fun (w1 : World) (hb : Below w.heap.size w w1) (g : Nat) (hg : w1.heap[g]? = some (.cells #[.int .i64 kk, .slice ai items.length ci, .slice ap parts.length cp, .slice an names.length cn, .slice ac cls.length cc, .slice al levels.length cl, .int .i64 code, .int .i64 env] 31 (0, 0))) => (hVV ▸ implAtm1 d kk items parts names cls levels code env ai ap an ac al ci cp cn cc cl g lo hi w1 (hv.below hb hhi) (Nat.le_trans hhi hb.size) hsm hg : Calls Try.prog 66 #[.slice (some ⟨g, 0, none⟩) 1 1] w1 (fun e w' => e = .returned (.string (atmS VV)) ∧ Below w1.heap.size w1 w')))
  have li : items.length ≤ 1048576 := by subst ed; exact hsm.1
  have hic : items.length ≤ ci := hcap.1
  have CD := Lib.hid (fun (k : Nat) (hk : k < items.length) (w1 : World) (hb : Below w.heap.size w w1) => implIsDup items k ai ci lo hi w1 (hI.below hb hhi) (Nat.le_trans hhi hb.size) li hic hk)
  have CT := Lib.hid (fun (k : Nat) (W : World) => (implTruthItem (bB (DupAt items k)) W : Calls Try.prog 67 #[.bool (bB (DupAt items k))] W (fun e w' => e = .returned (.agg #[.int .i64 (logI (dupZ items k)).n, .int .i64 (logI (dupZ items k)).d, .string (logI (dupZ items k)).t]) ∧ Below W.heap.size W w')))
  have XV := Lib.hid (fun (h : atmS VV = ⟨#[]⟩) => (by have e := dupV_yes h; rw [← hVV] at e ⊢; exact e : dupV VV = mkN 1 (itF (fun i => logI (dupZ items i)) items.length) []))
  have XL := Lib.hid (fun (h : atmS VV = ⟨#[]⟩) => (by have e := atm_len h; rw [← hVV] at e; exact e : items.length ≤ 40))
  obtain ⟨n, hn⟩ : ∃ n, items.length = n := ⟨_, rfl⟩
  rw [hn] at C1 CD XV XL li hic ⊢
  clear hv hI hN hC hL hP hsm ed hVV hcap hn
  go_enter Try.func30, Try.ntmps30
  go_wp2_with fail
  obtain ⟨w1, hw1⟩ : ∃ W, ((w.alloc (.cells #[.int .i64 kk, .slice ai n ci, .slice ap parts.length cp, .slice an names.length cn, .slice ac cls.length cc, .slice al levels.length cl, .int .i64 code, .int .i64 env] 31)).alloc (.cells #[.int .i64 0, .slice none 0 0, .slice none 0 0, .slice none 0 0, .slice none 0 0, .slice none 0 0, .int .i64 0, .int .i64 0] 31)).alloc (.cells #[.int .i64 kk, .slice ai n ci, .slice ap parts.length cp, .slice an names.length cn, .slice ac cls.length cc, .slice al levels.length cl, .int .i64 code, .int .i64 env] 31) = W := ⟨_, rfl⟩
  have hsz : (w.alloc (.cells #[.int .i64 kk, .slice ai n ci, .slice ap parts.length cp, .slice an names.length cn, .slice ac cls.length cc, .slice al levels.length cl, .int .i64 code, .int .i64 env] 31)).heap.size = w.heap.size + 1 := by simp
  have hsz2 : ((w.alloc (.cells #[.int .i64 kk, .slice ai n ci, .slice ap parts.length cp, .slice an names.length cn, .slice ac cls.length cc, .slice al levels.length cl, .int .i64 code, .int .i64 env] 31)).alloc (.cells #[.int .i64 0, .slice none 0 0, .slice none 0 0, .slice none 0 0, .slice none 0 0, .slice none 0 0, .int .i64 0, .int .i64 0] 31)).heap.size = w.heap.size + 1 + 1 := by simp
  have B1 := Lib.hid (show Below w.heap.size w w1 from hw1 ▸ ((below1 w _).alloc (by simp) _).alloc (by simp; omega) _)
  have KA := Lib.hid (show w1.heap[w.heap.size]? = some (.cells #[.int .i64 kk, .slice ai n ci, .slice ap parts.length cp, .slice an names.length cn, .slice ac cls.length cc, .slice al levels.length cl, .int .i64 code, .int .i64 env] 31 (0, 0)) from hw1 ▸ blk_old (blk_old (blk_new w _ rfl)))
  have KR := Lib.hid (show w1.heap[w.heap.size + 1]? = some (.cells #[.int .i64 0, .slice none 0 0, .slice none 0 0, .slice none 0 0, .slice none 0 0, .slice none 0 0, .int .i64 0, .int .i64 0] 31 (0, 0)) from hw1 ▸ blk_old (hsz ▸ blk_new (w.alloc (.cells #[.int .i64 kk, .slice ai n ci, .slice ap parts.length cp, .slice an names.length cn, .slice ac cls.length cc, .slice al levels.length cl, .int .i64 code, .int .i64 env] 31)) (.cells #[.int .i64 0, .slice none 0 0, .slice none 0 0, .slice none 0 0, .slice none 0 0, .slice none 0 0, .int .i64 0, .int .i64 0] 31) rfl))
  have KL := Lib.hid (show w1.heap[w.heap.size + 1 + 1]? = some (.cells #[.int .i64 kk, .slice ai n ci, .slice ap parts.length cp, .slice an names.length cn, .slice ac cls.length cc, .slice al levels.length cl, .int .i64 code, .int .i64 env] 31 (0, 0)) from hw1 ▸ hsz2 ▸ blk_new ((w.alloc (.cells #[.int .i64 kk, .slice ai n ci, .slice ap parts.length cp, .slice an names.length cn, .slice ac cls.length cc, .slice al levels.length cl, .int .i64 code, .int .i64 env] 31)).alloc (.cells #[.int .i64 0, .slice none 0 0, .slice none 0 0, .slice none 0 0, .slice none 0 0, .slice none 0 0, .int .i64 0, .int .i64 0] 31)) (.cells #[.int .i64 kk, .slice ai n ci, .slice ap parts.length cp, .slice an names.length cn, .slice ac cls.length cc, .slice al levels.length cl, .int .i64 code, .int .i64 env] 31) rfl)
  rw [hw1]
  clear hw1 hsz hsz2
  refine (C1.out _ B1.out _ KL.out).mono ?_
  rintro e w2 ⟨rfl, b⟩
  have B2 := Lib.hid (below_then B1.out b)
  have KA := Lib.hid (blk_below b KA.out)
  have KR := Lib.hid (blk_below b KR.out)
  clear b KL
  by_cases hs : atmS VV = ⟨#[]⟩
  · have XV1 := Lib.hid (XV.out hs)
    have XS1 := Lib.hid hs
    have hl := XL.out hs
    rw [hs]
    have hltR := (Array.getElem?_eq_some_iff.1 KR.out).1
    have hltA := (Array.getElem?_eq_some_iff.1 KA.out).1
    have ST := Lib.hid (show AppN w (w2.alloc (.cells #[.int .i64 1, .slice none 0 0, .slice none 0 0, .slice none 0 0, .slice none 0 0, .slice none 0 0, .int .i64 0, .int .i64 0] 31)) (w.heap.size + 1) w2.heap.size 1 (itF (fun i => logI (dupZ items i)) 0) none 0 0 [] none 0 [] from
      ⟨blk_old KR.out, blk_new w2 _ rfl, ⟨rfl, .inl ⟨rfl, rfl⟩⟩, .inl ⟨rfl, rfl⟩, Nat.le_refl _, List.nodup_nil, (fun g hg => by cases hg), B2.out.alloc B2.out.size _, by omega, hltR⟩)
    have SK := Lib.hid (show (w2.alloc (.cells #[.int .i64 1, .slice none 0 0, .slice none 0 0, .slice none 0 0, .slice none 0 0, .slice none 0 0, .int .i64 0, .int .i64 0] 31)).heap[w.heap.size]? = some (.cells #[.int .i64 kk, .slice ai n ci, .slice ap parts.length cp, .slice an names.length cn, .slice ac cls.length cc, .slice al levels.length cl, .int .i64 code, .int .i64 env] 31 (0, 0)) from blk_old KA.out)
    obtain ⟨k0, k1, k2, k3, k4, k5, k6, k7⟩ := vec8 KA.out
    clear hs XV XL
    go_wp2
    clear k0 k1 k2 k3 k4 k5 k6 k7
    obtain ⟨b, hb⟩ : ∃ b, w2.heap.size = b := ⟨_, rfl⟩
    rw [hb] at ST hltR ⊢
    clear hb
    go_loopw [18] (fun i wr => ∃ (k : Nat) (sa : Option Addr) (sn sc : Nat), k ≤ n ∧ i = .int .i64 k ∧ AppN w wr (w.heap.size + 1) b 1 (itF (fun i => logI (dupZ items i)) k) sa sn sc [] none 0 [] ∧ wr.heap[w.heap.size]? = some (.cells #[.int .i64 kk, .slice ai n ci, .slice ap parts.length cp, .slice an names.length cn, .slice ac cls.length cc, .slice al levels.length cl, .int .i64 code, .int .i64 env] 31 (0, 0))) (fun i _ => n - (intOf i).toNat)
    case atStart => exact ⟨0, none, 0, 0, Nat.zero_le _, rfl, ST.out, SK.out⟩
    case round =>
      obtain ⟨k, sa, sn, sc, hk, rfl, hap, hka⟩ := hrel
      have AP := Lib.hid hap
      have KA := Lib.hid hka
      clear hap hka
      by_cases hlt : k < n
      · have CD := Lib.hid (fun w1 hb => CD.out k hlt w1 hb)
        have CT := Lib.hid (fun W => CT.out k W)
        have LN := Lib.hid (show (itF (fun i => logI (dupZ items i)) k).length ≤ 1048576 by rw [itF_len]; omega)
        have NX := Lib.hid (itF_succ (fun i => logI (dupZ items i)) k)
        have FAR := Lib.hid (fun C1 C2 C q hq => AP.out.far1 (g := w.heap.size) (t := 31) (C := C) (C1 := C1) (C2 := C2) (q := q) (by omega) hq)
        have W0 := Lib.hid (show w.heap.size ≤ b + 1 by omega)
        have B0' := Lib.hid (show w.heap.size ≤ b by omega)
        have H := Lib.hid (heldC_cons AP.out.heldC KA.out)
        clear XV1 XS1
        go_wp2
        refine run_region (ops := (opsOf Try.f30 8)) (S := fun w' => HeldC w w' ([(w.heap.size, 31, #[.int .i64 kk, .slice ai n ci, .slice ap parts.length cp, .slice an names.length cn, .slice ac cls.length cc, .slice al levels.length cl, .int .i64 code, .int .i64 env]), ((w.heap.size + 1), 31, #[.int .i64 0, .slice none 0 0, .slice none 0 0, .slice none 0 0, .slice none 0 0, .slice none 0 0, .int .i64 0, .int .i64 0]), (b, 31, #[.int .i64 1, .slice sa sn sc, .slice none 0 0, .slice none 0 0, .slice none 0 0, .slice none 0 0, .int .i64 0, .int .i64 0])])) [(0, true), (1, true), (2, true), (3, true), (4, true), (5, false), (6, false), (7, false), (8, false), (9, true), (10, false)] (by kernel_rfl) (by kernel_rfl) (by kernel_rfl) (by kernel_rfl) (by kernel_rfl) (fun _ _ _ _ _ h => h) (heldC_drew H.out) ?_
        have H := Lib.hid (heldC_drew H.out)
        have AP := Lib.hid (AP.out.keep (below_drew' (Below.refl _ _)))
        refine runC_partV (b := b) (by kernel_rfl) (show opAt (opsOf Try.f30 8) 0 = some (some 21, .fieldAddr 31 (.tmp 5) 1, none) from by kernel_rfl) (by kernel_rfl) (by kernel_rfl) (by kernel_rfl) ?_
        refine runC_cell (b := b) (j := 1) (v := .slice sa sn sc) load_its (show opAt (opsOf Try.f30 8) 1 = some (some 22, .load 28 (.tmp 21), none) from by kernel_rfl) (by kernel_rfl) (by kernel_rfl) (by kernel_rfl) (List.Mem.tail _ (List.Mem.tail _ (List.Mem.head _))) rfl ?_
        refine runC_partV (b := w.heap.size) (by kernel_rfl) (show opAt (opsOf Try.f30 8) 2 = some (some 23, .fieldAddr 31 (.tmp 1) 1, none) from by kernel_rfl) (by kernel_rfl) (by kernel_rfl) (by kernel_rfl) ?_
        refine runC_cell (b := w.heap.size) (j := 1) (v := .slice ai n ci) load_its (show opAt (opsOf Try.f30 8) 3 = some (some 24, .load 28 (.tmp 23), none) from by kernel_rfl) (by kernel_rfl) (by kernel_rfl) (by kernel_rfl) (List.Mem.head _) rfl ?_
        refine run_mov (v := .int .i64 ((k : Int))) (show opAt (opsOf Try.f30 8) 4 = some (some 25, .move (.tmp 6), none) from by kernel_rfl) (by kernel_rfl) (by kernel_rfl) (by kernel_rfl) ?_
        refine run_call (args := [.slice ai n ci, .int .i64 ((k : Int))]) (show opAt (opsOf Try.f30 8) 5 = some (some 26, .call { callee := .value (.func 68), args := [(.tmp 24), (.tmp 25)].toArray, argTypes := [28, 3].toArray }, none) from by kernel_rfl) (by kernel_rfl) (by kernel_rfl) (by kernel_rfl) (by kernel_rfl) ?_
        refine (CD.out _ H.out.1).mono ?_
        rintro en rw1 ⟨rfl, hb⟩
        refine ⟨_, rfl, heldC_call H.out hb, ?_⟩
        have H := Lib.hid (heldC_call H.out hb)
        have AP := Lib.hid (AP.out.keep hb)
        clear hb
        refine run_call (args := [.bool (bB (DupAt items k))]) (show opAt (opsOf Try.f30 8) 6 = some (some 27, .call { callee := .value (.func 67), args := [(.tmp 26)].toArray, argTypes := [4].toArray }, none) from by kernel_rfl) (by kernel_rfl) (by kernel_rfl) (by kernel_rfl) (by kernel_rfl) ?_
        refine (CT.out _).mono ?_
        rintro en rw2 ⟨rfl, hb⟩
        refine ⟨_, rfl, heldC_call H.out hb, ?_⟩
        have H := Lib.hid (heldC_call H.out hb)
        have AP := Lib.hid (AP.out.keep hb)
        clear hb
        refine tail_item2 (logI (dupZ items k)) (show opAt (opsOf Try.f30 8) 7 = some (some 28, .buildSlice 28 1 #[(0, (.tmp 27))], none) from by kernel_rfl) (by kernel_rfl) (by kernel_rfl) (show opAt (opsOf Try.f30 8) 8 = some (some 29, .call { callee := .builtin .append, args := [(.tmp 22), (.tmp 28)].toArray, argTypes := [28, 28].toArray }, none) from by kernel_rfl) (by kernel_rfl) (fun _ => by kernel_rfl) (show opAt (opsOf Try.f30 8) 9 = some (some 30, .fieldAddr 31 (.tmp 5) 1, none) from by kernel_rfl) (by kernel_rfl) (by kernel_rfl) (fun _ _ => by kernel_rfl) (show opAt (opsOf Try.f30 8) 10 = some (none, .store 28 (.tmp 30) (.tmp 29), none) from by kernel_rfl) (by kernel_rfl) (by kernel_rfl) H.out AP.out.row LN.out (Nat.succ_le_of_lt (Array.getElem?_eq_some_iff.1 (heldC_at H.out (List.Mem.tail _ (List.Mem.tail _ (List.Mem.head _))))).1) W0.out (List.Mem.tail _ (List.Mem.tail _ (List.Mem.head _))) rfl (Nat.lt_succ_self _) B0'.out (fun q hq => FAR.out _ _ _ q hq) ?_
        rintro v' w2 ⟨sa, sn, sc, rfl⟩ hK hO hB hZ hR hG
        simp only [putAll, Act.put, List.setIfInBounds_toArray, List.set_cons_zero, List.set_cons_succ]
        have AN := Lib.hid (AP.out.next hK hO hB (hR _ (List.Mem.tail _ (List.Mem.head _)) (by simp only; omega)) (fun g hg => by cases hg))
        have KA := Lib.hid (hR _ (List.Mem.head _) (by simp only; omega))
        clear hK hO hB hR hG H FAR LN
        go_wp2
        go_roundw
        case rel => exact ⟨k + 1, sa, sn, sc, by omega, by go_num, NX.out ▸ AN.out, KA.out⟩
        case measure => simp [intOf]; omega
      · obtain rfl : k = n := by omega
        have K1 := Lib.hid AP.out.vec
        have K0 := Lib.hid AP.out.res
        have FN := Lib.hid AP.out.fin
        obtain ⟨k0, k1, k2, k3, k4, k5, k6, k7⟩ := vec8 K1.out
        obtain ⟨z0, z1, z2, z3, z4, z5, z6, z7⟩ := vec8 K0.out
        obtain ⟨f0, f1, f2, f3, f4, f5, f6, f7⟩ := free8 K0.out
        go_wp2
        rw [XV1.out, XS1.out]
        exact vec_endS rfl rfl rfl rfl K0.out FN.out.withS
  · have XV1 := Lib.hid (dupV_no hs)
    obtain ⟨R, hR⟩ : ∃ R, atmS VV = R := ⟨_, rfl⟩
    have XS1 := Lib.hid hR
    rw [hR] at hs ⊢
    have hRb : (R.toList == []) = false := by have h := str_not hs; rw [ByteArray.toList_eq ⟨#[]⟩] at h; exact h
    clear hs hR
    obtain ⟨z0, z1, z2, z3, z4, z5, z6, z7⟩ := vec8 KR.out
    obtain ⟨f0, f1, f2, f3, f4, f5, f6, f7⟩ := free8 KR.out
    go_wp2
    rw [XV1.out, XS1.out]
    exact vec_endS rfl rfl rfl rfl KR.out (zeroS _ w _ (put8_below B2.out (Nat.le_succ _)))
theorem dupZ_min {l : List It} {k : Nat} {r : Int} (hk : k < l.length) (h : FirstIs l (l.getD k noI) r) : (if (k : Int) - r < 1 then (k : Int) - r else 1) = dupZ l k := by
  obtain ⟨h0, h1, h2⟩ := first_dup hk h
  unfold dupZ
  by_cases q : DupAt l k
  · rw [bB_yes q]
    have : r ≠ k := fun e => h2.1 e q
    rw [if_neg (by omega)]
  · rw [bB_no q]
    have := h2.2 q
    rw [if_pos (by omega)]
    show (k : Int) - r = 0
    omega
set_option maxHeartbeats 4000000 in
theorem specDup (d : Nat) (v : Vec) (val : Value) (lo hi : Nat) (w : World) (hv : VecAt lo hi w d v val) (hhi : hi ≤ w.heap.size) (hsm : Small d v) :
    Calls Try.prog 29 #[val] w (ResVS 1 (dupV v) (atmS v) w) := by
  have C1 := Lib.hid (fun (w1 : World) (hb : Below w.heap.size w w1) => specAtm d v val lo hi w1 (hv.below hb hhi) (Nat.le_trans hhi hb.size) hsm)
  obtain ⟨VV, hVV⟩ : ∃ V, v = V := ⟨_, rfl⟩
  rw [hVV] at C1 ⊢
  obtain ⟨kk, items, parts, names, cls, levels, code, env⟩ := v
  obtain ⟨d', ai, ci, ap, cp, an, cn, ac, cc, al, cl, ed, rfl, hI, hN, hC, hL, hP⟩ := vecAt_open hv
  have li : items.length ≤ 1048576 := by subst ed; exact hsm.1
  have AI := Lib.hid (fun (k : Nat) (w1 : World) (hk : k < items.length) (hb : Below w.heap.size w w1) => (hI.below hb hhi).at_ hk)
  have CF := Lib.hid (fun (x : It) (w1 : World) (hb : Below w.heap.size w w1) => specFirst items x ai ci lo hi w1 (hI.below hb hhi) (Nat.le_trans hhi hb.size) li)
  have FD := Lib.hid (fun (k : Nat) (hk : k < items.length) r (h : FirstIs items (items.getD k noI) r) => first_dup hk h)
  have DZ := Lib.hid (fun (k : Nat) (hk : k < items.length) r (h : FirstIs items (items.getD k noI) r) => dupZ_min hk h)
  have XV := Lib.hid (fun (h : atmS VV = ⟨#[]⟩) => (by have e := dupV_yes h; rw [← hVV] at e ⊢; exact e : dupV VV = mkN 1 (itF (fun i => logI (dupZ items i)) items.length) []))
  have XL := Lib.hid (fun (h : atmS VV = ⟨#[]⟩) => (by have e := atm_len h; rw [← hVV] at e; exact e : items.length ≤ 40))
  obtain ⟨n, hn⟩ : ∃ n, items.length = n := ⟨_, rfl⟩
  rw [hn] at C1 AI CF FD DZ XV XL li ⊢
  clear hv hI hN hC hL hP hsm ed hVV hn
  go_enter Try.func29, Try.ntmps29
  go_wp2_with fail
  obtain ⟨w1, hw1⟩ : ∃ W, (w.alloc (.cells #[.int .i64 kk, .slice ai n ci, .slice ap parts.length cp, .slice an names.length cn, .slice ac cls.length cc, .slice al levels.length cl, .int .i64 code, .int .i64 env] 31)).alloc (.cells #[.int .i64 0, .slice none 0 0, .slice none 0 0, .slice none 0 0, .slice none 0 0, .slice none 0 0, .int .i64 0, .int .i64 0] 31) = W := ⟨_, rfl⟩
  have hsz : (w.alloc (.cells #[.int .i64 kk, .slice ai n ci, .slice ap parts.length cp, .slice an names.length cn, .slice ac cls.length cc, .slice al levels.length cl, .int .i64 code, .int .i64 env] 31)).heap.size = w.heap.size + 1 := by simp
  have B1 := Lib.hid (show Below w.heap.size w w1 from hw1 ▸ (below1 w _).alloc (by simp) _)
  have KA := Lib.hid (show w1.heap[w.heap.size]? = some (.cells #[.int .i64 kk, .slice ai n ci, .slice ap parts.length cp, .slice an names.length cn, .slice ac cls.length cc, .slice al levels.length cl, .int .i64 code, .int .i64 env] 31 (0, 0)) from hw1 ▸ blk_old (blk_new w _ rfl))
  have KR := Lib.hid (show w1.heap[w.heap.size + 1]? = some (.cells #[.int .i64 0, .slice none 0 0, .slice none 0 0, .slice none 0 0, .slice none 0 0, .slice none 0 0, .int .i64 0, .int .i64 0] 31 (0, 0)) from hw1 ▸ hsz ▸ blk_new (w.alloc (.cells #[.int .i64 kk, .slice ai n ci, .slice ap parts.length cp, .slice an names.length cn, .slice ac cls.length cc, .slice al levels.length cl, .int .i64 code, .int .i64 env] 31)) (.cells #[.int .i64 0, .slice none 0 0, .slice none 0 0, .slice none 0 0, .slice none 0 0, .slice none 0 0, .int .i64 0, .int .i64 0] 31) rfl)
  rw [hw1]
  clear hw1 hsz
  with_reducible refine (C1.out _ B1.out).mono ?_
  rintro e wb ⟨rfl, b⟩
  have B2 := Lib.hid (below_then B1.out b)
  have KA := Lib.hid (blk_below b KA.out)
  have KR := Lib.hid (blk_below b KR.out)
  clear b
  by_cases hs : atmS VV = ⟨#[]⟩
  · have XV1 := Lib.hid (XV.out hs)
    have XS1 := Lib.hid hs
    have hl := XL.out hs
    rw [hs]
    have LC := Lib.hid (fun (W : World) (sa : Option Addr) (c : Nat) (h : IntsAt W.heap.size W sa n (fun i => dupZ items i)) => (by
      have h' := specLogVec sa n c (fun i => dupZ items i) W.heap.size W h (Nat.le_refl _) (by omega)
      rw [if_pos hl] at h'
      exact h' : Calls Try.prog 65 #[.slice sa n c] W (ResV 1 (vecOf 1 (itF (fun i => logI (dupZ items i)) n)) W)))
    clear hs XV XL
    obtain ⟨w3, hw3⟩ : ∃ W, wb.alloc (.cells #[] 3) = W := ⟨_, rfl⟩
    have ST := Lib.hid (show IntR wb w3 (fun i => dupZ items i) 0 (.slice (some ⟨wb.heap.size, 0, none⟩) 0 0) from hw3 ▸ ⟨⟨rfl, .inr ⟨wb.heap.size, 0, #[], rfl, Nat.le_refl _, blk_new wb _ rfl, Nat.le_refl _, Nat.zero_le _, rfl, rfl⟩⟩, below1 wb _⟩)
    have hwa := (Array.getElem?_eq_some_iff.1 KA.out).1
    obtain ⟨k0, k1, k2, k3, k4, k5, k6, k7⟩ := vec8 KA.out
    have EW := Lib.hid hw3
    clear hw3
    go_wp2
    rw [EW.out]
    clear EW
    go_loopw [5, 6] (fun v i wr => ∃ k : Nat, k ≤ n ∧ i = .int .i64 k ∧ IntR wb wr (fun i => dupZ items i) k v) (fun _ i _ => n - (intOf i).toNat)
    case atStart => exact ⟨0, Nat.zero_le _, rfl, ST.out⟩
    case round =>
      obtain ⟨k, hk, rfl, hir⟩ := hrel
      obtain ⟨sl, scp, rfl, _⟩ := ints_of_row hir.row
      have IR := Lib.hid hir
      clear hir
      have BW := Lib.hid (below_then B2.out IR.out.below)
      have KA := Lib.hid (blk_below IR.out.below KA.out)
      by_cases hlt : k < n
      · obtain ⟨ba, off, rfl, hbB, c0, c1, c2'⟩ := AI.out k wb hlt B2.out
        have c2 : wb.cell? ⟨ba, off + k * 3 + 2, none⟩ = some (.string (items.getD k noI).t) := c2'
        have hbwb : ba < wb.heap.size := Nat.lt_of_lt_of_le (Nat.lt_of_lt_of_le hbB hhi) B2.out.size
        have FD := Lib.hid (FD.out k hlt)
        have DZ := Lib.hid (DZ.out k hlt)
        obtain ⟨y, hy⟩ : ∃ y, items.getD k noI = y := ⟨_, rfl⟩
        rw [hy] at c0 c1 c2 FD DZ
        have CF := Lib.hid (fun w1 (hb : Below wb.heap.size wb w1) => CF.out y w1 (below_then B2.out hb))
        have H := Lib.hid (show HeldC wb wr [] from ⟨IR.out.below, (fun _ h => by cases h)⟩)
        obtain ⟨m0, m1, m2, m3, m4, m5, m6, m7⟩ := vec8 KA.out
        clear hy c2'
        go_upto_region 8 with (fail)
        clear m0 m1 m2 m3 m4 m5 m6 m7
        refine run_region (ops := (opsOf Try.f29 8)) (S := fun w' => HeldC wb w' ([])) [(0, true), (1, true), (2, true), (3, true), (4, true), (5, true), (6, true), (7, true), (8, true), (9, false), (10, true), (11, true), (12, false), (13, false), (14, true)] (by kernel_rfl) (by kernel_rfl) (by kernel_rfl) (by kernel_rfl) (by kernel_rfl) (fun _ _ _ _ _ h => h) (heldC_drew H.out) ?_
        have H := Lib.hid (heldC_drew H.out)
        have IR := Lib.hid (IR.out.keep (below_drew' (Below.refl _ _)))
        refine run_mov (v := .slice sl k scp) (show opAt (opsOf Try.f29 8) 0 = some (some 21, .move (.tmp 5), none) from by kernel_rfl) (by kernel_rfl) (by kernel_rfl) (by kernel_rfl) ?_
        refine run_mov (v := .int .i64 ((k : Int))) (show opAt (opsOf Try.f29 8) 1 = some (some 22, .move (.tmp 6), none) from by kernel_rfl) (by kernel_rfl) (by kernel_rfl) (by kernel_rfl) ?_
        refine runC_partV (b := w.heap.size) (by kernel_rfl) (show opAt (opsOf Try.f29 8) 2 = some (some 23, .fieldAddr 31 (.tmp 1) 1, none) from by kernel_rfl) (by kernel_rfl) (by kernel_rfl) (by kernel_rfl) ?_
        refine runC_old (b := w.heap.size) (j := 1) (v := .slice (some ⟨ba, off, none⟩) n ci) load_its (show opAt (opsOf Try.f29 8) 3 = some (some 24, .load 28 (.tmp 23), none) from by kernel_rfl) (by kernel_rfl) (by kernel_rfl) (by kernel_rfl) hwa k1 ?_
        refine runC_partV (b := w.heap.size) (by kernel_rfl) (show opAt (opsOf Try.f29 8) 4 = some (some 25, .fieldAddr 31 (.tmp 1) 1, none) from by kernel_rfl) (by kernel_rfl) (by kernel_rfl) (by kernel_rfl) ?_
        refine runC_old (b := w.heap.size) (j := 1) (v := .slice (some ⟨ba, off, none⟩) n ci) load_its (show opAt (opsOf Try.f29 8) 5 = some (some 26, .load 28 (.tmp 25), none) from by kernel_rfl) (by kernel_rfl) (by kernel_rfl) (by kernel_rfl) hwa k1 ?_
        refine run_mov (v := .int .i64 ((k : Int))) (show opAt (opsOf Try.f29 8) 6 = some (some 27, .move (.tmp 6), none) from by kernel_rfl) (by kernel_rfl) (by kernel_rfl) (by kernel_rfl) ?_
        refine run_idx3 (n := n) (c := ci) (b := ba) (off := off) (k := k) (show opAt (opsOf Try.f29 8) 7 = some (some 28, .indexAddr 28 (.tmp 26) (.tmp 27), none) from by kernel_rfl) (by kernel_rfl) (by kernel_rfl) (by kernel_rfl) (by kernel_rfl) hlt ?_
        refine runC_oldI (b := ba) (j := off + k * 3) (z := y) (show opAt (opsOf Try.f29 8) 8 = some (some 29, .load 67 (.tmp 28), none) from by kernel_rfl) (by kernel_rfl) (by kernel_rfl) (by kernel_rfl) hbwb c0 c1 c2 ?_
        refine run_call (args := [.slice (some ⟨ba, off, none⟩) n ci, .agg #[.int .i64 y.n, .int .i64 y.d, .string y.t]]) (show opAt (opsOf Try.f29 8) 9 = some (some 30, .call { callee := .value (.func 64), args := [(.tmp 24), (.tmp 29)].toArray, argTypes := [28, 67].toArray }, none) from by kernel_rfl) (by kernel_rfl) (by kernel_rfl) (by kernel_rfl) (by kernel_rfl) ?_
        refine (CF.out _ H.out.1).mono ?_
        rintro en rw1 ⟨r, hr, rfl, hb⟩
        obtain ⟨hr0, hr1, hr2⟩ := FD.out r hr
        have DZ := DZ.out r hr
        refine ⟨_, rfl, heldC_call H.out hb, ?_⟩
        have H := Lib.hid (heldC_call H.out hb)
        have IR := Lib.hid (IR.out.keep hb)
        clear hr hb
        refine run_sub (k := .i64) (p := (k : Int)) (q := r) (z := ((k : Int) - r)) (show opAt (opsOf Try.f29 8) 10 = some (some 31, .binOp .sub 3 (.tmp 22) (.tmp 30) 3, none) from by kernel_rfl) (by kernel_rfl) (by kernel_rfl) (by kernel_rfl) (by kernel_rfl) (wrap64_id (by omega) (by omega)) ?_
        refine run_min2 (p := 1) (q := ((k : Int) - r)) (z := (dupZ items k)) (show opAt (opsOf Try.f29 8) 11 = some (some 32, .call { callee := .builtin .min, args := [(.const (.int .i64 1)), (.tmp 31)].toArray, argTypes := [3, 3].toArray }, none) from by kernel_rfl) (by kernel_rfl) (by kernel_rfl) (by kernel_rfl) (by kernel_rfl) DZ ?_
        refine tail_int (dupZ items k) (show opAt (opsOf Try.f29 8) 12 = some (some 33, .buildSlice 54 1 #[(0, (.tmp 32))], none) from by kernel_rfl) (by kernel_rfl) (by kernel_rfl) (show opAt (opsOf Try.f29 8) 13 = some (some 34, .call { callee := .builtin .append, args := [(.tmp 21), (.tmp 33)].toArray, argTypes := [54, 54].toArray }, none) from by kernel_rfl) (by kernel_rfl) (fun _ => by kernel_rfl) (show opAt (opsOf Try.f29 8) 14 = some (some 5, .assign (.tmp 34), none) from by kernel_rfl) (by kernel_rfl) IR.out (by omega) ?_ rfl
        rintro v' w2 hN
        simp only [putAll, Act.put, List.setIfInBounds_toArray, List.set_cons_zero, List.set_cons_succ]
        have IN := Lib.hid hN
        clear hN
        go_wp2
        go_roundw
        case rel => exact ⟨k + 1, by omega, by go_num, IN.out⟩
        case measure => simp [intOf]; omega
      · obtain rfl : k = n := by omega
        obtain ⟨sa, c, e', hi'⟩ := ints_of_row IR.out.row
        obtain ⟨rfl, rfl⟩ : sl = sa ∧ scp = c := by simpa using e'
        have HI := Lib.hid hi'
        clear e'
        have KR := Lib.hid (blk_below IR.out.below KR.out)
        obtain ⟨m0, m1, m2, m3, m4, m5, m6, m7⟩ := vec8 KA.out
        clear hi'
        go_wp2_with fail
        with_reducible refine (LC.out _ _ _ HI.out).mono ?_
        rintro e w4 ⟨y, rfl, ho, hb⟩
        obtain ⟨yk, ya1, yn1, ym1, ya2, yn2, ym2, ya3, yn3, ym3, ya4, yn4, ym4, ya5, yn5, ym5, yc, ye, rfl⟩ := ho.agg
        have K0 := Lib.hid (blk_below hb KR.out)
        have BB := Lib.hid (below_then BW.out hb)
        have HO := Lib.hid ho
        have hlt0 := (Array.getElem?_eq_some_iff.1 KR.out).1
        clear ho hb m0 m1 m2 m3 m4 m5 m6 m7
        obtain ⟨z0, z1, z2, z3, z4, z5, z6, z7⟩ := vec8 K0.out
        obtain ⟨f0, f1, f2, f3, f4, f5, f6, f7⟩ := free8 K0.out
        go_wp2
        rw [XV1.out, XS1.out]
        exact vec_endS rfl rfl rfl rfl K0.out ⟨_, rfl, (HO.out.put8 hlt0 _ _ _ _ _ _ _ _).wide (by omega) (by rw [put8_size]; exact Nat.le_refl _), put8_below BB.out (Nat.le_succ _)⟩
  · have XV1 := Lib.hid (dupV_no hs)
    obtain ⟨R, hR⟩ : ∃ R, atmS VV = R := ⟨_, rfl⟩
    have XS1 := Lib.hid hR
    rw [hR] at hs ⊢
    have hRb : (R.toList == []) = false := by have h := str_not hs; rw [ByteArray.toList_eq ⟨#[]⟩] at h; exact h
    clear hs hR
    obtain ⟨z0, z1, z2, z3, z4, z5, z6, z7⟩ := vec8 KR.out
    obtain ⟨f0, f1, f2, f3, f4, f5, f6, f7⟩ := free8 KR.out
    go_wp2
    rw [XV1.out, XS1.out]
    exact vec_endS rfl rfl rfl rfl KR.out (zeroS _ w _ (put8_below B2.out (Nat.le_succ _)))
end Go.Proofs.Ytfbpbpbmnieieaa

/- Lists of ints that a call builds: indexesWhere, positionsOf. -/
namespace Go.Proofs.Ytfbpbpbmnieieaa
open Go.RowKit
set_option maxRecDepth 100000
set_option linter.unusedVariables false

/-- A list of ints in memory. -/
def intC (l : List Int) : List Value := l.map (fun x => .int .i64 x)
theorem intC_app (l m : List Int) : intC l ++ intC m = intC (l ++ m) := by unfold intC; rw [List.map_append]
theorem intC_F (l : List Int) : intsF (fun i => l.getD i 0) l.length = intC l := by
  unfold intsF intC
  apply List.ext_getElem
  · simp
  · intro i h1 h2
    simp only [List.length_map] at h2
    simp [List.getD_eq_getElem?_getD, h2]
/-- What a loop that appends ints to a local slice keeps. -/
structure IntZ (w wr : World) (l : List Int) (v : Value) : Prop where
  row : wr.ownsRow w.heap.size 3 1 v l.length (intC l)
  below : Below w.heap.size w wr
theorem IntZ.keep {w wr w1 : World} {l : List Int} {v : Value} (h : IntZ w wr l v) (hb : Below wr.heap.size wr w1) : IntZ w w1 l v := ⟨ownsRow_below h.row hb, below_then h.below hb⟩
theorem IntZ.nil (w wr : World) (hb : Below w.heap.size w wr) : IntZ w wr [] (.slice none 0 0) := ⟨⟨rfl, .inl ⟨rfl, rfl⟩⟩, hb⟩
theorem IntZ.nil0 (w wr : World) (hb : Below w.heap.size w wr) : IntZ w (wr.alloc (.cells #[] 3)) [] (.slice (some ⟨wr.heap.size, 0, none⟩) 0 0) := ⟨⟨rfl, .inr ⟨wr.heap.size, 0, #[], rfl, hb.size, blk_new wr _ rfl, Nat.le_refl _, Nat.zero_le _, rfl, rfl⟩⟩, hb.alloc hb.size _⟩
theorem IntZ.ints {w wr : World} {l : List Int} {v : Value} (h : IntZ w wr l v) : ∃ sa c, v = .slice sa l.length c ∧ IntsAt wr.heap.size wr sa l.length (fun i => l.getD i 0) :=
  ints_of_row (f := fun i => l.getD i 0) (by rw [intC_F]; exact h.row)
theorem wpList_appInt {w0 w : World} {ops : Array Oper} {rest : List Oper} {o : Oper} {a : Act} {Q : Exit → Act → World → Prop} (hgd : o.guard = none) (s x : Operand)
    (ho : o.op = .call { callee := .builtin .append, args := #[s, x], argTypes := #[54, 54] }) (z : Int) (l : List Int) (v0 : Value) (b : Nat) (hs : a.eval s = v0) (hx : a.eval x = .slice (some ⟨b, 0, none⟩) 1 1)
    (hr : IntZ w0 w l v0) (hb : w.heap[b]? = some (.cells #[.int .i64 z] 3 (0, 0))) (hn : l.length ≤ 1048576)
    (h : ∀ v' w', IntZ w0 w' (l ++ [z]) v' → wpList Try.prog ops Q rest (a.put o.dst v') w') : wpList Try.prog ops Q (o :: rest) a w := by
  obtain ⟨i0, hi0, hz0, hz1, hz2⟩ := info_parts infoInt
  refine wpList_append_own w hgd s x 54 ho w0.heap.size 3 i0 (.int .i64 0) 1 8 Try.underlying54 hi0 hz0 hz1 hz2 rfl (by decide) v0 l.length (intC l) hs hr.row ⟨b, 0, none⟩ 1 1 [.int .i64 z] hx rfl (fun j u hj => ?_) (fun u hu => by obtain rfl := List.mem_singleton.1 hu; rfl) (by unfold maxLen; omega) (by omega) hr.below.size (fun v' w' h1 h2 _ => ?_)
  · obtain rfl : j = 0 := by have := (List.getElem?_eq_some_iff.1 hj).1; simpa using this
    obtain rfl : Value.int .i64 z = u := by simpa using hj
    rw [addr_add]
    exact cellOf hb rfl
  · have e1 : l.length + 1 = (l ++ [z]).length := by simp
    have e2 : intC l ++ [Value.int .i64 z] = intC (l ++ [z]) := intC_app l [z]
    rw [e1, e2] at h1
    exact h v' w' ⟨h1, hr.below.grown h2 hr.below.size (fun r hr' => (hr.row.lt r hr').1)⟩
/-- The indexes below k at which p holds. -/
def whN (p : Nat → Bool) (k : Nat) : List Nat := (List.range k).filter p
def whZ (p : Nat → Bool) (k : Nat) : List Int := (whN p k).map (fun (i : Nat) => (i : Int))
theorem whN_yes {p : Nat → Bool} {k : Nat} (h : p k = true) : whN p (k + 1) = whN p k ++ [k] := by unfold whN; rw [List.range_succ, List.filter_append]; simp [h]
theorem whN_no {p : Nat → Bool} {k : Nat} (h : p k = false) : whN p (k + 1) = whN p k := by unfold whN; rw [List.range_succ, List.filter_append]; simp [h]
theorem whZ_yes {p : Nat → Bool} {k : Nat} (h : p k = true) : whZ p (k + 1) = whZ p k ++ [(k : Int)] := by unfold whZ; rw [whN_yes h, List.map_append]; rfl
theorem whZ_no {p : Nat → Bool} {k : Nat} (h : p k = false) : whZ p (k + 1) = whZ p k := by unfold whZ; rw [whN_no h]
theorem whN_len (p : Nat → Bool) (k : Nat) : (whN p k).length ≤ k := by unfold whN; have := List.length_filter_le p (List.range k); simpa using this
theorem whZ_len (p : Nat → Bool) (k : Nat) : (whZ p k).length = (whN p k).length := by unfold whZ; simp
theorem whN_at {p : Nat → Bool} {k i : Nat} (h : i < (whN p k).length) : (whN p k).getD i 0 < k ∧ p ((whN p k).getD i 0) = true := by
  have hm : (whN p k).getD i 0 ∈ whN p k := by rw [List.getD_eq_getElem?_getD, List.getElem?_eq_getElem h]; exact List.getElem_mem h
  have hm' := List.mem_filter.1 hm
  exact ⟨List.mem_range.1 hm'.1, hm'.2⟩
theorem whN_congr {p q : Nat → Bool} {k : Nat} (h : ∀ i, i < k → p i = q i) : whN p k = whN q k := by
  unfold whN
  exact List.filter_congr (fun i hi => h i (List.mem_range.1 hi))
set_option maxHeartbeats 2000000 in
/-- indexesWhere, for any function's value. -/
theorem implWhere (fid : FuncId) (cap : Array Value) (p : Nat → Bool) (sa : Option Addr) (n c : Nat) (w : World) (hn : n ≤ 1048576) (hgo : callsGo Try.prog fid = true)
    (hG : ∀ i W, i < n → Below w.heap.size w W → Calls Try.prog fid (#[] ++ #[.int .i64 (i : Int)] ++ cap) W fun e w' => e = .returned (.bool (p i)) ∧ Below W.heap.size W w') :
    Calls Try.prog 69 #[.slice sa n c, .func (.func fid) #[] cap] w fun e w' => ∃ v, e = .returned v ∧ IntZ w w' (whZ p n) v := by
  have CG := Lib.hid hG
  have GO := Lib.hid hgo
  have YS := Lib.hid (fun k (h : p k = true) => whZ_yes h)
  have NS := Lib.hid (fun k (h : p k = false) => whZ_no h)
  have LE := Lib.hid (fun k => (by rw [whZ_len]; exact whN_len p k : (whZ p k).length ≤ k))
  have ST := Lib.hid (IntZ.nil w w (Below.refl _ _))
  clear hG hgo
  go_enter Try.func69, Try.ntmps69
  go_wp2
  go_loopw [5, 9] (fun v i wr => ∃ k : Nat, k ≤ n ∧ i = .int .i64 k ∧ IntZ w wr (whZ p k) v) (fun _ i _ => n - (intOf i).toNat)
  case atStart => exact ⟨0, Nat.zero_le _, rfl, ST.out⟩
  case round =>
    obtain ⟨k, hk, rfl, hir⟩ := hrel
    have IR := Lib.hid hir
    clear hir
    by_cases hlt : k < n
    · have CO := Lib.hid (fun W hB => CG.out k W hlt hB)
      have LN := Lib.hid (show (whZ p k).length ≤ 1048576 by have := LE.out k; omega)
      have H := Lib.hid (show HeldC w wr [] from ⟨IR.out.below, (fun _ h => by cases h)⟩)
      cases hp : p k with
      | true =>
        rw [hp] at CO
        have NX := Lib.hid (YS.out k hp)
        clear hp
        go_upto_region 5 with (fail)
        refine run_region_seq (ops := (opsOf Try.f69 5)) (S := fun w' => HeldC w w' ([])) [(0, true), (1, true), (2, false)] (by kernel_rfl) (by kernel_rfl) (by kernel_rfl) H.out ?_
        refine run_mov (v := .func (.func fid) #[] cap) (show opAt (opsOf Try.f69 5) 0 = some (some 12, .move (.tmp 1), none) from by kernel_rfl) (by kernel_rfl) (by kernel_rfl) (by kernel_rfl) ?_
        refine run_mov (v := .int .i64 ((k : Int))) (show opAt (opsOf Try.f69 5) 1 = some (some 13, .move (.tmp 6), none) from by kernel_rfl) (by kernel_rfl) (by kernel_rfl) (by kernel_rfl) ?_
        refine run_callv (f := fid) (first := #[]) (cap := cap) (args := [.int .i64 ((k : Int))]) (show opAt (opsOf Try.f69 5) 2 = some (some 14, .call { callee := .value (.tmp 12), args := [(.tmp 13)].toArray, argTypes := [3].toArray }, none) from by kernel_rfl) (by kernel_rfl) (by kernel_rfl) (by kernel_rfl) GO.out (by kernel_rfl) ?_
        refine (CO.out _ H.out.1).mono ?_
        rintro en rw1 ⟨rfl, hb⟩
        refine ⟨_, rfl, heldC_call H.out hb, ?_⟩
        have H := Lib.hid (heldC_call H.out hb)
        have IR := Lib.hid (IR.out.keep hb)
        clear hb
        refine run_done ?_
        simp only [putAll, Act.put, List.setIfInBounds_toArray, List.set_cons_zero, List.set_cons_succ]
        go_wp2_with (at_builtin; go_loud (refine wpList_appInt rfl _ _ rfl (k : Int) (whZ p k) _ _ rfl rfl (IR.out.keep (below1 _ _)) (blk_new _ _ rfl) LN.out ?_))
        intro v' w3 hir
        have IN := Lib.hid (NX.out ▸ hir)
        clear hir
        go_wp2
        go_roundw
        case rel => exact ⟨k + 1, by omega, by go_num, IN.out⟩
        case measure => simp [intOf]; omega
      | false =>
        rw [hp] at CO
        have NX := Lib.hid (NS.out k hp)
        clear hp
        go_upto_region 5 with (fail)
        refine run_region_seq (ops := (opsOf Try.f69 5)) (S := fun w' => HeldC w w' ([])) [(0, true), (1, true), (2, false)] (by kernel_rfl) (by kernel_rfl) (by kernel_rfl) H.out ?_
        refine run_mov (v := .func (.func fid) #[] cap) (show opAt (opsOf Try.f69 5) 0 = some (some 12, .move (.tmp 1), none) from by kernel_rfl) (by kernel_rfl) (by kernel_rfl) (by kernel_rfl) ?_
        refine run_mov (v := .int .i64 ((k : Int))) (show opAt (opsOf Try.f69 5) 1 = some (some 13, .move (.tmp 6), none) from by kernel_rfl) (by kernel_rfl) (by kernel_rfl) (by kernel_rfl) ?_
        refine run_callv (f := fid) (first := #[]) (cap := cap) (args := [.int .i64 ((k : Int))]) (show opAt (opsOf Try.f69 5) 2 = some (some 14, .call { callee := .value (.tmp 12), args := [(.tmp 13)].toArray, argTypes := [3].toArray }, none) from by kernel_rfl) (by kernel_rfl) (by kernel_rfl) (by kernel_rfl) GO.out (by kernel_rfl) ?_
        refine (CO.out _ H.out.1).mono ?_
        rintro en rw1 ⟨rfl, hb⟩
        refine ⟨_, rfl, heldC_call H.out hb, ?_⟩
        have H := Lib.hid (heldC_call H.out hb)
        have IR := Lib.hid (IR.out.keep hb)
        clear hb
        refine run_done ?_
        simp only [putAll, Act.put, List.setIfInBounds_toArray, List.set_cons_zero, List.set_cons_succ]
        have IN := Lib.hid (NX.out ▸ IR.out)
        go_wp2
        go_roundw
        case rel => exact ⟨k + 1, by omega, by go_num, IN.out⟩
        case measure => simp [intOf]; omega
    · obtain rfl : k = n := by omega
      go_wp2
      go_ret
      exact ⟨_, rfl, IR.out⟩
def posZ (f : Nat → Int) (k : Nat) : List Int := (List.range k).map (fun i => f i + 1)
theorem posZ_succ (f : Nat → Int) (k : Nat) : posZ f (k + 1) = posZ f k ++ [f k + 1] := by unfold posZ; rw [List.range_succ, List.map_append]; rfl
theorem posZ_len (f : Nat → Int) (k : Nat) : (posZ f k).length = k := by unfold posZ; simp
set_option maxHeartbeats 2000000 in
theorem implPos (a : Option Addr) (n c : Nat) (f : Nat → Int) (B : Nat) (w : World) (hs : IntsAt B w a n f) (hB : B ≤ w.heap.size) (hn : n ≤ 1048576) (hin : ∀ i, i < n → 0 ≤ f i ∧ f i ≤ 1048576) :
    Calls Try.prog 75 #[.slice a n c] w fun e w' => ∃ v, e = .returned v ∧ IntZ w w' (posZ f n) v := by
  have SA := Lib.hid hs
  have HI := Lib.hid hin
  have NX0 := Lib.hid (posZ_succ f)
  have ST := Lib.hid (IntZ.nil w w (Below.refl _ _))
  clear hs hin
  go_enter Try.func75, Try.ntmps75
  go_wp2
  go_loopw [3, 8] (fun v i wr => ∃ k : Nat, k ≤ n ∧ i = .int .i64 k ∧ IntZ w wr (posZ f k) v) (fun _ i _ => n - (intOf i).toNat)
  case atStart => exact ⟨0, Nat.zero_le _, rfl, ST.out⟩
  case round =>
    obtain ⟨k, hk, rfl, hir⟩ := hrel
    have IR := Lib.hid hir
    clear hir
    by_cases hlt : k < n
    · obtain ⟨b, off, rfl, hbB, hc⟩ := (SA.out.below (IR.out.below.mono hB)) k hlt
      obtain ⟨h0, h1⟩ := HI.out k hlt
      have LN := Lib.hid (show (posZ f k).length ≤ 1048576 by rw [posZ_len]; omega)
      have NX := Lib.hid (NX0.out k)
      go_wp2_with (at_builtin; go_loud (refine wpList_appInt rfl _ _ rfl (f k + 1) (posZ f k) _ _ rfl rfl (IR.out.keep (below1 _ _)) (blk_new _ _ rfl) LN.out ?_))
      intro v' w3 hir
      have IN := Lib.hid (NX.out ▸ hir)
      clear hir
      go_wp2
      go_roundw
      case rel => exact ⟨k + 1, by omega, by go_num, IN.out⟩
      case measure => simp [intOf]; omega
    · obtain rfl : k = n := by omega
      go_wp2
      go_ret
      exact ⟨_, rfl, IR.out⟩
end Go.Proofs.Ytfbpbpbmnieieaa

/- WhichOf: data, the program. -/
namespace Go.Proofs.Ytfbpbpbmnieieaa
open Go.RowKit
set_option maxRecDepth 100000
set_option linter.unusedVariables false

/-- Which elements are true. -/
def truP (l : List It) (i : Nat) : Bool := decide (truthI (l.getD i noI) = 1)
def posI (i : Nat) : It := ⟨(i : Int) + 1, 1, ⟨#[]⟩⟩
noncomputable def whS (v : Vec) : ByteArray := match bB (ValidV v), bB (kindV v = 1) with | false, _ => badB | true, false => nlgB | true, true => ⟨#[]⟩
noncomputable def whV (v : Vec) : Vec := match bB (ValidV v ∧ kindV v = 1) with | true => mkN 2 ((whN (truP (itemsV v)) (itemsV v).length).map posI) [] | false => noV
theorem whS_bad {v : Vec} (h : ¬ ValidV v) : whS v = badB := by unfold whS; rw [bB_no h]
theorem whS_non {v : Vec} (h : ValidV v) (hk : ¬ kindV v = 1) : whS v = nlgB := by unfold whS; rw [bB_yes h, bB_no hk]
theorem whS_yes {v : Vec} (h : ValidV v) (hk : kindV v = 1) : whS v = ⟨#[]⟩ := by unfold whS; rw [bB_yes h, bB_yes hk]
theorem whV_yes {v : Vec} (h : ValidV v) (hk : kindV v = 1) : whV v = mkN 2 ((whN (truP (itemsV v)) (itemsV v).length).map posI) [] := by unfold whV; rw [bB_yes ⟨h, hk⟩]
theorem whV_no {v : Vec} (h : ¬ (ValidV v ∧ kindV v = 1)) : whV v = noV := by unfold whV; rw [bB_no h]
theorem log_len {v : Vec} (h : ValidV v) (hk : kindV v = 1) : (itemsV v).length ≤ 40 := by
  obtain ⟨k, items, parts, names, cls, levels, code, env⟩ := v
  have hf : FlatOk k items parts.length names cls levels code env := h.1.flat
  have h3 := hf.h_len
  have h4 : k = 1 := hk
  unfold lenV at h3
  rw [if_neg (by omega)] at h3
  show items.length ≤ 40
  omega
theorem log_at {v : Vec} (h : ValidV v) (hk : kindV v = 1) {i : Nat} (hi : i < (itemsV v).length) : NumIt ((itemsV v).getD i noI) ∧ (truthI ((itemsV v).getD i noI) = 1 ↔ ((itemsV v).getD i noI).n = 1) := by
  obtain ⟨k, items, parts, names, cls, levels, code, env⟩ := v
  have hf : FlatOk k items parts.length names cls levels code env := h.1.flat
  have h4 : k = 1 := hk
  subst h4
  have hit := (hf.h_items i hi).1
  refine ⟨numIt_of hit (by decide), ?_⟩
  show truthI (items.getD i noI) = 1 ↔ (items.getD i noI).n = 1
  rcases hit with e | ⟨_, h1, h2, h3, _⟩ | ⟨h1, _⟩ | ⟨h1, _⟩
  · rw [e]; decide
  · unfold truthI
    rw [if_neg (by omega)]
    by_cases h0 : (items.getD i noI).n = 0
    · rw [if_pos h0]; omega
    · rw [if_neg h0]; omega
  · omega
  · omega
theorem wh_items (p : Nat → Bool) (n : Nat) (hn : n ≤ 40) : itF (fun i => numI ((posZ (fun j => (whZ p n).getD j 0) (whZ p n).length).getD i 0)) (whZ p n).length = (whN p n).map posI := by
  have hl : (whZ p n).length = (whN p n).length := whZ_len p n
  rw [hl]
  apply List.ext_getElem
  · rw [itF_len, List.length_map]
  · intro i h1 h2
    have hi : i < (whN p n).length := by rw [List.length_map] at h2; exact h2
    have hb := (whN_at (p := p) (k := n) hi).1
    have e1 : (posZ (fun j => (whZ p n).getD j 0) (whN p n).length).getD i 0 = (((whN p n).getD i 0 : Nat) : Int) + 1 := by
      unfold posZ whZ
      simp [List.getD_eq_getElem?_getD, hi]
    simp only [itF, List.getElem_map, List.getElem_range]
    rw [e1, numI_whole ⟨by omega, by omega⟩]
    simp [posI, List.getD_eq_getElem?_getD, hi]
/-- The closure of WhichOf. -/
theorem implWhClo (kk : Int) (items : List It) (ai ap an ac al : Option Addr) (ci np cp nn cn nc cc nl cl : Nat) (code env : Int) (k g lo hi : Nat) (w : World) (hI : ItemsAt lo hi w ai items) (hhi : hi ≤ w.heap.size) (hlt : k < items.length) (hn : items.length ≤ 1048576) (hx : NumIt (items.getD k noI))
    (hg : w.heap[g]? = some (.cells #[.int .i64 kk, .slice ai items.length ci, .slice ap np cp, .slice an nn cn, .slice ac nc cc, .slice al nl cl, .int .i64 code, .int .i64 env] 31 (0, 0))) :
    Calls Try.prog 72 #[.int .i64 (k : Int), .pointer (some ⟨g, 0, none⟩)] w fun e w' => e = .returned (.bool (truP items k)) ∧ Below w.heap.size w w' := by
  obtain ⟨ba, off, rfl, hbB, c0, c1, c2'⟩ := hI.at_ hlt
  have c2 : w.cell? ⟨ba, off + k * 3 + 2, none⟩ = some (.string (items.getD k noI).t) := c2'
  have hbw : ba < w.heap.size := Nat.lt_of_lt_of_le hbB hhi
  have CT := Lib.hid (fun W => implTruth (items.getD k noI) W hx)
  have TP := Lib.hid (show truP items k = decide (truthI (items.getD k noI) = 1) from rfl)
  obtain ⟨n, hn'⟩ : ∃ n, items.length = n := ⟨_, rfl⟩
  rw [hn'] at hg hlt hn
  obtain ⟨x, hx'⟩ : ∃ x, items.getD k noI = x := ⟨_, rfl⟩
  rw [hx'] at c0 c1 c2 CT TP
  obtain ⟨t, ht⟩ : ∃ t, truthI x = t := ⟨_, rfl⟩
  rw [ht] at CT TP
  have hgw := (Array.getElem?_eq_some_iff.1 hg).1
  obtain ⟨k0, k1, k2, k3, k4, k5, k6, k7⟩ := vec8 hg
  clear hn' hx' hx hI c2' hbB ht
  go_enter Try.func72, Try.ntmps72
  by_cases q : t = 1
  · subst q
    go_wp2_with fail
    with_reducible refine (CT.out _).mono ?_
    rintro e w2 ⟨rfl, b⟩
    go_wp2
    go_ret
    exact ⟨ret_bB (by rw [TP.out]; rfl), b⟩
  · have qb : (t == 1) = false := beq_eq_false_iff_ne.2 q
    go_wp2_with fail
    with_reducible refine (CT.out _).mono ?_
    rintro e w2 ⟨rfl, b⟩
    go_wp2
    go_ret
    exact ⟨ret_bB (by rw [TP.out, decide_eq_false q]), b⟩
set_option maxHeartbeats 4000000 in
theorem implWhich (d : Nat) (v : Vec) (val : Value) (lo hi : Nat) (w : World) (hv : VecAt lo hi w d v val) (hhi : hi ≤ w.heap.size) (hsm : Small d v) :
    Calls Try.prog 34 #[val] w (ResVS 1 (whV v) (whS v) w) := by
  have C1 := Lib.hid (fun (w1 : World) (hb : Below w.heap.size w w1) => implIsVector d v val lo hi w1 (hv.below hb hhi) (Nat.le_trans hhi hb.size) hsm)
  obtain ⟨VV, hVV⟩ : ∃ V, v = V := ⟨_, rfl⟩
  rw [hVV] at C1 ⊢
  obtain ⟨kk, items, parts, names, cls, levels, code, env⟩ := v
  obtain ⟨d', ai, ci, ap, cp, an, cn, ac, cc, al, cl, ed, rfl, hI, hN, hC, hL, hP⟩ := vecAt_open hv
  have li : items.length ≤ 1048576 := by subst ed; exact hsm.1
  have XK : kindV VV = kk := by rw [← hVV]; rfl
  have XI := Lib.hid (fun (h : ValidV VV) (hk : kindV VV = 1) (i : Nat) (hi : i < items.length) => (by rw [← hVV] at h hk; exact (log_at h hk (i := i) hi).1 : NumIt (items.getD i noI)))
  have XL := Lib.hid (fun (h : ValidV VV) (hk : kindV VV = 1) => (by rw [← hVV] at h hk; exact log_len h hk : items.length ≤ 40))
  have XV := Lib.hid (fun (h : ValidV VV) (hk : kindV VV = 1) => (by have e := whV_yes h hk; rw [← hVV] at e ⊢; exact e : whV VV = mkN 2 ((whN (truP items) items.length).map posI) []))
  have CW := Lib.hid (fun (hx : ∀ i, i < items.length → NumIt (items.getD i noI)) (g : Nat) (W : World) (hb : Below w.heap.size w W) (hg : W.heap[g]? = some (.cells #[.int .i64 kk, .slice ai items.length ci, .slice ap parts.length cp, .slice an names.length cn, .slice ac cls.length cc, .slice al levels.length cl, .int .i64 code, .int .i64 env] 31 (0, 0))) =>
    (implWhere 72 #[.pointer (some ⟨g, 0, none⟩)] (truP items) ai items.length ci W li (by kernel_rfl) (fun i W' hi1 hb' => implWhClo kk items ai ap an ac al ci parts.length cp names.length cn cls.length cc levels.length cl code env i g lo hi W' (hI.below (hb.trans (hb'.mono hb.size)) hhi) (Nat.le_trans hhi (Nat.le_trans hb.size hb'.size)) hi1 li (hx i hi1) (blk_below hb' hg)) :
    Calls Try.prog 69 #[.slice ai items.length ci, .func (.func 72) #[] #[.pointer (some ⟨g, 0, none⟩)]] W (fun e w' => ∃ v, e = .returned v ∧ IntZ W w' (whZ (truP items) items.length) v)))
  clear hv hI hN hC hL hP hsm ed hVV
  go_enter Try.func34, Try.ntmps34
  go_wp2_with fail
  obtain ⟨w1, hw1⟩ : ∃ W, (w.alloc (.cells #[.int .i64 kk, .slice ai items.length ci, .slice ap parts.length cp, .slice an names.length cn, .slice ac cls.length cc, .slice al levels.length cl, .int .i64 code, .int .i64 env] 31)).alloc (.cells #[.int .i64 0, .slice none 0 0, .slice none 0 0, .slice none 0 0, .slice none 0 0, .slice none 0 0, .int .i64 0, .int .i64 0] 31) = W := ⟨_, rfl⟩
  have hsz : (w.alloc (.cells #[.int .i64 kk, .slice ai items.length ci, .slice ap parts.length cp, .slice an names.length cn, .slice ac cls.length cc, .slice al levels.length cl, .int .i64 code, .int .i64 env] 31)).heap.size = w.heap.size + 1 := by simp
  have B1 := Lib.hid (show Below w.heap.size w w1 from hw1 ▸ (below1 w _).alloc (by simp) _)
  have KA := Lib.hid (show w1.heap[w.heap.size]? = some (.cells #[.int .i64 kk, .slice ai items.length ci, .slice ap parts.length cp, .slice an names.length cn, .slice ac cls.length cc, .slice al levels.length cl, .int .i64 code, .int .i64 env] 31 (0, 0)) from hw1 ▸ blk_old (blk_new w _ rfl))
  have KR := Lib.hid (show w1.heap[w.heap.size + 1]? = some (.cells #[.int .i64 0, .slice none 0 0, .slice none 0 0, .slice none 0 0, .slice none 0 0, .slice none 0 0, .int .i64 0, .int .i64 0] 31 (0, 0)) from hw1 ▸ hsz ▸ blk_new (w.alloc (.cells #[.int .i64 kk, .slice ai items.length ci, .slice ap parts.length cp, .slice an names.length cn, .slice ac cls.length cc, .slice al levels.length cl, .int .i64 code, .int .i64 env] 31)) (.cells #[.int .i64 0, .slice none 0 0, .slice none 0 0, .slice none 0 0, .slice none 0 0, .slice none 0 0, .int .i64 0, .int .i64 0] 31) rfl)
  rw [hw1]
  clear hw1 hsz
  with_reducible refine (C1.out _ B1.out).mono ?_
  rintro e w2 ⟨rfl, b⟩
  have B2 := Lib.hid (below_then B1.out b)
  have KA := Lib.hid (blk_below b KA.out)
  have KR := Lib.hid (blk_below b KR.out)
  clear b
  by_cases q : ValidV VV
  · rw [bB_yes q]
    by_cases hk : kk = 1
    · have XV1 := Lib.hid (XV.out q (XK.trans hk))
      have XS1 := Lib.hid (whS_yes q (XK.trans hk))
      have hl := XL.out q (XK.trans hk)
      have CW := Lib.hid (CW.out (XI.out q (XK.trans hk)))
      obtain ⟨P, hP'⟩ : ∃ P, truP items = P := ⟨_, rfl⟩
      rw [hP'] at CW XV1
      obtain ⟨n, hn⟩ : ∃ n, items.length = n := ⟨_, rfl⟩
      rw [hn] at CW XV1 hl li KA ⊢
      have CP := Lib.hid (fun (W : World) (sa : Option Addr) (c : Nat) (h : IntsAt W.heap.size W sa (whZ P n).length (fun i => (whZ P n).getD i 0)) => implPos sa (whZ P n).length c (fun i => (whZ P n).getD i 0) W.heap.size W h (Nat.le_refl _) (by have := whZ_len P n; have := whN_len P n; omega) (fun i hi => by
        rw [whZ_len] at hi
        have hb := (whN_at (p := P) (k := n) hi).1
        have e1 : (whZ P n).getD i 0 = (((whN P n).getD i 0 : Nat) : Int) := by unfold whZ; simp [List.getD_eq_getElem?_getD, hi]
        rw [e1]; omega))
      have EI := Lib.hid (wh_items P n hl)
      have L1 := Lib.hid (show (whZ P n).length ≤ n by rw [whZ_len]; exact whN_len P n)
      have CV := Lib.hid (fun (W : World) (sa : Option Addr) (c : Nat) (h : IntsAt W.heap.size W sa (posZ (fun i => (whZ P n).getD i 0) (whZ P n).length).length (fun i => (posZ (fun i => (whZ P n).getD i 0) (whZ P n).length).getD i 0)) => (by
        rw [posZ_len] at h ⊢
        have h' := implNumVec sa (whZ P n).length c (fun i => (posZ (fun i => (whZ P n).getD i 0) (whZ P n).length).getD i 0) W.heap.size W h (Nat.le_refl _) (by have := L1.out; omega) (fun i hi => by
          have hi' := hi
          rw [whZ_len] at hi'
          have hb := (whN_at (p := P) (k := n) hi').1
          have e1 : (posZ (fun j => (whZ P n).getD j 0) (whZ P n).length).getD i 0 = (((whN P n).getD i 0 : Nat) : Int) + 1 := by
            unfold posZ whZ
            simp [List.getD_eq_getElem?_getD, hi']
          rw [e1]; omega)
        rw [if_pos (by have := L1.out; omega), EI.out] at h'
        exact h' : Calls Try.prog 74 #[.slice sa (posZ (fun i => (whZ P n).getD i 0) (whZ P n).length).length c] W (ResV 1 (vecOf 2 ((whN P n).map posI)) W)))
      obtain ⟨Z1, hZ1⟩ : ∃ Z, whZ P n = Z := ⟨_, rfl⟩
      rw [hZ1] at CW CP CV
      obtain ⟨Z2, hZ2⟩ : ∃ Z, posZ (fun i => Z1.getD i 0) Z1.length = Z := ⟨_, rfl⟩
      rw [hZ2] at CP CV
      clear q XK XI XL XV hP' hn EI L1 hZ1 hZ2
      have hltA := (Array.getElem?_eq_some_iff.1 KA.out).1
      obtain ⟨k0, k1, k2, k3, k4, k5, k6, k7⟩ := vec8 KA.out
      go_wp2_with fail
      refine (CW.out _ _ B2.out KA.out).mono ?_
      rintro e w3 ⟨v3, rfl, hz⟩
      obtain ⟨sa, c, rfl, hi'⟩ := hz.ints
      have HI := Lib.hid hi'
      have B3 := Lib.hid (below_then B2.out hz.below)
      have KR := Lib.hid (blk_below hz.below KR.out)
      clear hz hi' k0 k1 k2 k3 k4 k5 k6 k7
      go_wp2_with fail
      refine (CP.out _ _ _ HI.out).mono ?_
      rintro e w4 ⟨v4, rfl, hz⟩
      obtain ⟨sa4, c4, rfl, hi'⟩ := hz.ints
      have HI := Lib.hid hi'
      have B4 := Lib.hid (below_then B3.out hz.below)
      have KR := Lib.hid (blk_below hz.below KR.out)
      clear hz hi'
      go_wp2_with fail
      refine (CV.out _ _ _ HI.out).mono ?_
      rintro e w5 ⟨y, rfl, ho, hb⟩
      obtain ⟨yk, ya1, yn1, ym1, ya2, yn2, ym2, ya3, yn3, ym3, ya4, yn4, ym4, ya5, yn5, ym5, yc, ye, rfl⟩ := ho.agg
      have K0 := Lib.hid (blk_below hb KR.out)
      have BB := Lib.hid (below_then B4.out hb)
      have HO := Lib.hid ho
      have hlt0 := (Array.getElem?_eq_some_iff.1 KR.out).1
      clear ho hb
      obtain ⟨z0, z1, z2, z3, z4, z5, z6, z7⟩ := vec8 K0.out
      obtain ⟨f0, f1, f2, f3, f4, f5, f6, f7⟩ := free8 K0.out
      go_wp2
      rw [XV1.out, XS1.out]
      exact vec_endS rfl rfl rfl rfl K0.out ⟨_, rfl, (HO.out.put8 hlt0 _ _ _ _ _ _ _ _).wide (by omega) (by rw [put8_size]; exact Nat.le_refl _), put8_below BB.out (Nat.le_succ _)⟩
    · have XV1 := Lib.hid (whV_no (fun h : ValidV VV ∧ kindV VV = 1 => hk (XK ▸ h.2)))
      have XS1 := Lib.hid (whS_non q (fun h => hk (XK ▸ h)))
      have hkb : (kk == 1) = false := beq_eq_false_iff_ne.2 hk
      obtain ⟨k0, k1, k2, k3, k4, k5, k6, k7⟩ := vec8 KA.out
      clear q XK XI XL XV
      obtain ⟨z0, z1, z2, z3, z4, z5, z6, z7⟩ := vec8 KR.out
      obtain ⟨f0, f1, f2, f3, f4, f5, f6, f7⟩ := free8 KR.out
      go_wp2
      rw [XV1.out, XS1.out]
      exact vec_endS rfl rfl rfl rfl KR.out (zeroS _ w _ (put8_below B2.out (Nat.le_succ _)))
  · rw [bB_no q]
    have XV1 := Lib.hid (whV_no (fun h : ValidV VV ∧ kindV VV = 1 => q h.1))
    have XS1 := Lib.hid (whS_bad q)
    clear q XK XI XL XV
    obtain ⟨z0, z1, z2, z3, z4, z5, z6, z7⟩ := vec8 KR.out
    obtain ⟨f0, f1, f2, f3, f4, f5, f6, f7⟩ := free8 KR.out
    go_wp2
    rw [XV1.out, XS1.out]
    exact vec_endS rfl rfl rfl rfl KR.out (zeroS _ w _ (put8_below B2.out (Nat.le_succ _)))
end Go.Proofs.Ytfbpbpbmnieieaa

/- WhichOf of the reference. -/
namespace Go.Proofs.Ytfbpbpbmnieieaa
open Go.RowKit
set_option maxRecDepth 100000
set_option linter.unusedVariables false

set_option maxHeartbeats 4000000 in
theorem specWhich (d : Nat) (v : Vec) (val : Value) (lo hi : Nat) (w : World) (hv : VecAt lo hi w d v val) (hhi : hi ≤ w.heap.size) (hsm : Small d v) :
    Calls Try.prog 33 #[val] w (ResVS 1 (whV v) (whS v) w) := by
  have C1 := Lib.hid (fun (w1 : World) (hb : Below w.heap.size w w1) => specIsVector d v val lo hi w1 (hv.below hb hhi) (Nat.le_trans hhi hb.size) hsm)
  obtain ⟨VV, hVV⟩ : ∃ V, v = V := ⟨_, rfl⟩
  rw [hVV] at C1 ⊢
  obtain ⟨kk, items, parts, names, cls, levels, code, env⟩ := v
  obtain ⟨d', ai, ci, ap, cp, an, cn, ac, cc, al, cl, ed, rfl, hI, hN, hC, hL, hP⟩ := vecAt_open hv
  have li : items.length ≤ 1048576 := by subst ed; exact hsm.1
  have XK : kindV VV = kk := by rw [← hVV]; rfl
  have AI := Lib.hid (fun (k : Nat) (w1 : World) (hk : k < items.length) (hb : Below w.heap.size w w1) => (hI.below hb hhi).at_ hk)
  have XI := Lib.hid (fun (h : ValidV VV) (hk : kindV VV = 1) (i : Nat) (hi : i < items.length) => (by rw [← hVV] at h hk; exact (log_at h hk (i := i) hi).2 : truthI (items.getD i noI) = 1 ↔ (items.getD i noI).n = 1))
  have XL := Lib.hid (fun (h : ValidV VV) (hk : kindV VV = 1) => (by rw [← hVV] at h hk; exact log_len h hk : items.length ≤ 40))
  have XV := Lib.hid (fun (h : ValidV VV) (hk : kindV VV = 1) => (by have e := whV_yes h hk; rw [← hVV] at e ⊢; exact e : whV VV = mkN 2 ((whN (truP items) items.length).map posI) []))
  have BD := Lib.hid (fun W => specBad W)
  obtain ⟨n, hn⟩ : ∃ n, items.length = n := ⟨_, rfl⟩
  rw [hn] at C1 AI XI XV XL li ⊢
  clear hv hI hN hC hL hP hsm ed hVV hn
  go_enter Try.func33, Try.ntmps33
  go_wp2_with fail
  obtain ⟨w1, hw1⟩ : ∃ W, (w.alloc (.cells #[.int .i64 kk, .slice ai n ci, .slice ap parts.length cp, .slice an names.length cn, .slice ac cls.length cc, .slice al levels.length cl, .int .i64 code, .int .i64 env] 31)).alloc (.cells #[.int .i64 0, .slice none 0 0, .slice none 0 0, .slice none 0 0, .slice none 0 0, .slice none 0 0, .int .i64 0, .int .i64 0] 31) = W := ⟨_, rfl⟩
  have hsz : (w.alloc (.cells #[.int .i64 kk, .slice ai n ci, .slice ap parts.length cp, .slice an names.length cn, .slice ac cls.length cc, .slice al levels.length cl, .int .i64 code, .int .i64 env] 31)).heap.size = w.heap.size + 1 := by simp
  have B1 := Lib.hid (show Below w.heap.size w w1 from hw1 ▸ (below1 w _).alloc (by simp) _)
  have KA := Lib.hid (show w1.heap[w.heap.size]? = some (.cells #[.int .i64 kk, .slice ai n ci, .slice ap parts.length cp, .slice an names.length cn, .slice ac cls.length cc, .slice al levels.length cl, .int .i64 code, .int .i64 env] 31 (0, 0)) from hw1 ▸ blk_old (blk_new w _ rfl))
  have KR := Lib.hid (show w1.heap[w.heap.size + 1]? = some (.cells #[.int .i64 0, .slice none 0 0, .slice none 0 0, .slice none 0 0, .slice none 0 0, .slice none 0 0, .int .i64 0, .int .i64 0] 31 (0, 0)) from hw1 ▸ hsz ▸ blk_new (w.alloc (.cells #[.int .i64 kk, .slice ai n ci, .slice ap parts.length cp, .slice an names.length cn, .slice ac cls.length cc, .slice al levels.length cl, .int .i64 code, .int .i64 env] 31)) (.cells #[.int .i64 0, .slice none 0 0, .slice none 0 0, .slice none 0 0, .slice none 0 0, .slice none 0 0, .int .i64 0, .int .i64 0] 31) rfl)
  rw [hw1]
  clear hw1 hsz
  with_reducible refine (C1.out _ B1.out).mono ?_
  rintro e wb ⟨rfl, b⟩
  have B2 := Lib.hid (below_then B1.out b)
  have KA := Lib.hid (blk_below b KA.out)
  have KR := Lib.hid (blk_below b KR.out)
  clear b
  by_cases q : ValidV VV
  · rw [bB_yes q]
    by_cases hk1 : kk = 1
    · have XV1 := Lib.hid (XV.out q (XK.trans hk1))
      have XS1 := Lib.hid (whS_yes q (XK.trans hk1))
      have hl := XL.out q (XK.trans hk1)
      have XI := Lib.hid (XI.out q (XK.trans hk1))
      have YS := Lib.hid (fun k (h : truP items k = true) => (by rw [whN_yes h, List.map_append]; rfl : (whN (truP items) (k + 1)).map posI = (whN (truP items) k).map posI ++ [posI k]))
      have NS := Lib.hid (fun k (h : truP items k = false) => (by rw [whN_no h] : (whN (truP items) (k + 1)).map posI = (whN (truP items) k).map posI))
      have LE := Lib.hid (fun k => (by rw [List.length_map]; exact whN_len (truP items) k : ((whN (truP items) k).map posI).length ≤ k))
      have hltR := (Array.getElem?_eq_some_iff.1 KR.out).1
      have hltA := (Array.getElem?_eq_some_iff.1 KA.out).1
      have ST := Lib.hid (show AppN w (wb.alloc (.cells #[.int .i64 2, .slice none 0 0, .slice none 0 0, .slice none 0 0, .slice none 0 0, .slice none 0 0, .int .i64 0, .int .i64 0] 31)) (w.heap.size + 1) wb.heap.size 2 ((whN (truP items) 0).map posI) none 0 0 [] none 0 [] from
        ⟨blk_old KR.out, blk_new wb _ rfl, ⟨rfl, .inl ⟨rfl, rfl⟩⟩, .inl ⟨rfl, rfl⟩, Nat.le_refl _, List.nodup_nil, (fun g hg => by cases hg), B2.out.alloc B2.out.size _, by omega, hltR⟩)
      have SK := Lib.hid (show (wb.alloc (.cells #[.int .i64 2, .slice none 0 0, .slice none 0 0, .slice none 0 0, .slice none 0 0, .slice none 0 0, .int .i64 0, .int .i64 0] 31)).heap[w.heap.size]? = some (.cells #[.int .i64 kk, .slice ai n ci, .slice ap parts.length cp, .slice an names.length cn, .slice ac cls.length cc, .slice al levels.length cl, .int .i64 code, .int .i64 env] 31 (0, 0)) from blk_old KA.out)
      obtain ⟨k0, k1, k2, k3, k4, k5, k6, k7⟩ := vec8 KA.out
      clear q XL XV XK
      go_wp2
      clear k0 k1 k2 k3 k4 k5 k6 k7
      obtain ⟨b, hb⟩ : ∃ b, wb.heap.size = b := ⟨_, rfl⟩
      rw [hb] at ST hltR hltA ⊢
      clear hb
      go_loopw [5] (fun i wr => ∃ (k : Nat) (sa : Option Addr) (sn sc : Nat), k ≤ n ∧ i = .int .i64 k ∧ AppN w wr (w.heap.size + 1) b 2 ((whN (truP items) k).map posI) sa sn sc [] none 0 [] ∧ wr.heap[w.heap.size]? = some (.cells #[.int .i64 kk, .slice ai n ci, .slice ap parts.length cp, .slice an names.length cn, .slice ac cls.length cc, .slice al levels.length cl, .int .i64 code, .int .i64 env] 31 (0, 0))) (fun i _ => n - (intOf i).toNat)
      case atStart => exact ⟨0, none, 0, 0, Nat.zero_le _, rfl, ST.out, SK.out⟩
      case round =>
        obtain ⟨k, sa, sn, sc, hk, rfl, hap, hka⟩ := hrel
        have AP := Lib.hid hap
        have KA := Lib.hid hka
        clear hap hka
        obtain ⟨k0, k1, k2, k3, k4, k5, k6, k7⟩ := vec8 KA.out
        by_cases hlt : k < n
        · obtain ⟨ba, off, rfl, hbB, c0, c1, c2⟩ := AI.out k wr hlt AP.out.below
          have hbw : ba < wr.heap.size := Nat.lt_of_lt_of_le (Nat.lt_of_lt_of_le hbB hhi) AP.out.below.size
          have TP := XI.out k hlt
          obtain ⟨⟨xn, xd, xt⟩, hx⟩ : ∃ x : It, items.getD k noI = x := ⟨_, rfl⟩
          have TD : truP items k = decide (truthI (items.getD k noI) = 1) := rfl
          rw [hx] at TP TD
          simp only [hx] at c0 c1
          clear c2
          by_cases h1 : xn = 1
          · have NX := Lib.hid (YS.out k (by rw [TD]; exact decide_eq_true (TP.2 h1)))
            subst h1
            have CN := Lib.hid (fun W => specNum2 ((k : Int) + 1) W)
            have LN := Lib.hid (show ((whN (truP items) k).map posI).length ≤ 1048576 by have := LE.out k; omega)
            have FAR := Lib.hid (fun C1 C2 C q hq => AP.out.far1 (g := w.heap.size) (t := 31) (C := C) (C1 := C1) (C2 := C2) (q := q) (by omega) hq)
            have W0 := Lib.hid (show w.heap.size ≤ b + 1 by omega)
            have B0' := Lib.hid (show w.heap.size ≤ b by omega)
            have H := Lib.hid (heldC_cons AP.out.heldC KA.out)
            clear TP TD hx XV1 XS1
            go_upto_region 10 with (fail)
            clear k0 k1 k2 k3 k4 k5 k6 k7 c0 c1
            refine run_region (ops := (opsOf Try.f33 10)) (S := fun w' => HeldC w w' ([(w.heap.size, 31, #[.int .i64 kk, .slice (some ⟨ba, off, none⟩) n ci, .slice ap parts.length cp, .slice an names.length cn, .slice ac cls.length cc, .slice al levels.length cl, .int .i64 code, .int .i64 env]), ((w.heap.size + 1), 31, #[.int .i64 0, .slice none 0 0, .slice none 0 0, .slice none 0 0, .slice none 0 0, .slice none 0 0, .int .i64 0, .int .i64 0]), (b, 31, #[.int .i64 2, .slice sa sn sc, .slice none 0 0, .slice none 0 0, .slice none 0 0, .slice none 0 0, .int .i64 0, .int .i64 0])])) [(0, true), (1, true), (2, true), (3, true), (4, false), (5, false), (6, false), (7, true), (8, false)] (by kernel_rfl) (by kernel_rfl) (by kernel_rfl) (by kernel_rfl) (by kernel_rfl) (fun _ _ _ _ _ h => h) (heldC_drew H.out) ?_
            have H := Lib.hid (heldC_drew H.out)
            have AP := Lib.hid (AP.out.keep (below_drew' (Below.refl _ _)))
            refine runC_partV (b := b) (by kernel_rfl) (show opAt (opsOf Try.f33 10) 0 = some (some 31, .fieldAddr 31 (.tmp 4) 1, none) from by kernel_rfl) (by kernel_rfl) (by kernel_rfl) (by kernel_rfl) ?_
            refine runC_cell (b := b) (j := 1) (v := .slice sa sn sc) load_its (show opAt (opsOf Try.f33 10) 1 = some (some 32, .load 28 (.tmp 31), none) from by kernel_rfl) (by kernel_rfl) (by kernel_rfl) (by kernel_rfl) (List.Mem.tail _ (List.Mem.tail _ (List.Mem.head _))) rfl ?_
            refine run_mov (v := .int .i64 ((k : Int))) (show opAt (opsOf Try.f33 10) 2 = some (some 33, .move (.tmp 5), none) from by kernel_rfl) (by kernel_rfl) (by kernel_rfl) (by kernel_rfl) ?_
            refine run_add (k := .i64) (p := (k : Int)) (q := 1) (z := ((k : Int) + 1)) (show opAt (opsOf Try.f33 10) 3 = some (some 34, .binOp .add 3 (.tmp 33) (.const (.int .i64 1)) 3, none) from by kernel_rfl) (by kernel_rfl) (by kernel_rfl) (by kernel_rfl) (by kernel_rfl) (wrap64_id (by omega) (by omega)) ?_
            refine run_call (args := [.int .i64 (((k : Int) + 1))]) (show opAt (opsOf Try.f33 10) 4 = some (some 35, .call { callee := .value (.func 71), args := [(.tmp 34)].toArray, argTypes := [3].toArray }, none) from by kernel_rfl) (by kernel_rfl) (by kernel_rfl) (by kernel_rfl) (by kernel_rfl) ?_
            refine (CN.out _).mono ?_
            rintro en rw1 ⟨rfl, hb⟩
            refine ⟨_, rfl, heldC_call H.out hb, ?_⟩
            have H := Lib.hid (heldC_call H.out hb)
            have AP := Lib.hid (AP.out.keep hb)
            clear hb
            refine tail_item2 (posI k) (show opAt (opsOf Try.f33 10) 5 = some (some 36, .buildSlice 28 1 #[(0, (.tmp 35))], none) from by kernel_rfl) (by kernel_rfl) (by kernel_rfl) (show opAt (opsOf Try.f33 10) 6 = some (some 37, .call { callee := .builtin .append, args := [(.tmp 32), (.tmp 36)].toArray, argTypes := [28, 28].toArray }, none) from by kernel_rfl) (by kernel_rfl) (fun _ => by kernel_rfl) (show opAt (opsOf Try.f33 10) 7 = some (some 38, .fieldAddr 31 (.tmp 4) 1, none) from by kernel_rfl) (by kernel_rfl) (by kernel_rfl) (fun _ _ => by kernel_rfl) (show opAt (opsOf Try.f33 10) 8 = some (none, .store 28 (.tmp 38) (.tmp 37), none) from by kernel_rfl) (by kernel_rfl) (by kernel_rfl) H.out AP.out.row LN.out (Nat.succ_le_of_lt (Array.getElem?_eq_some_iff.1 (heldC_at H.out (List.Mem.tail _ (List.Mem.tail _ (List.Mem.head _))))).1) W0.out (List.Mem.tail _ (List.Mem.tail _ (List.Mem.head _))) rfl (Nat.lt_succ_self _) B0'.out (fun q hq => FAR.out _ _ _ q hq) ?_
            rintro v' w2 ⟨sa, sn, sc, rfl⟩ hK hO hB hZ hR hG
            simp only [putAll, Act.put, List.setIfInBounds_toArray, List.set_cons_zero, List.set_cons_succ]
            have AN := Lib.hid (AP.out.next hK hO hB (hR _ (List.Mem.tail _ (List.Mem.head _)) (by simp only; omega)) (fun g hg => by cases hg))
            have KA := Lib.hid (hR _ (List.Mem.head _) (by simp only; omega))
            clear hK hO hB hR hG H FAR LN
            go_wp2
            go_roundw
            case rel => exact ⟨k + 1, sa, sn, sc, by omega, by go_num, NX.out ▸ AN.out, KA.out⟩
            case measure => simp [intOf]; omega
          · have NX := Lib.hid (NS.out k (by rw [TD]; exact decide_eq_false (fun h => h1 (TP.1 h))))
            have h1b : (xn == 1) = false := beq_eq_false_iff_ne.2 h1
            clear TP TD hx XV1 XS1
            go_wp2
            go_roundw
            case rel => exact ⟨k + 1, sa, sn, sc, by omega, by go_num, NX.out ▸ AP.out, KA.out⟩
            case measure => simp [intOf]; omega
        · obtain rfl : k = n := by omega
          have K1 := Lib.hid AP.out.vec
          have K0 := Lib.hid AP.out.res
          have FN := Lib.hid AP.out.fin
          have hltb := AP.out.big
          obtain ⟨y0, y1, y2, y3, y4, y5, y6, y7⟩ := vec8 K1.out
          obtain ⟨z0, z1, z2, z3, z4, z5, z6, z7⟩ := vec8 K0.out
          obtain ⟨f0, f1, f2, f3, f4, f5, f6, f7⟩ := free8 K0.out
          go_wp2
          rw [XV1.out, XS1.out]
          exact vec_endS rfl rfl rfl rfl K0.out FN.out.withS
    · have XV1 := Lib.hid (whV_no (fun h : ValidV VV ∧ kindV VV = 1 => hk1 (XK ▸ h.2)))
      have XS1 := Lib.hid (whS_non q (fun h => hk1 (XK ▸ h)))
      have hkb : (kk == 1) = false := beq_eq_false_iff_ne.2 hk1
      obtain ⟨k0, k1, k2, k3, k4, k5, k6, k7⟩ := vec8 KA.out
      clear q XK XI XL XV
      obtain ⟨z0, z1, z2, z3, z4, z5, z6, z7⟩ := vec8 KR.out
      obtain ⟨f0, f1, f2, f3, f4, f5, f6, f7⟩ := free8 KR.out
      go_wp2
      rw [XV1.out, XS1.out]
      exact vec_endS rfl rfl rfl rfl KR.out (zeroS _ w _ (put8_below B2.out (Nat.le_succ _)))
  · rw [bB_no q]
    have XV1 := Lib.hid (whV_no (fun h : ValidV VV ∧ kindV VV = 1 => q h.1))
    have XS1 := Lib.hid (whS_bad q)
    clear q XK XI XL XV
    go_wp2_with fail
    with_reducible refine (BD.out _).mono ?_
    rintro e w3 ⟨rfl, b⟩
    have B3 := Lib.hid (below_then B2.out b)
    have KR := Lib.hid (blk_below b KR.out)
    clear b
    obtain ⟨z0, z1, z2, z3, z4, z5, z6, z7⟩ := vec8 KR.out
    obtain ⟨f0, f1, f2, f3, f4, f5, f6, f7⟩ := free8 KR.out
    go_wp2
    rw [XV1.out, XS1.out]
    exact vec_endS rfl rfl rfl rfl KR.out (zeroS _ w _ (put8_below B3.out (Nat.le_succ _)))
theorem wh_plain (v : Vec) : PlainN (whV v) := by
  by_cases h : ValidV v ∧ kindV v = 1
  · rw [whV_yes h.1 h.2]
    have hl := log_len h.1 h.2
    have hw := whN_len (truP (itemsV v)) (itemsV v).length
    refine .inr ⟨_, _, _, rfl, by decide, by rw [List.length_map]; omega, fun x hx => ?_, Nat.zero_le _, (fun _ h => by cases h)⟩
    obtain ⟨i, hi, rfl⟩ := List.mem_map.1 hx
    have := List.mem_range.1 (List.mem_filter.1 hi).1
    refine ⟨⟨?_, (show (-9223372036854775808 : Int) ≤ 1 ∧ (1 : Int) ≤ 9223372036854775807 from by decide), Nat.zero_le _⟩, Nat.zero_le _⟩
    show -9223372036854775808 ≤ (i : Int) + 1 ∧ (i : Int) + 1 ≤ 9223372036854775807
    omega
  · rw [whV_no h]; exact .inl rfl
end Go.Proofs.Ytfbpbpbmnieieaa

/- The reference's arithmetic, each function against its plain one. -/
namespace Go.Proofs.Ytfbpbpbmnieieaa
set_option maxRecDepth 100000
open Go.RowKit
set_option linter.unusedVariables false
theorem floorS_t (x : It) : (floorI x).t = ⟨#[]⟩ := by unfold floorI; split; exact ofQ_t _; rfl
theorem roundS_t (x : It) : (roundI x).t = ⟨#[]⟩ := by unfold roundI; split; exact ofQ_t _; rfl
theorem quoS_t (x y : It) : (quoI x y).t = ⟨#[]⟩ := by unfold quoI; split; exact ofQ_t _; rfl
theorem remS_t (x y : It) : (remI x y).t = ⟨#[]⟩ := by unfold remI; split; exact ofQ_t _; rfl
theorem not_both1 {x y : It} (h : isN x = false) : both x y = false := by unfold both; rw [h]; rfl
theorem not_both2 {x y : It} (h : isN y = false) : both x y = false := by unfold both; rw [h]; simp
theorem add_no {x y : It} (h : both x y = false) : addI x y = noI := by unfold addI; simp [h]
theorem mul_no {x y : It} (h : both x y = false) : mulI x y = noI := by unfold mulI; simp [h]
theorem div_no {x y : It} (h : both x y = false) : divI x y = noI := by unfold divI; simp [h]
theorem quo_no {x y : It} (h : both x y = false) : quoI x y = noI := by unfold quoI; simp [h]
theorem rem_no {x y : It} (h : both x y = false) : remI x y = noI := by unfold remI; simp [h]
theorem quo_no0 {x y : It} (h : y.n = 0) : quoI x y = noI := by unfold quoI; simp [h]
theorem rem_no0 {x y : It} (h : y.n = 0) : remI x y = noI := by unfold remI; simp [h]

theorem ret_ii {a b c d : Int} (h : a = c) (k : b = d) : Ending.returned (.tuple #[.int .i64 a, .int .i64 b]) = .returned (.tuple #[.int .i64 c, .int .i64 d]) := by rw [h, k]
/-- The two parts with a positive second one. -/
def flip1 (x y : It) : Int := if y.n < 0 then -(x.n * y.d) else x.n * y.d
def flip2 (x y : It) : Int := if y.n < 0 then -(x.d * y.n) else x.d * y.n
/-- What the two parts say. -/
theorem flip_facts {x y : It} (h : both x y = true) (h0 : y.n ≠ 0) : ∃ p s : Int, flip1 x y = p ∧ flip2 x y = s ∧ (-999999998000000001 ≤ p ∧ p ≤ 999999998000000001) ∧ 0 < s ∧ s ≤ 999999998000000001 ∧
    mkI (p.fdiv s) 1 = quoI x y ∧ (y.n < 0 → mkI (-(p - s * p.fdiv s)) (x.d * y.d) = remI x y) ∧ (¬ y.n < 0 → mkI (p - s * p.fdiv s) (x.d * y.d) = remI x y) ∧ (-1000000000000000000 ≤ p.fdiv s ∧ p.fdiv s ≤ 1000000000000000000) ∧
    (-999999998000000001 ≤ s * p.fdiv s - p ∧ s * p.fdiv s - p ≤ 999999998000000001) := by
  obtain ⟨hx, hy⟩ := both_iff.1 h
  have P := parts_in hx hy
  have a := isN_iff.1 hx
  have b := isN_iff.1 hy
  have hz : x.d * y.n ≠ 0 := Int.mul_ne_zero (by omega) h0
  have q := quo_mk h h0
  have r := rem_mk h h0
  have e := Int.fmod_add_mul_fdiv (x.n * y.d) (x.d * y.n)
  have fm := fmod_in (n := x.n * y.d) (d := x.d * y.n) (A := 999999998000000001) (by omega) (by omega) hz
  have fd := fdiv_in (n := x.n * y.d) (d := x.d * y.n) (A := 999999998000000001) hz (by omega) (by omega)
  refine ⟨_, _, rfl, rfl, ?_⟩
  unfold flip1 flip2
  by_cases c : y.n < 0
  · have s0 : x.d * y.n < 0 := Int.mul_neg_of_pos_of_neg (by omega) c
    rw [if_pos c, if_pos c, Int.neg_fdiv_neg, Int.neg_mul]
    refine ⟨by omega, by omega, by omega, q, fun _ => ?_, fun k => absurd c k, by omega, by omega⟩
    rw [← r]; congr 1; omega
  · have s0 : 0 < x.d * y.n := Int.mul_pos (by omega) (by omega)
    rw [if_neg c, if_neg c]
    refine ⟨by omega, by omega, by omega, q, fun k => absurd k c, fun _ => ?_, by omega, by omega⟩
    rw [← r]; congr 1; omega

end Go.Proofs.Ytfbpbpbmnieieaa

/- The program's arithmetic, each function against its plain one. -/
namespace Go.Proofs.Ytfbpbpbmnieieaa
set_option maxRecDepth 100000
open Go.RowKit
set_option linter.unusedVariables false

set_option maxHeartbeats 1000000 in
theorem areAny (x y : It) (w : World) (hx : x.t.size ≤ 9223372036854775807) (hy : y.t.size ≤ 9223372036854775807) :
    Calls Try.prog 111 #[.agg #[.int .i64 x.n, .int .i64 x.d, .string x.t], .agg #[.int .i64 y.n, .int .i64 y.d, .string y.t]] w fun e w' => e = .returned (.bool (both x y)) ∧ Below w.heap.size w w' := by
  cases h : isN x
  · have X := Lib.hid (show both x y = false by unfold both; rw [h]; rfl)
    have C := Lib.hid (implNumNo x.n x.d x.t)
    have h' : isN ⟨x.n, x.d, x.t⟩ = false := h
    have N := Lib.hid h'
    clear h h'
    go_enter Try.func111, Try.ntmps111
    go_wp2_with fail
    refine (C.out _ hx N.out).mono ?_
    rintro e w1 ⟨rfl, hb⟩
    have B1 := Lib.hid (below_then (below2 w _ _) hb)
    clear hb
    go_wp2
    go_ret
    exact ⟨ret_b X.out.symm, B1.out⟩
  · have X := Lib.hid (show both x y = isN y by unfold both; rw [h]; rfl)
    have C := Lib.hid (implNumYes x.n x.d x.t)
    have h' : isN ⟨x.n, x.d, x.t⟩ = true := h
    have N := Lib.hid h'
    clear h h'
    go_enter Try.func111, Try.ntmps111
    go_wp2_with fail
    refine (C.out _ hx N.out).mono ?_
    rintro e w1 ⟨rfl, hb⟩
    obtain ⟨hc, hf⟩ := bcell hb
    have B1 := Lib.hid (below_then (below2 w _ _) hb)
    clear hb
    go_wp2_with fail
    refine (implIsNum y.n y.d y.t _ hy).mono ?_
    rintro e w2 ⟨rfl, hb⟩
    have B2 := Lib.hid (below_then B1.out hb)
    clear hb
    go_wp2
    go_ret
    exact ⟨ret_b X.out.symm, B2.out⟩
theorem areYes (x y : It) (w : World) (hx : x.t.size ≤ 9223372036854775807) (hy : y.t.size ≤ 9223372036854775807) (h : both x y = true) :
    Calls Try.prog 111 #[.agg #[.int .i64 x.n, .int .i64 x.d, .string x.t], .agg #[.int .i64 y.n, .int .i64 y.d, .string y.t]] w fun e w' => e = .returned (.bool true) ∧ Below w.heap.size w w' := by
  have := areAny x y w hx hy
  rwa [h] at this
theorem areNo (x y : It) (w : World) (hx : x.t.size ≤ 9223372036854775807) (hy : y.t.size ≤ 9223372036854775807) (h : both x y = false) :
    Calls Try.prog 111 #[.agg #[.int .i64 x.n, .int .i64 x.d, .string x.t], .agg #[.int .i64 y.n, .int .i64 y.d, .string y.t]] w fun e w' => e = .returned (.bool false) ∧ Below w.heap.size w w' := by
  have := areAny x y w hx hy
  rwa [h] at this

end Go.Proofs.Ytfbpbpbmnieieaa

/- The program's arithmetic, continued: differences, quotients, floors. -/
namespace Go.Proofs.Ytfbpbpbmnieieaa
set_option maxRecDepth 100000
open Go.RowKit
set_option linter.unusedVariables false

end Go.Proofs.Ytfbpbpbmnieieaa

/- CompareNumbers: the program's and the reference's. -/
namespace Go.Proofs.Ytfbpbpbmnieieaa
set_option maxRecDepth 100000
open Go.RowKit
set_option linter.unusedVariables false

theorem cmp_no {x y : It} (h : both x y = false) : cmpI x y = 2 := by unfold cmpI; simp [h]
theorem cmp_lt {x y : It} (h : both x y = true) (k : x.n * y.d < y.n * x.d) : cmpI x y = -1 := by unfold cmpI; rw [if_pos h, if_pos k]
theorem cmp_eq {x y : It} (h : both x y = true) (k : x.n * y.d = y.n * x.d) : cmpI x y = 0 := by unfold cmpI; rw [if_pos h, if_neg (by omega), if_pos k]
theorem cmp_gt {x y : It} (h : both x y = true) (k : y.n * x.d < x.n * y.d) : cmpI x y = 1 := by unfold cmpI; rw [if_pos h, if_neg (by omega), if_neg (by omega)]
theorem both_tx {x y : It} (h : both x y = true) : x.t = ⟨#[]⟩ := (isN_iff.1 (both_iff.1 h).1).1
theorem both_ty {x y : It} (h : both x y = true) : y.t = ⟨#[]⟩ := (isN_iff.1 (both_iff.1 h).2).1

set_option maxHeartbeats 4000000 in
theorem implCmp (x y : It) (w : World) (hx : x.t.size ≤ 9223372036854775807) (hy : y.t.size ≤ 9223372036854775807) :
    Calls Try.prog 99 #[.agg #[.int .i64 x.n, .int .i64 x.d, .string x.t], .agg #[.int .i64 y.n, .int .i64 y.d, .string y.t]] w fun e w' => e = .returned (.int .i64 (cmpI x y)) ∧ Below w.heap.size w w' := by
  cases h : both x y
  · have X := Lib.hid (cmp_no h)
    have N := Lib.hid h
    clear h
    go_enter Try.func99, Try.ntmps99
    go_wp2_with fail
    refine (areNo x y _ hx hy N.out).mono ?_
    rintro e w1 ⟨rfl, hb⟩
    obtain ⟨hc, hf⟩ := bcell hb
    have B1 := Lib.hid (below_then (below2 w _ _) hb)
    have GX := Lib.hid (blk_below (g := w.heap.size) hb (blk_old (blk_new _ _ rfl)))
    have GY := Lib.hid (blk_below (g := w.heap.size + 1) hb (blk_new _ _ (by simp)))
    clear hb
    go_wp2
    go_ret
    exact ⟨ret_i X.out.symm, B1.out⟩
  · have P := parts_in (both_iff.1 h).1 (both_iff.1 h).2
    have N := Lib.hid h
    have a0 : -999999998000000001 ≤ x.n * y.d := by omega
    have a1 : x.n * y.d ≤ 999999998000000001 := by omega
    have b0 : -999999998000000001 ≤ y.n * x.d := by omega
    have b1 : y.n * x.d ≤ 999999998000000001 := by omega
    have TX := Lib.hid (both_tx h)
    have TY := Lib.hid (both_ty h)
    by_cases q : x.n = y.n ∧ x.d = y.d
    · have X := Lib.hid (cmp_eq h (by rw [q.1, q.2]))
      obtain ⟨q1, q2⟩ := q
      obtain ⟨xn, xd, xt⟩ := x
      obtain ⟨yn, yd, yt⟩ := y
      obtain rfl : xn = yn := q1
      obtain rfl : xd = yd := q2
      obtain rfl : xt = ⟨#[]⟩ := TX.out
      obtain rfl : yt = ⟨#[]⟩ := TY.out
      clear h P TX TY
      go_enter Try.func99, Try.ntmps99
      go_wp2_with fail
      refine (areYes ⟨xn, xd, ⟨#[]⟩⟩ ⟨xn, xd, ⟨#[]⟩⟩ _ hx hy N.out).mono ?_
      rintro e w1 ⟨rfl, hb⟩
      obtain ⟨hc, hf⟩ := bcell hb
      have B1 := Lib.hid (below_then (below2 w _ _) hb)
      have GX := Lib.hid (blk_below (g := w.heap.size) hb (blk_old (blk_new _ _ rfl)))
      have GY := Lib.hid (blk_below (g := w.heap.size + 1) hb (blk_new _ _ (by simp)))
      clear hb
      go_wp2
      go_ret
      exact ⟨ret_i X.out.symm, B1.out⟩
    · have qq : ¬ x.n * y.d = y.n * x.d := fun e => q (by have := cross_eq h e; subst this; exact ⟨rfl, rfl⟩)
      have X1 := Lib.hid (fun k => cmp_lt h k)
      have X2 := Lib.hid (fun k => cmp_gt h k)
      obtain ⟨xn, xd, xt⟩ := x
      obtain ⟨yn, yd, yt⟩ := y
      obtain rfl : xt = ⟨#[]⟩ := TX.out
      obtain rfl : yt = ⟨#[]⟩ := TY.out
      dsimp only at *
      clear h P TX TY
      have q' : (xn ≠ yn) ∨ (1 ≤ 1 ∧ xn = yn ∧ xd ≠ yd) := by omega
      have Q := Lib.hid q'
      clear q q'
      by_cases s : xn * yd < yn * xd
      · have X := Lib.hid (X1.out s)
        clear X1 X2
        rcases Q.out with q | ⟨_, q0, q⟩
        · go_enter Try.func99, Try.ntmps99
          go_wp2_with fail
          refine (areYes ⟨xn, xd, ⟨#[]⟩⟩ ⟨yn, yd, ⟨#[]⟩⟩ _ hx hy N.out).mono ?_
          rintro e w1 ⟨rfl, hb⟩
          obtain ⟨hc, hf⟩ := bcell hb
          have B1 := Lib.hid (below_then (below2 w _ _) hb)
          have GX := Lib.hid (blk_below (g := w.heap.size) hb (blk_old (blk_new _ _ rfl)))
          have GY := Lib.hid (blk_below (g := w.heap.size + 1) hb (blk_new _ _ (by simp)))
          clear hb
          go_wp2
          go_ret
          exact ⟨ret_i X.out.symm, B1.out⟩
        · subst q0
          go_enter Try.func99, Try.ntmps99
          go_wp2_with fail
          refine (areYes ⟨xn, xd, ⟨#[]⟩⟩ ⟨xn, yd, ⟨#[]⟩⟩ _ hx hy N.out).mono ?_
          rintro e w1 ⟨rfl, hb⟩
          obtain ⟨hc, hf⟩ := bcell hb
          have B1 := Lib.hid (below_then (below2 w _ _) hb)
          have GX := Lib.hid (blk_below (g := w.heap.size) hb (blk_old (blk_new _ _ rfl)))
          have GY := Lib.hid (blk_below (g := w.heap.size + 1) hb (blk_new _ _ (by simp)))
          clear hb
          go_wp2
          go_ret
          exact ⟨ret_i X.out.symm, B1.out⟩
      · have X := Lib.hid (X2.out (by omega))
        clear X1 X2
        rcases Q.out with q | ⟨_, q0, q⟩
        · go_enter Try.func99, Try.ntmps99
          go_wp2_with fail
          refine (areYes ⟨xn, xd, ⟨#[]⟩⟩ ⟨yn, yd, ⟨#[]⟩⟩ _ hx hy N.out).mono ?_
          rintro e w1 ⟨rfl, hb⟩
          obtain ⟨hc, hf⟩ := bcell hb
          have B1 := Lib.hid (below_then (below2 w _ _) hb)
          have GX := Lib.hid (blk_below (g := w.heap.size) hb (blk_old (blk_new _ _ rfl)))
          have GY := Lib.hid (blk_below (g := w.heap.size + 1) hb (blk_new _ _ (by simp)))
          clear hb
          go_wp2
          go_ret
          exact ⟨ret_i X.out.symm, B1.out⟩
        · subst q0
          go_enter Try.func99, Try.ntmps99
          go_wp2_with fail
          refine (areYes ⟨xn, xd, ⟨#[]⟩⟩ ⟨xn, yd, ⟨#[]⟩⟩ _ hx hy N.out).mono ?_
          rintro e w1 ⟨rfl, hb⟩
          obtain ⟨hc, hf⟩ := bcell hb
          have B1 := Lib.hid (below_then (below2 w _ _) hb)
          have GX := Lib.hid (blk_below (g := w.heap.size) hb (blk_old (blk_new _ _ rfl)))
          have GY := Lib.hid (blk_below (g := w.heap.size + 1) hb (blk_new _ _ (by simp)))
          clear hb
          go_wp2
          go_ret
          exact ⟨ret_i X.out.symm, B1.out⟩


set_option maxHeartbeats 4000000 in
theorem specCmp (x y : It) (w : World) (hx : x.t.size ≤ 9223372036854775807) (hy : y.t.size ≤ 9223372036854775807) :
    Calls Try.prog 108 #[.agg #[.int .i64 x.n, .int .i64 x.d, .string x.t], .agg #[.int .i64 y.n, .int .i64 y.d, .string y.t]] w fun e w' => e = .returned (.int .i64 (cmpI x y)) ∧ Below w.heap.size w w' := by
  cases h : isN x
  · have X := Lib.hid (cmp_no (y := y) (not_both1 h))
    have NX := Lib.hid (show isN ⟨x.n, x.d, x.t⟩ = false from h)
    clear h
    go_enter Try.func108, Try.ntmps108
    go_wp2_with fail
    refine (specNumNo x.n x.d x.t _ hx NX.out).mono ?_
    rintro e w1 ⟨rfl, hb⟩
    obtain ⟨hc, hf⟩ := bcell hb
    have W1 := Lib.hid hb
    have B1 := Lib.hid (below_then (below2 w _ _) hb)
    clear hb
    go_wp2
    go_ret
    exact ⟨ret_i X.out.symm, B1.out⟩
  · cases k : isN y
    · have X := Lib.hid (cmp_no (x := x) (not_both2 k))
      have NX := Lib.hid (show isN ⟨x.n, x.d, x.t⟩ = true from h)
      have NY := Lib.hid (show isN ⟨y.n, y.d, y.t⟩ = false from k)
      clear h k
      go_enter Try.func108, Try.ntmps108
      go_wp2_with fail
      refine (specNumYes x.n x.d x.t _ hx NX.out).mono ?_
      rintro e w1 ⟨rfl, hb⟩
      obtain ⟨hc, hf⟩ := bcell hb
      have W1 := Lib.hid hb
      have B1 := Lib.hid (below_then (below2 w _ _) hb)
      clear hb
      go_wp2_with fail
      refine (specNumNo y.n y.d y.t _ hy NY.out).mono ?_
      rintro e w2 ⟨rfl, hb⟩
      have W2 := Lib.hid (W1.out.trans (hb.mono W1.out.size))
      clear hc hf
      obtain ⟨hc2, hf2⟩ := bcell W2.out
      have B2 := Lib.hid (below_then B1.out hb)
      clear hb
      go_wp2
      go_ret
      exact ⟨ret_i X.out.symm, B2.out⟩
    · have hB : both x y = true := both_iff.2 ⟨h, k⟩
      have P := parts_in h k
      have NX := Lib.hid (show isN ⟨x.n, x.d, x.t⟩ = true from h)
      have NY := Lib.hid (show isN ⟨y.n, y.d, y.t⟩ = true from k)
      have a0 : -999999998000000001 ≤ x.n * y.d := by omega
      have a1 : x.n * y.d ≤ 999999998000000001 := by omega
      have b0 : -999999998000000001 ≤ y.n * x.d := by omega
      have b1 : y.n * x.d ≤ 999999998000000001 := by omega
      by_cases s : x.n * y.d - y.n * x.d < 0
      · have X := Lib.hid (cmp_lt hB (by omega))
        clear h k hB P
        go_enter Try.func108, Try.ntmps108
        go_wp2_with fail
        refine (specNumYes x.n x.d x.t _ hx NX.out).mono ?_
        rintro e w1 ⟨rfl, hb⟩
        obtain ⟨hc, hf⟩ := bcell hb
        have W1 := Lib.hid hb
        have B1 := Lib.hid (below_then (below2 w _ _) hb)
        clear hb
        go_wp2_with fail
        refine (specNumYes y.n y.d y.t _ hy NY.out).mono ?_
        rintro e w2 ⟨rfl, hb⟩
        have W2 := Lib.hid (W1.out.trans (hb.mono W1.out.size))
        clear hc hf
        obtain ⟨hc2, hf2⟩ := bcell W2.out
        have B2 := Lib.hid (below_then B1.out hb)
        clear hb
        go_wp2
        go_ret
        exact ⟨ret_i X.out.symm, B2.out⟩
      · by_cases s1 : x.n * y.d - y.n * x.d = 0
        · have s2 : ¬ 1 ≤ x.n * y.d - y.n * x.d := by omega
          have X := Lib.hid (cmp_eq hB (by omega))
          clear h k hB P
          go_enter Try.func108, Try.ntmps108
          go_wp2_with fail
          refine (specNumYes x.n x.d x.t _ hx NX.out).mono ?_
          rintro e w1 ⟨rfl, hb⟩
          obtain ⟨hc, hf⟩ := bcell hb
          have W1 := Lib.hid hb
          have B1 := Lib.hid (below_then (below2 w _ _) hb)
          clear hb
          go_wp2_with fail
          refine (specNumYes y.n y.d y.t _ hy NY.out).mono ?_
          rintro e w2 ⟨rfl, hb⟩
          have W2 := Lib.hid (W1.out.trans (hb.mono W1.out.size))
          clear hc hf
          obtain ⟨hc2, hf2⟩ := bcell W2.out
          have B2 := Lib.hid (below_then B1.out hb)
          clear hb
          go_wp2
          go_ret
          exact ⟨ret_i X.out.symm, B2.out⟩
        · have s2 : 1 ≤ x.n * y.d - y.n * x.d := by omega
          by_cases s3 : x.n * y.d - y.n * x.d ≤ 1
          · have X := Lib.hid (show cmpI x y = x.n * y.d - y.n * x.d by rw [cmp_gt hB (by omega)]; omega)
            clear h k hB P
            go_enter Try.func108, Try.ntmps108
            go_wp2_with fail
            refine (specNumYes x.n x.d x.t _ hx NX.out).mono ?_
            rintro e w1 ⟨rfl, hb⟩
            obtain ⟨hc, hf⟩ := bcell hb
            have W1 := Lib.hid hb
            have B1 := Lib.hid (below_then (below2 w _ _) hb)
            clear hb
            go_wp2_with fail
            refine (specNumYes y.n y.d y.t _ hy NY.out).mono ?_
            rintro e w2 ⟨rfl, hb⟩
            have W2 := Lib.hid (W1.out.trans (hb.mono W1.out.size))
            clear hc hf
            obtain ⟨hc2, hf2⟩ := bcell W2.out
            have B2 := Lib.hid (below_then B1.out hb)
            clear hb
            go_wp2
            go_ret
            exact ⟨ret_i X.out.symm, B2.out⟩
          · have X := Lib.hid (cmp_gt hB (by omega))
            clear h k hB P
            go_enter Try.func108, Try.ntmps108
            go_wp2_with fail
            refine (specNumYes x.n x.d x.t _ hx NX.out).mono ?_
            rintro e w1 ⟨rfl, hb⟩
            obtain ⟨hc, hf⟩ := bcell hb
            have W1 := Lib.hid hb
            have B1 := Lib.hid (below_then (below2 w _ _) hb)
            clear hb
            go_wp2_with fail
            refine (specNumYes y.n y.d y.t _ hy NY.out).mono ?_
            rintro e w2 ⟨rfl, hb⟩
            have W2 := Lib.hid (W1.out.trans (hb.mono W1.out.size))
            clear hc hf
            obtain ⟨hc2, hf2⟩ := bcell W2.out
            have B2 := Lib.hid (below_then B1.out hb)
            clear hb
            go_wp2
            go_ret
            exact ⟨ret_i X.out.symm, B2.out⟩
end Go.Proofs.Ytfbpbpbmnieieaa

/- Comparisons of elements, on both sides. -/
namespace Go.Proofs.Ytfbpbpbmnieieaa
open Go.RowKit
set_option maxRecDepth 100000
set_option linter.unusedVariables false

theorem bytes_cmp : ∀ (a b : List UInt8), Lib.compareBytes a b = if Op.bytesLess a b then -1 else if a = b then 0 else 1
  | [], [] => rfl
  | [], _ :: _ => rfl
  | _ :: _, [] => rfl
  | a :: u, b :: v => by
    unfold Lib.compareBytes Op.bytesLess
    by_cases h1 : a < b
    · simp [h1]
    · by_cases h2 : b < a
      · have hne : ¬ a = b := fun e => by subst e; exact UInt8.lt_irrefl _ h2
        simp [h1, h2, hne]
      · have he : a = b := UInt8.le_antisymm (UInt8.not_lt.1 h2) (UInt8.not_lt.1 h1)
        subst he
        simp only [h1, if_false, bytes_cmp u v]
        simp
/-- The order of two texts, of two elements of a kind. -/
def cmpT (s t : ByteArray) : Int := if Op.bytesLess s.toList t.toList then -1 else if s = t then 0 else 1
noncomputable def ordK (kk : Int) (x y : It) : Int := match bB (kk = 3) with | true => (match bB (x.d = 0 ∨ y.d = 0) with | true => 2 | false => cmpT x.t y.t) | false => cmpI x y
theorem ordK_num {kk : Int} (h : ¬ kk = 3) (x y : It) : ordK kk x y = cmpI x y := by unfold ordK; rw [bB_no h]
theorem ordK_txt {x y : It} (hx : ¬ x.d = 0) (hy : ¬ y.d = 0) : ordK 3 x y = cmpT x.t y.t := by unfold ordK; rw [bB_yes rfl, bB_no (fun h => h.elim hx hy)]
theorem ordK_non {x y : It} (h : x.d = 0 ∨ y.d = 0) : ordK 3 x y = 2 := by unfold ordK; rw [bB_yes rfl, bB_yes h]
theorem cmpT_three (s t : ByteArray) : cmpT s t = -1 ∨ cmpT s t = 0 ∨ cmpT s t = 1 := by
  unfold cmpT
  by_cases h1 : Op.bytesLess s.toList t.toList = true
  · rw [if_pos h1]; exact .inl rfl
  · rw [if_neg h1]
    by_cases h2 : s = t
    · rw [if_pos h2]; exact .inr (.inl rfl)
    · rw [if_neg h2]; exact .inr (.inr rfl)
theorem less_irr : ∀ l : List UInt8, Op.bytesLess l l = false
  | [] => rfl
  | a :: l => by unfold Op.bytesLess; rw [less_irr l]; simp
theorem cmpT_zero (s t : ByteArray) : cmpT s t = 0 ↔ s = t := by
  unfold cmpT
  constructor
  · intro h
    split at h
    · cases h
    · split at h
      · assumption
      · cases h
  · rintro rfl
    rw [less_irr]; simp
/-- What an element is. -/
theorem itOk_cases {kk : Int} {x : It} (h : ItOk kk x) (hd : ¬ x.d = 0) : (kk = 3 ∧ x.n = 0 ∧ x.d = 1 ∧ x.t.size ≤ 60) ∨ (¬ kk = 3 ∧ isN x = true) := by
  rcases h with e | ⟨h0, h1, h2, h3, h4⟩ | ⟨h0, h1⟩ | ⟨h0, h1, h2, h3⟩
  · rw [e] at hd; exact absurd rfl hd
  · refine .inr ⟨by omega, isN_iff.2 ⟨empty_of_size h4, by omega, by omega, by omega, by omega, by rw [h1]; exact Int.gcd_one_right _⟩⟩
  · exact .inr ⟨by omega, h1⟩
  · exact .inl ⟨h0, h1, h2, h3⟩
theorem itOk_zero {kk : Int} {x : It} (h : ItOk kk x) (hd : x.d = 0) : x = noI := by
  rcases h with e | ⟨_, h1, _⟩ | ⟨_, h1⟩ | ⟨_, _, h1, _⟩
  · exact e
  · omega
  · have := (isN_iff.1 h1).2.1; omega
  · omega
theorem ord_non {kk : Int} {x y : It} (hx : ItOk kk x) (hy : ItOk kk y) (h : x.d = 0 ∨ y.d = 0) : ordK kk x y = 2 := by
  by_cases h3 : kk = 3
  · subst h3; exact ordK_non h
  · rw [ordK_num h3]
    apply cmp_no
    rcases h with h | h
    · rw [itOk_zero hx h]; rfl
    · rw [itOk_zero hy h]; unfold both; simp [show isN noI = false from rfl]
theorem ord_known {kk : Int} {x y : It} (hx : ItOk kk x) (hy : ItOk kk y) (h0 : ¬ x.d = 0) (h1 : ¬ y.d = 0) : (ordK kk x y = -1 ∨ ordK kk x y = 0 ∨ ordK kk x y = 1) ∧ (ordK kk x y = 0 ↔ x = y) := by
  rcases itOk_cases hx h0 with ⟨h3, a1, a2, _⟩ | ⟨h3, a1⟩
  · subst h3
    rw [ordK_txt h0 h1]
    refine ⟨cmpT_three _ _, (cmpT_zero _ _).trans ⟨fun e => ?_, fun e => by rw [e]⟩⟩
    rcases itOk_cases hy h1 with ⟨_, b1, b2, _⟩ | ⟨h, _⟩
    · obtain ⟨xn, xd, xt⟩ := x
      obtain ⟨yn, yd, yt⟩ := y
      simp only at a1 a2 b1 b2 e
      rw [a1, a2, b1, b2, e]
    · exact absurd rfl h
  · rw [ordK_num h3]
    rcases itOk_cases hy h1 with ⟨h, _⟩ | ⟨_, b1⟩
    · exact absurd h h3
    · have hb : both x y = true := both_iff.2 ⟨a1, b1⟩
      unfold cmpI
      rw [if_pos hb]
      by_cases c1 : x.n * y.d < y.n * x.d
      · rw [if_pos c1]
        refine ⟨.inl rfl, ⟨fun h => (by cases h), fun e => ?_⟩⟩
        rw [e] at c1; omega
      · rw [if_neg c1]
        by_cases c2 : x.n * y.d = y.n * x.d
        · rw [if_pos c2]; exact ⟨.inr (.inl rfl), ⟨fun _ => cross_eq hb c2, fun _ => rfl⟩⟩
        · rw [if_neg c2]; exact ⟨.inr (.inr rfl), ⟨fun h => (by cases h), fun e => absurd (by rw [e]) c2⟩⟩
theorem itOk_t {kk : Int} {x : It} (h : ItOk kk x) : x.t.size ≤ 9223372036854775807 := by
  rcases h with e | ⟨_, _, _, _, h⟩ | ⟨_, h⟩ | ⟨_, _, _, h⟩
  · rw [e]; exact Nat.zero_le _
  · omega
  · rw [(isN_iff.1 h).1]; exact Nat.zero_le _
  · omega
theorem implCmpStr (a b : ByteArray) (w : World) :
    Calls Try.prog 110 #[.string a, .string b] w fun e w' => e = .returned (.int .i64 (cmpT a b)) ∧ w = w' := by
  have E : Lib.compareBytes a.data.toList b.data.toList = cmpT a b := by
    rw [bytes_cmp]; unfold cmpT
    rw [ByteArray.toList_eq, ByteArray.toList_eq]
    by_cases h : a = b
    · subst h; simp
    · have hne : ¬ a.data.toList = b.data.toList := fun e => h (toList_inj (by rw [ByteArray.toList_eq, ByteArray.toList_eq]; exact e))
      rw [if_neg h, if_neg hne]
  have E := Lib.hid E
  have C := Lib.hid (fun (W : World) => (by
    go_enter Try.func118, Try.ntmps118
    go_wp2
    rw [run_callFunc_extern Try.func125 (by kernel_rfl) (by kernel_rfl) (by kernel_rfl) (e := Extern.BytealgCompare.compare) (by kernel_rfl), Lib.run_compareString]
    simp only [Result.andThen]
    rw [Oper.upon_value]
    go_wp2
    go_ret
    exact ⟨by rw [← E.out]; rfl, rfl⟩ : Calls Try.prog 118 #[.string a, .string b] W (fun e w' => e = .returned (.int .i64 (cmpT a b)) ∧ W = w')))
  clear E
  go_enter Try.func110, Try.ntmps110
  go_wp2_with fail
  with_reducible refine (C.out _).mono ?_
  rintro e w' ⟨rfl, rfl⟩
  go_wp2
  go_ret
  exact ⟨rfl, rfl⟩
set_option maxHeartbeats 2000000 in
theorem implCmpT (x y : It) (w : World) (hx : ItOk 3 x) (hy : ItOk 3 y) :
    Calls Try.prog 98 #[.agg #[.int .i64 x.n, .int .i64 x.d, .string x.t], .agg #[.int .i64 y.n, .int .i64 y.d, .string y.t]] w fun e w' => e = .returned (.int .i64 (ordK 3 x y)) ∧ Below w.heap.size w w' := by
  by_cases h0 : x.d = 0
  · have X := Lib.hid (ord_non hx hy (.inl h0))
    have e := itOk_zero hx h0
    obtain ⟨xn, xd, xt⟩ := x
    obtain ⟨rfl, rfl, rfl⟩ : xn = 0 ∧ xd = 0 ∧ xt = ⟨#[]⟩ := ⟨congrArg It.n e, congrArg It.d e, congrArg It.t e⟩
    clear e h0 hx hy
    go_enter Try.func98, Try.ntmps98
    go_wp2
    go_ret
    exact ⟨by rw [X.out]; rfl, below2 w _ _⟩
  · by_cases h1 : y.d = 0
    · have X := Lib.hid (ord_non hx hy (.inr h1))
      have e := itOk_zero hy h1
      obtain ⟨_, a1, a2, _⟩ | ⟨h, _⟩ := itOk_cases hx h0
      · obtain ⟨xn, xd, xt⟩ := x
        obtain ⟨yn, yd, yt⟩ := y
        obtain ⟨rfl, rfl, rfl⟩ : yn = 0 ∧ yd = 0 ∧ yt = ⟨#[]⟩ := ⟨congrArg It.n e, congrArg It.d e, congrArg It.t e⟩
        simp only at a1 a2
        subst a1 a2
        clear e h0 h1 hx hy
        go_enter Try.func98, Try.ntmps98
        go_wp2
        go_ret
        exact ⟨by rw [X.out]; rfl, below2 w _ _⟩
      · exact absurd rfl h
    · have X := Lib.hid (ordK_txt h0 h1)
      obtain ⟨_, a1, a2, _⟩ | ⟨h, _⟩ := itOk_cases hx h0
      · obtain ⟨_, b1, b2, _⟩ | ⟨h, _⟩ := itOk_cases hy h1
        · obtain ⟨xn, xd, xt⟩ := x
          obtain ⟨yn, yd, yt⟩ := y
          simp only at a1 a2 b1 b2
          subst a1 a2 b1 b2
          have C := Lib.hid (fun W => implCmpStr xt yt W)
          go_enter Try.func98, Try.ntmps98
          go_wp2_with fail
          with_reducible refine (C.out _).mono ?_
          rintro e w' ⟨rfl, rfl⟩
          go_wp2
          go_ret
          exact ⟨by rw [X.out]; rfl, below2 w _ _⟩
        · exact absurd rfl h
      · exact absurd rfl h
/-- A function's value that compares elements of a kind. -/
structure CmpF (kk : Int) (fid : FuncId) : Prop where
  go : callsGo Try.prog fid = true
  call : ∀ x y W, ItOk kk x → ItOk kk y → Calls Try.prog fid (#[] ++ #[.agg #[.int .i64 x.n, .int .i64 x.d, .string x.t], .agg #[.int .i64 y.n, .int .i64 y.d, .string y.t]] ++ #[]) W fun e w' => e = .returned (.int .i64 (ordK kk x y)) ∧ Below W.heap.size W w'
theorem implCmpOf (kk : Int) (w : World) :
    Calls Try.prog 78 #[.int .i64 kk] w fun e w' => ∃ fid, e = .returned (.func (.func fid) #[] #[]) ∧ CmpF kk fid ∧ w = w' := by
  by_cases h : kk = 3
  · have X := Lib.hid (show CmpF kk 98 from ⟨by kernel_rfl, fun x y W hx hy => by subst h; exact implCmpT x y W hx hy⟩)
    subst h
    go_enter Try.func78, Try.ntmps78
    go_wp2
    go_ret
    exact ⟨_, rfl, X.out, rfl⟩
  · have X := Lib.hid (show CmpF kk 99 from ⟨by kernel_rfl, fun x y W hx hy => by rw [ordK_num h]; exact implCmp x y W (itOk_t hx) (itOk_t hy)⟩)
    have hb : (kk == 3) = false := beq_eq_false_iff_ne.2 h
    go_enter Try.func78, Try.ntmps78
    go_wp2
    go_ret
    exact ⟨_, rfl, X.out, rfl⟩
set_option maxHeartbeats 2000000 in
theorem specOrder (kk : Int) (x y : It) (w : World) (hx : ItOk kk x) (hy : ItOk kk y) :
    Calls Try.prog 96 #[.int .i64 kk, .agg #[.int .i64 x.n, .int .i64 x.d, .string x.t], .agg #[.int .i64 y.n, .int .i64 y.d, .string y.t]] w fun e w' => e = .returned (.int .i64 (ordK kk x y)) ∧ Below w.heap.size w w' := by
  by_cases h0 : x.d = 0
  · have X := Lib.hid (ord_non hx hy (.inl h0))
    have e := itOk_zero hx h0
    obtain ⟨xn, xd, xt⟩ := x
    obtain ⟨rfl, rfl, rfl⟩ : xn = 0 ∧ xd = 0 ∧ xt = ⟨#[]⟩ := ⟨congrArg It.n e, congrArg It.d e, congrArg It.t e⟩
    clear e h0 hx hy
    go_enter Try.func96, Try.ntmps96
    go_wp2
    go_ret
    exact ⟨by rw [X.out]; rfl, below2 w _ _⟩
  · have h0b : (x.d == 0) = false := beq_eq_false_iff_ne.2 h0
    by_cases h1 : y.d = 0
    · have X := Lib.hid (ord_non hx hy (.inr h1))
      have e := itOk_zero hy h1
      obtain ⟨yn, yd, yt⟩ := y
      obtain ⟨rfl, rfl, rfl⟩ : yn = 0 ∧ yd = 0 ∧ yt = ⟨#[]⟩ := ⟨congrArg It.n e, congrArg It.d e, congrArg It.t e⟩
      clear e h1
      go_enter Try.func96, Try.ntmps96
      go_wp2
      go_ret
      exact ⟨by rw [X.out]; rfl, below2 w _ _⟩
    · have h1b : (y.d == 0) = false := beq_eq_false_iff_ne.2 h1
      by_cases h3 : kk = 3
      · subst h3
        have X := Lib.hid (ordK_txt h0 h1)
        obtain ⟨xn, xd, xt⟩ := x
        obtain ⟨yn, yd, yt⟩ := y
        cases hl : Op.bytesLess xt.toList yt.toList with
        | true =>
          have E := Lib.hid (show cmpT xt yt = -1 by unfold cmpT; rw [hl]; rfl)
          go_enter Try.func96, Try.ntmps96
          go_wp2
          go_ret
          exact ⟨by rw [X.out]; show _ = Ending.returned (.int .i64 (cmpT xt yt)); rw [E.out]; rfl, below2 w _ _⟩
        | false =>
          by_cases he : xt = yt
          · have E := Lib.hid (show cmpT xt yt = 0 from (cmpT_zero _ _).2 he)
            subst he
            go_enter Try.func96, Try.ntmps96
            go_wp2
            go_ret
            exact ⟨by rw [X.out]; show _ = Ending.returned (.int .i64 (cmpT xt xt)); rw [E.out]; rfl, below2 w _ _⟩
          · have E := Lib.hid (show cmpT xt yt = 1 by unfold cmpT; rw [hl, if_neg he]; rfl)
            have heb : (xt.toList == yt.toList) = false := by rw [beq_eq_false_iff_ne]; exact fun e => he (toList_inj e)
            go_enter Try.func96, Try.ntmps96
            go_wp2
            go_ret
            exact ⟨by rw [X.out]; show _ = Ending.returned (.int .i64 (cmpT xt yt)); rw [E.out]; rfl, below2 w _ _⟩
      · have X := Lib.hid (ordK_num h3 x y)
        have h3b : (kk != 3) = true := bne_iff_ne.2 h3
        have C := Lib.hid (fun W => specCmp x y W (itOk_t hx) (itOk_t hy))
        go_enter Try.func96, Try.ntmps96
        go_wp2_with fail
        with_reducible refine (C.out _).mono ?_
        rintro e w' ⟨rfl, b⟩
        have B := Lib.hid (below_then (below2 w _ _) b)
        clear b
        go_wp2
        go_ret
        exact ⟨by rw [X.out]; rfl, B.out⟩
/-- Does x stand ahead of y? -/
noncomputable def ahdB (kk : Int) (x y : It) (dec : Bool) : Bool := match bB (x.d = 0 ∨ y.d = 0) with
  | true => bB (¬ x.d = 0)
  | false => bB ((ordK kk x y = -1 ∧ dec = false) ∨ (ordK kk x y = 1 ∧ dec = true))
theorem ahd_x {kk : Int} {x y : It} {dec : Bool} (h : x.d = 0) : ahdB kk x y dec = false := by unfold ahdB; rw [bB_yes (.inl h), bB_no (fun k => k h)]
theorem ahd_y {kk : Int} {x y : It} {dec : Bool} (h0 : ¬ x.d = 0) (h : y.d = 0) : ahdB kk x y dec = true := by unfold ahdB; rw [bB_yes (.inr h), bB_yes h0]
theorem ahd_known {kk : Int} {x y : It} {dec : Bool} (h0 : ¬ x.d = 0) (h1 : ¬ y.d = 0) : ahdB kk x y dec = bB ((ordK kk x y = -1 ∧ dec = false) ∨ (ordK kk x y = 1 ∧ dec = true)) := by unfold ahdB; rw [bB_no (fun h => h.elim h0 h1)]
set_option maxHeartbeats 4000000 in
theorem specAhead (kk : Int) (x y : It) (dec : Bool) (w : World) (hx : ItOk kk x) (hy : ItOk kk y) :
    Calls Try.prog 76 #[.int .i64 kk, .agg #[.int .i64 x.n, .int .i64 x.d, .string x.t], .agg #[.int .i64 y.n, .int .i64 y.d, .string y.t], .bool dec] w fun e w' => e = .returned (.bool (ahdB kk x y dec)) ∧ Below w.heap.size w w' := by
  by_cases h0 : x.d = 0
  · have X := Lib.hid (ahd_x (kk := kk) (y := y) (dec := dec) h0)
    have e := itOk_zero hx h0
    obtain ⟨xn, xd, xt⟩ := x
    obtain ⟨rfl, rfl, rfl⟩ : xn = 0 ∧ xd = 0 ∧ xt = ⟨#[]⟩ := ⟨congrArg It.n e, congrArg It.d e, congrArg It.t e⟩
    clear e h0 hx hy
    go_enter Try.func76, Try.ntmps76
    go_wp2
    go_ret
    exact ⟨by rw [X.out]; rfl, below2 w _ _⟩
  · have h0b : (x.d == 0) = false := beq_eq_false_iff_ne.2 h0
    have h0c : (x.d != 0) = true := bne_iff_ne.2 h0
    by_cases h1 : y.d = 0
    · have X := Lib.hid (ahd_y (kk := kk) (x := x) (dec := dec) h0 h1)
      have e := itOk_zero hy h1
      obtain ⟨yn, yd, yt⟩ := y
      obtain ⟨rfl, rfl, rfl⟩ : yn = 0 ∧ yd = 0 ∧ yt = ⟨#[]⟩ := ⟨congrArg It.n e, congrArg It.d e, congrArg It.t e⟩
      clear e h1
      go_enter Try.func76, Try.ntmps76
      go_wp2
      go_ret
      exact ⟨by rw [X.out]; rfl, below2 w _ _⟩
    · have h1b : (y.d == 0) = false := beq_eq_false_iff_ne.2 h1
      have X := Lib.hid (ahd_known (kk := kk) (dec := dec) h0 h1)
      have C := Lib.hid (fun W => specOrder kk x y W hx hy)
      have K := (ord_known hx hy h0 h1).1
      obtain ⟨c, hc⟩ : ∃ c, ordK kk x y = c := ⟨_, rfl⟩
      rw [hc] at X C K
      clear hc
      rcases K with rfl | rfl | rfl
      all_goals cases dec
      all_goals
        go_enter Try.func76, Try.ntmps76
        go_wp2_with fail
        with_reducible refine (C.out _).mono ?_
        rintro e w' ⟨rfl, b⟩
        have B := Lib.hid (below_then (below2 w _ _) b)
        clear b
        go_wp2
        go_ret
        exact ⟨by rw [X.out]; first | exact ret_yes (by simp) | exact ret_no (by simp), B.out⟩
end Go.Proofs.Ytfbpbpbmnieieaa

/- Ranks: data, the program. -/
namespace Go.Proofs.Ytfbpbpbmnieieaa
open Go.RowKit
set_option maxRecDepth 100000
set_option linter.unusedVariables false

def mkE (n d : Int) : It := ⟨(mkI n d).n, (mkI n d).d, ⟨#[]⟩⟩
def leN (C : Nat → Int) (n : Nat) : Nat := (whN (fun i => decide (C i = -1)) n).length
def eqN (C : Nat → Int) (n : Nat) : Nat := (whN (fun i => decide (C i = 0)) n).length
def rnkC (C : Nat → Int) (n : Nat) : It := if eqN C n = 0 then noI else mkE (2 * (leN C n : Int) + (eqN C n : Int) + 1) 2
noncomputable def rnkI (kk : Int) (l : List It) (i : Nat) : It := rnkC (fun j => ordK kk (l.getD j noI) (l.getD i noI)) l.length
noncomputable def rnkV (v : Vec) : Vec := match bB (atmS v = ⟨#[]⟩) with | true => mkN 2 (itF (rnkI (kindV v) (itemsV v)) (itemsV v).length) (namesV v) | false => noV
theorem rnkI_of (kk : Int) (l : List It) (i : Nat) : rnkC (fun j => ordK kk (l.getD j noI) (l.getD i noI)) l.length = rnkI kk l i := rfl
theorem rnkV_yes {v : Vec} (h : atmS v = ⟨#[]⟩) : rnkV v = mkN 2 (itF (rnkI (kindV v) (itemsV v)) (itemsV v).length) (namesV v) := by unfold rnkV; rw [bB_yes h]
theorem rnkV_no {v : Vec} (h : ¬ atmS v = ⟨#[]⟩) : rnkV v = noV := by unfold rnkV; rw [bB_no h]
theorem leN_le (C : Nat → Int) (n : Nat) : leN C n ≤ n := whN_len _ _
theorem eqN_le (C : Nat → Int) (n : Nat) : eqN C n ≤ n := whN_len _ _
theorem leN_yes {C : Nat → Int} {k : Nat} (h : C k = -1) : leN C (k + 1) = leN C k + 1 := by unfold leN; rw [whN_yes (decide_eq_true h)]; simp
theorem leN_no {C : Nat → Int} {k : Nat} (h : ¬ C k = -1) : leN C (k + 1) = leN C k := by unfold leN; rw [whN_no (decide_eq_false h)]
theorem eqN_yes {C : Nat → Int} {k : Nat} (h : C k = 0) : eqN C (k + 1) = eqN C k + 1 := by unfold eqN; rw [whN_yes (decide_eq_true h)]; simp
theorem eqN_no {C : Nat → Int} {k : Nat} (h : ¬ C k = 0) : eqN C (k + 1) = eqN C k := by unfold eqN; rw [whN_no (decide_eq_false h)]
theorem atm_items {v : Vec} (h : atmS v = ⟨#[]⟩) {i : Nat} (hi : i < (itemsV v).length) : ItOk (kindV v) ((itemsV v).getD i noI) := by
  obtain ⟨h1, h2⟩ := atmS_iff.1 h
  obtain ⟨k, items, parts, names, cls, levels, code, env⟩ := v
  have hf : FlatOk k items parts.length names cls levels code env := h1.1.flat
  exact (hf.h_items i hi).1
set_option maxHeartbeats 4000000 in
theorem implRank (fid : FuncId) (C : Nat → Int) (l : List It) (x : It) (sa : Option Addr) (c lo hi : Nat) (w : World) (hI : ItemsAt lo hi w sa l) (hhi : hi ≤ w.heap.size) (hn : l.length ≤ 40) (hgo : callsGo Try.prog fid = true)
    (hG : ∀ i W, i < l.length → Below w.heap.size w W → Calls Try.prog fid (#[] ++ #[.agg #[.int .i64 (l.getD i noI).n, .int .i64 (l.getD i noI).d, .string (l.getD i noI).t], .agg #[.int .i64 x.n, .int .i64 x.d, .string x.t]] ++ #[]) W fun e w' => e = .returned (.int .i64 (C i)) ∧ Below W.heap.size W w') :
    Calls Try.prog 80 #[.agg #[.int .i64 x.n, .int .i64 x.d, .string x.t], .slice sa l.length c, .func (.func fid) #[] #[]] w fun e w' => e = .returned (.agg #[.int .i64 (rnkC C l.length).n, .int .i64 (rnkC C l.length).d, .string (rnkC C l.length).t]) ∧ Below w.heap.size w w' := by
  have AI := Lib.hid (fun (k : Nat) (w1 : World) (hk : k < l.length) (hb : Below w.heap.size w w1) => (hI.below hb hhi).at_ hk)
  have CG := Lib.hid hG
  have GO := Lib.hid hgo
  have LL := Lib.hid (leN_le C)
  have EL := Lib.hid (eqN_le C)
  have EV := Lib.hid (show rnkC C l.length = if eqN C l.length = 0 then noI else mkE (2 * (leN C l.length : Int) + (eqN C l.length : Int) + 1) 2 from rfl)
  obtain ⟨n, hn'⟩ : ∃ n, l.length = n := ⟨_, rfl⟩
  rw [hn'] at AI CG EV hn ⊢
  obtain ⟨V, hV⟩ : ∃ V, rnkC C n = V := ⟨_, rfl⟩
  rw [hV] at EV ⊢
  clear hn' hI hG hgo hV
  have K0 := Lib.hid (show ((w.alloc (.cells #[.int .i64 x.n, .int .i64 x.d, .string x.t] 67)).alloc (.cells #[.int .i64 0, .int .i64 0, .string ⟨#[]⟩] 67)).heap[w.heap.size]? = some (.cells #[.int .i64 x.n, .int .i64 x.d, .string x.t] 67 (0, 0)) from blk_old (blk_new w _ rfl))
  have K1 := Lib.hid (show ((w.alloc (.cells #[.int .i64 x.n, .int .i64 x.d, .string x.t] 67)).alloc (.cells #[.int .i64 0, .int .i64 0, .string ⟨#[]⟩] 67)).heap[w.heap.size + 1]? = some (.cells #[.int .i64 0, .int .i64 0, .string ⟨#[]⟩] 67 (0, 0)) from blk_new _ _ (by simp))
  have B0 := Lib.hid (below2 w (.cells #[.int .i64 x.n, .int .i64 x.d, .string x.t] 67) (.cells #[.int .i64 0, .int .i64 0, .string ⟨#[]⟩] 67))
  go_enter Try.func80, Try.ntmps80
  go_wp2
  go_loopw [7, 8, 13] (fun u v i wr => ∃ k : Nat, k ≤ n ∧ i = .int .i64 k ∧ u = .int .i64 (leN C k) ∧ v = .int .i64 (eqN C k) ∧ Below w.heap.size w wr ∧ wr.heap[w.heap.size]? = some (.cells #[.int .i64 x.n, .int .i64 x.d, .string x.t] 67 (0, 0)) ∧ wr.heap[w.heap.size + 1]? = some (.cells #[.int .i64 0, .int .i64 0, .string ⟨#[]⟩] 67 (0, 0))) (fun _ _ i _ => n - (intOf i).toNat)
  case atStart => exact ⟨0, Nat.zero_le _, rfl, rfl, rfl, B0.out, K0.out, K1.out⟩
  case round =>
    obtain ⟨k, hk, rfl, rfl, rfl, hb, hx, hr⟩ := hrel
    have BB := Lib.hid hb
    have KX := Lib.hid hx
    have KR := Lib.hid hr
    clear hb hx hr
    have ll := LL.out k
    have el := EL.out k
    by_cases hlt : k < n
    · obtain ⟨ba, off, rfl, hbB, c0, c1, c2'⟩ := AI.out _ _ hlt BB.out
      have hbw : ba < wr.heap.size := Nat.lt_of_lt_of_le (Nat.lt_of_lt_of_le hbB hhi) BB.out.size
      have c2 : wr.cell? ⟨ba, off + k * 3 + 2, none⟩ = some (.string (l.getD k noI).t) := c2'
      have CO := Lib.hid (fun W hB => CG.out k W hlt hB)
      obtain ⟨y, hy⟩ : ∃ y, l.getD k noI = y := ⟨_, rfl⟩
      rw [hy] at c0 c1 c2 CO
      obtain ⟨p, hp⟩ : ∃ p, leN C k = p := ⟨_, rfl⟩
      obtain ⟨q, hq⟩ : ∃ q, eqN C k = q := ⟨_, rfl⟩
      clear hy c2'
      have hzr := (Array.getElem?_eq_some_iff.1 KR.out).1
      by_cases hc : C k = -1
      · rw [hc] at CO
        rw [hp, hq]
        rw [hp] at ll
        rw [hq] at el
        have NL := Lib.hid ((leN_yes hc).trans (by rw [hp]))
        have NE := Lib.hid ((eqN_no (by omega)).trans hq)
        clear hc
        go_upto_region 5 with (fail)
        obtain ⟨w5, hw5⟩ : ∃ W, wr.alloc (.cells #[.int .i64 y.n, .int .i64 y.d, .string y.t] 67) = W := ⟨_, rfl⟩
        have B5 := Lib.hid (show Below w.heap.size w w5 from hw5 ▸ BB.out.alloc BB.out.size _)
        have KY := Lib.hid (show w5.heap[wr.heap.size]? = some (.cells #[.int .i64 y.n, .int .i64 y.d, .string y.t] 67 (0, 0)) from hw5 ▸ blk_new wr _ rfl)
        have KX := Lib.hid (show w5.heap[w.heap.size]? = some (.cells #[.int .i64 x.n, .int .i64 x.d, .string x.t] 67 (0, 0)) from hw5 ▸ blk_old KX.out)
        have B6 := Lib.hid (show Below wr.heap.size wr w5 from hw5 ▸ below1 wr _)
        rw [hw5]
        clear hw5
        obtain ⟨gx, hgx⟩ : ∃ g, wr.heap.size = g := ⟨_, rfl⟩
        rw [hgx] at KY ⊢
        clear hgx
        have KR5 := Lib.hid (blk_below B6.out KR.out)
        have H := Lib.hid (show HeldC w w5 ([(gx, 67, #[.int .i64 y.n, .int .i64 y.d, .string y.t]), (w.heap.size, 67, #[.int .i64 x.n, .int .i64 x.d, .string x.t]), ((w.heap.size + 1), 67, #[.int .i64 0, .int .i64 0, .string ⟨#[]⟩])]) from heldC_cons (heldC_cons (heldC_cons ⟨B5.out, (fun _ h => by cases h)⟩ KR5.out) KX.out) KY.out)
        refine run_region_seq (ops := (opsOf Try.f80 5)) (S := fun w' => HeldC w w' ([(gx, 67, #[.int .i64 y.n, .int .i64 y.d, .string y.t]), (w.heap.size, 67, #[.int .i64 x.n, .int .i64 x.d, .string x.t]), ((w.heap.size + 1), 67, #[.int .i64 0, .int .i64 0, .string ⟨#[]⟩])])) [(0, true), (1, true), (2, true), (3, false)] (by kernel_rfl) (by kernel_rfl) (by kernel_rfl) H.out ?_
        refine run_mov (v := .func (.func fid) #[] #[]) (show opAt (opsOf Try.f80 5) 0 = some (some 17, .move (.tmp 2), none) from by kernel_rfl) (by kernel_rfl) (by kernel_rfl) (by kernel_rfl) ?_
        refine runC_itm (b := gx) (show opAt (opsOf Try.f80 5) 1 = some (some 18, .load 67 (.tmp 10), none) from by kernel_rfl) (by kernel_rfl) (by kernel_rfl) (by kernel_rfl) (List.Mem.head _) ?_
        refine runC_itm (b := w.heap.size) (show opAt (opsOf Try.f80 5) 2 = some (some 19, .load 67 (.tmp 3), none) from by kernel_rfl) (by kernel_rfl) (by kernel_rfl) (by kernel_rfl) (List.Mem.tail _ (List.Mem.head _)) ?_
        refine run_callv (f := fid) (first := #[]) (cap := #[]) (args := [.agg #[.int .i64 y.n, .int .i64 y.d, .string y.t], .agg #[.int .i64 x.n, .int .i64 x.d, .string x.t]]) (show opAt (opsOf Try.f80 5) 3 = some (some 20, .call { callee := .value (.tmp 17), args := [(.tmp 18), (.tmp 19)].toArray, argTypes := [67, 67].toArray }, none) from by kernel_rfl) (by kernel_rfl) (by kernel_rfl) (by kernel_rfl) GO.out (by kernel_rfl) ?_
        refine (CO.out _ H.out.1).mono ?_
        rintro en rw1 ⟨rfl, hb⟩
        refine ⟨_, rfl, heldC_call H.out hb, ?_⟩
        have H := Lib.hid (heldC_call H.out hb)
        clear hb
        refine run_done ?_
        simp only [putAll, Act.put, List.setIfInBounds_toArray, List.set_cons_zero, List.set_cons_succ]
        have HB := Lib.hid H.out.1
        have HX := Lib.hid (heldC_at H.out (List.Mem.tail _ (List.Mem.head _)))
        have HZ := Lib.hid (heldC_at H.out (List.Mem.tail _ (List.Mem.tail _ (List.Mem.head _))))
        go_wp2
        go_roundw
        case rel => exact ⟨k + 1, by omega, by go_num, by rw [NL.out] <;> go_num, by rw [NE.out] <;> go_num, HB.out, HX.out, HZ.out⟩
        case measure => simp [intOf]; omega
      · by_cases hc0 : C k = 0
        · rw [hc0] at CO
          rw [hp, hq]
          rw [hp] at ll
          rw [hq] at el
          have NL := Lib.hid ((leN_no hc).trans hp)
          have NE := Lib.hid ((eqN_yes hc0).trans (by rw [hq]))
          clear hc
          go_upto_region 5 with (fail)
          obtain ⟨w5, hw5⟩ : ∃ W, wr.alloc (.cells #[.int .i64 y.n, .int .i64 y.d, .string y.t] 67) = W := ⟨_, rfl⟩
          have B5 := Lib.hid (show Below w.heap.size w w5 from hw5 ▸ BB.out.alloc BB.out.size _)
          have KY := Lib.hid (show w5.heap[wr.heap.size]? = some (.cells #[.int .i64 y.n, .int .i64 y.d, .string y.t] 67 (0, 0)) from hw5 ▸ blk_new wr _ rfl)
          have KX := Lib.hid (show w5.heap[w.heap.size]? = some (.cells #[.int .i64 x.n, .int .i64 x.d, .string x.t] 67 (0, 0)) from hw5 ▸ blk_old KX.out)
          have B6 := Lib.hid (show Below wr.heap.size wr w5 from hw5 ▸ below1 wr _)
          rw [hw5]
          clear hw5
          obtain ⟨gx, hgx⟩ : ∃ g, wr.heap.size = g := ⟨_, rfl⟩
          rw [hgx] at KY ⊢
          clear hgx
          have KR5 := Lib.hid (blk_below B6.out KR.out)
          have H := Lib.hid (show HeldC w w5 ([(gx, 67, #[.int .i64 y.n, .int .i64 y.d, .string y.t]), (w.heap.size, 67, #[.int .i64 x.n, .int .i64 x.d, .string x.t]), ((w.heap.size + 1), 67, #[.int .i64 0, .int .i64 0, .string ⟨#[]⟩])]) from heldC_cons (heldC_cons (heldC_cons ⟨B5.out, (fun _ h => by cases h)⟩ KR5.out) KX.out) KY.out)
          refine run_region_seq (ops := (opsOf Try.f80 5)) (S := fun w' => HeldC w w' ([(gx, 67, #[.int .i64 y.n, .int .i64 y.d, .string y.t]), (w.heap.size, 67, #[.int .i64 x.n, .int .i64 x.d, .string x.t]), ((w.heap.size + 1), 67, #[.int .i64 0, .int .i64 0, .string ⟨#[]⟩])])) [(0, true), (1, true), (2, true), (3, false)] (by kernel_rfl) (by kernel_rfl) (by kernel_rfl) H.out ?_
          refine run_mov (v := .func (.func fid) #[] #[]) (show opAt (opsOf Try.f80 5) 0 = some (some 17, .move (.tmp 2), none) from by kernel_rfl) (by kernel_rfl) (by kernel_rfl) (by kernel_rfl) ?_
          refine runC_itm (b := gx) (show opAt (opsOf Try.f80 5) 1 = some (some 18, .load 67 (.tmp 10), none) from by kernel_rfl) (by kernel_rfl) (by kernel_rfl) (by kernel_rfl) (List.Mem.head _) ?_
          refine runC_itm (b := w.heap.size) (show opAt (opsOf Try.f80 5) 2 = some (some 19, .load 67 (.tmp 3), none) from by kernel_rfl) (by kernel_rfl) (by kernel_rfl) (by kernel_rfl) (List.Mem.tail _ (List.Mem.head _)) ?_
          refine run_callv (f := fid) (first := #[]) (cap := #[]) (args := [.agg #[.int .i64 y.n, .int .i64 y.d, .string y.t], .agg #[.int .i64 x.n, .int .i64 x.d, .string x.t]]) (show opAt (opsOf Try.f80 5) 3 = some (some 20, .call { callee := .value (.tmp 17), args := [(.tmp 18), (.tmp 19)].toArray, argTypes := [67, 67].toArray }, none) from by kernel_rfl) (by kernel_rfl) (by kernel_rfl) (by kernel_rfl) GO.out (by kernel_rfl) ?_
          refine (CO.out _ H.out.1).mono ?_
          rintro en rw1 ⟨rfl, hb⟩
          refine ⟨_, rfl, heldC_call H.out hb, ?_⟩
          have H := Lib.hid (heldC_call H.out hb)
          clear hb
          refine run_done ?_
          simp only [putAll, Act.put, List.setIfInBounds_toArray, List.set_cons_zero, List.set_cons_succ]
          have HB := Lib.hid H.out.1
          have HX := Lib.hid (heldC_at H.out (List.Mem.tail _ (List.Mem.head _)))
          have HZ := Lib.hid (heldC_at H.out (List.Mem.tail _ (List.Mem.tail _ (List.Mem.head _))))
          go_wp2
          go_roundw
          case rel => exact ⟨k + 1, by omega, by go_num, by rw [NL.out] <;> go_num, by rw [NE.out] <;> go_num, HB.out, HX.out, HZ.out⟩
          case measure => simp [intOf]; omega
        · have NL0 := leN_no hc
          have NE0 := eqN_no hc0
          obtain ⟨z, hz⟩ : ∃ z, C k = z := ⟨_, rfl⟩
          rw [hz] at CO hc hc0
          have hb1 : (z == -1) = false := beq_eq_false_iff_ne.2 hc
          have hb0 : (z == 0) = false := beq_eq_false_iff_ne.2 hc0
          clear hz
          rw [hp, hq]
          rw [hp] at ll
          rw [hq] at el
          have NL := Lib.hid (NL0.trans hp)
          have NE := Lib.hid (NE0.trans hq)
          clear hc
          go_upto_region 5 with (fail)
          obtain ⟨w5, hw5⟩ : ∃ W, wr.alloc (.cells #[.int .i64 y.n, .int .i64 y.d, .string y.t] 67) = W := ⟨_, rfl⟩
          have B5 := Lib.hid (show Below w.heap.size w w5 from hw5 ▸ BB.out.alloc BB.out.size _)
          have KY := Lib.hid (show w5.heap[wr.heap.size]? = some (.cells #[.int .i64 y.n, .int .i64 y.d, .string y.t] 67 (0, 0)) from hw5 ▸ blk_new wr _ rfl)
          have KX := Lib.hid (show w5.heap[w.heap.size]? = some (.cells #[.int .i64 x.n, .int .i64 x.d, .string x.t] 67 (0, 0)) from hw5 ▸ blk_old KX.out)
          have B6 := Lib.hid (show Below wr.heap.size wr w5 from hw5 ▸ below1 wr _)
          rw [hw5]
          clear hw5
          obtain ⟨gx, hgx⟩ : ∃ g, wr.heap.size = g := ⟨_, rfl⟩
          rw [hgx] at KY ⊢
          clear hgx
          have KR5 := Lib.hid (blk_below B6.out KR.out)
          have H := Lib.hid (show HeldC w w5 ([(gx, 67, #[.int .i64 y.n, .int .i64 y.d, .string y.t]), (w.heap.size, 67, #[.int .i64 x.n, .int .i64 x.d, .string x.t]), ((w.heap.size + 1), 67, #[.int .i64 0, .int .i64 0, .string ⟨#[]⟩])]) from heldC_cons (heldC_cons (heldC_cons ⟨B5.out, (fun _ h => by cases h)⟩ KR5.out) KX.out) KY.out)
          refine run_region_seq (ops := (opsOf Try.f80 5)) (S := fun w' => HeldC w w' ([(gx, 67, #[.int .i64 y.n, .int .i64 y.d, .string y.t]), (w.heap.size, 67, #[.int .i64 x.n, .int .i64 x.d, .string x.t]), ((w.heap.size + 1), 67, #[.int .i64 0, .int .i64 0, .string ⟨#[]⟩])])) [(0, true), (1, true), (2, true), (3, false)] (by kernel_rfl) (by kernel_rfl) (by kernel_rfl) H.out ?_
          refine run_mov (v := .func (.func fid) #[] #[]) (show opAt (opsOf Try.f80 5) 0 = some (some 17, .move (.tmp 2), none) from by kernel_rfl) (by kernel_rfl) (by kernel_rfl) (by kernel_rfl) ?_
          refine runC_itm (b := gx) (show opAt (opsOf Try.f80 5) 1 = some (some 18, .load 67 (.tmp 10), none) from by kernel_rfl) (by kernel_rfl) (by kernel_rfl) (by kernel_rfl) (List.Mem.head _) ?_
          refine runC_itm (b := w.heap.size) (show opAt (opsOf Try.f80 5) 2 = some (some 19, .load 67 (.tmp 3), none) from by kernel_rfl) (by kernel_rfl) (by kernel_rfl) (by kernel_rfl) (List.Mem.tail _ (List.Mem.head _)) ?_
          refine run_callv (f := fid) (first := #[]) (cap := #[]) (args := [.agg #[.int .i64 y.n, .int .i64 y.d, .string y.t], .agg #[.int .i64 x.n, .int .i64 x.d, .string x.t]]) (show opAt (opsOf Try.f80 5) 3 = some (some 20, .call { callee := .value (.tmp 17), args := [(.tmp 18), (.tmp 19)].toArray, argTypes := [67, 67].toArray }, none) from by kernel_rfl) (by kernel_rfl) (by kernel_rfl) (by kernel_rfl) GO.out (by kernel_rfl) ?_
          refine (CO.out _ H.out.1).mono ?_
          rintro en rw1 ⟨rfl, hb⟩
          refine ⟨_, rfl, heldC_call H.out hb, ?_⟩
          have H := Lib.hid (heldC_call H.out hb)
          clear hb
          refine run_done ?_
          simp only [putAll, Act.put, List.setIfInBounds_toArray, List.set_cons_zero, List.set_cons_succ]
          have HB := Lib.hid H.out.1
          have HX := Lib.hid (heldC_at H.out (List.Mem.tail _ (List.Mem.head _)))
          have HZ := Lib.hid (heldC_at H.out (List.Mem.tail _ (List.Mem.tail _ (List.Mem.head _))))
          go_wp2
          go_roundw
          case rel => exact ⟨k + 1, by omega, by go_num, by rw [NL.out] <;> go_num, by rw [NE.out] <;> go_num, HB.out, HX.out, HZ.out⟩
          case measure => simp [intOf]; omega
    · obtain rfl : k = n := by omega
      obtain ⟨p, hp⟩ : ∃ p, leN C k = p := ⟨_, rfl⟩
      obtain ⟨q, hq⟩ : ∃ q, eqN C k = q := ⟨_, rfl⟩
      rw [hp, hq] at EV
      rw [hp, hq]
      rw [hp] at ll
      rw [hq] at el
      clear hp hq
      by_cases hq0 : q = 0
      · subst hq0
        have EV := Lib.hid (show V = noI by rw [EV.out]; rfl)
        obtain ⟨⟨z0, z1, z2⟩, f0, f1, f2⟩ := three KR.out
        go_wp2
        exact item_ret rfl rfl rfl KR.out ⟨by rw [EV.out]; rfl, below_three BB.out (Nat.le_succ _) _ _ _⟩
      · obtain ⟨m, hm⟩ : ∃ m, mkI (2 * (p : Int) + (q : Int) + 1) 2 = m := ⟨_, rfl⟩
        have EV := Lib.hid (show V = ⟨m.n, m.d, ⟨#[]⟩⟩ by rw [EV.out, if_neg hq0]; unfold mkE; rw [hm])
        have hqb : ((q : Int) == 0) = false := beq_eq_false_iff_ne.2 (by omega)
        have MK := Lib.hid (fun W => implMake (2 * (p : Int) + (q : Int) + 1) 2 W ⟨by omega, by omega⟩ ⟨by decide, by decide⟩)
        rw [hm] at MK
        clear hm
        go_wp2_with fail
        with_reducible refine (MK.out _).mono ?_
        rintro e w4 ⟨rfl, b⟩
        have B4 := Lib.hid (below_then BB.out b)
        have KR := Lib.hid (blk_below b KR.out)
        clear b
        obtain ⟨⟨z0, z1, z2⟩, f0, f1, f2⟩ := three KR.out
        go_wp2
        exact item_ret rfl rfl rfl KR.out ⟨by rw [EV.out], below_three B4.out (Nat.le_succ _) _ _ _⟩
/-- The argument's block and an item's beside those of a loop that appends. -/
theorem AppN.far2 {w wr : World} {r b : Nat} {kind : Int} {l : List It} {sa : Option Addr} {sn sc : Nat} {names : List ByteArray} {na : Option Addr} {nc : Nat} {F : List Nat} (h : AppN w wr r b kind l sa sn sc names na nc F) {g : Nat} (hg : g ≤ b) {t t2 : TypeId} {C C1 C2 C3 : Array Value} {q : Nat × TypeId × Array Value} (hq : q ∈ [(wr.heap.size, t2, C3), (g, t, C), (r, 31, C1), (b, 31, C2)]) : ∀ k, (Value.slice sa sn sc).ownBlock = some k → q.1 ≠ k := by
  intro k hk e
  have h1 := h.row.lt k hk
  have h2 := h.o2
  simp only [List.mem_cons, List.not_mem_nil, or_false] at hq
  rcases hq with rfl | rfl | rfl | rfl <;> (simp only at e; omega)
set_option maxHeartbeats 4000000 in
theorem implRanks (d : Nat) (v : Vec) (val : Value) (lo hi : Nat) (w : World) (hv : VecAt lo hi w d v val) (hhi : hi ≤ w.heap.size) (hsm : Small d v) :
    Calls Try.prog 36 #[val] w (ResVS 1 (rnkV v) (atmS v) w) := by
  obtain ⟨VV, hVV⟩ : ∃ V, v = V := ⟨_, rfl⟩
  rw [hVV]
  obtain ⟨kk, items, parts, names, cls, levels, code, env⟩ := v
  obtain ⟨d', ai, ci, ap, cp, an, cn, ac, cc, al, cl, ed, rfl, hI, hN, hC, hL, hP, hcap⟩ := vecAt_openC hv
  have C1 := Lib.hid (fun (w1 : World) (hb : Below w.heap.size w w1) (g : Nat) (hg : w1.heap[g]? = some (.cells #[.int .i64 kk, .slice ai items.length ci, .slice ap parts.length cp, .slice an names.length cn, .slice ac cls.length cc, .slice al levels.length cl, .int .i64 code, .int .i64 env] 31 (0, 0))) => (hVV ▸ implAtm1 d kk items parts names cls levels code env ai ap an ac al ci cp cn cc cl g lo hi w1 (hv.below hb hhi) (Nat.le_trans hhi hb.size) hsm hg : Calls Try.prog 66 #[.slice (some ⟨g, 0, none⟩) 1 1] w1 (fun e w' => e = .returned (.string (atmS VV)) ∧ Below w1.heap.size w1 w')))
  have li : items.length ≤ 1048576 := by subst ed; exact hsm.1
  have ln : names.length ≤ 1048576 := by subst ed; exact hsm.2.2.1
  have CO := Lib.hid (fun W => implCmpOf kk W)
  have CC := Lib.hid (fun (w1 : World) (hb : Below w.heap.size w w1) => implCopyAny names an cn lo hi w1 (hN.below hb hhi) ln)
  have AI := Lib.hid (fun (k : Nat) (w1 : World) (hk : k < items.length) (hb : Below w.heap.size w w1) => (hI.below hb hhi).at_ hk)
  have CR := Lib.hid (fun (fid : FuncId) (hf : CmpF kk fid) (h40 : items.length ≤ 40) (hok : ∀ i, i < items.length → ItOk kk (items.getD i noI)) (k : Nat) (hk : k < items.length) (w1 : World) (hb : Below w.heap.size w w1) =>
    (by have h := implRank fid (fun j => ordK kk (items.getD j noI) (items.getD k noI)) items (items.getD k noI) ai ci lo hi w1 (hI.below hb hhi) (Nat.le_trans hhi hb.size) h40 hf.go (fun i W hi1 _ => hf.call _ _ W (hok i hi1) (hok k hk)); rw [rnkI_of] at h; exact h :
    Calls Try.prog 80 #[.agg #[.int .i64 (items.getD k noI).n, .int .i64 (items.getD k noI).d, .string (items.getD k noI).t], .slice ai items.length ci, .func (.func fid) #[] #[]] w1 (fun e w' => e = .returned (.agg #[.int .i64 (rnkI kk items k).n, .int .i64 (rnkI kk items k).d, .string (rnkI kk items k).t]) ∧ Below w1.heap.size w1 w')))
  have XO := Lib.hid (fun (h : atmS VV = ⟨#[]⟩) => (by rw [← hVV] at h; exact fun i hi => atm_items h hi : ∀ i, i < items.length → ItOk kk (items.getD i noI)))
  have XV := Lib.hid (fun (h : atmS VV = ⟨#[]⟩) => (by have e := rnkV_yes h; rw [← hVV] at e ⊢; exact e : rnkV VV = mkN 2 (itF (rnkI kk items) items.length) names))
  have XL := Lib.hid (fun (h : atmS VV = ⟨#[]⟩) => (by have e := atm_len h; rw [← hVV] at e; exact e : items.length ≤ 40))
  obtain ⟨n, hn⟩ : ∃ n, items.length = n := ⟨_, rfl⟩
  rw [hn] at C1 AI CR XO XV XL li ⊢
  clear hv hI hN hC hL hP hsm ed hVV hcap hn
  go_enter Try.func36, Try.ntmps36
  go_wp2_with fail
  obtain ⟨w1, hw1⟩ : ∃ W, ((w.alloc (.cells #[.int .i64 kk, .slice ai n ci, .slice ap parts.length cp, .slice an names.length cn, .slice ac cls.length cc, .slice al levels.length cl, .int .i64 code, .int .i64 env] 31)).alloc (.cells #[.int .i64 0, .slice none 0 0, .slice none 0 0, .slice none 0 0, .slice none 0 0, .slice none 0 0, .int .i64 0, .int .i64 0] 31)).alloc (.cells #[.int .i64 kk, .slice ai n ci, .slice ap parts.length cp, .slice an names.length cn, .slice ac cls.length cc, .slice al levels.length cl, .int .i64 code, .int .i64 env] 31) = W := ⟨_, rfl⟩
  have hsz : (w.alloc (.cells #[.int .i64 kk, .slice ai n ci, .slice ap parts.length cp, .slice an names.length cn, .slice ac cls.length cc, .slice al levels.length cl, .int .i64 code, .int .i64 env] 31)).heap.size = w.heap.size + 1 := by simp
  have hsz2 : ((w.alloc (.cells #[.int .i64 kk, .slice ai n ci, .slice ap parts.length cp, .slice an names.length cn, .slice ac cls.length cc, .slice al levels.length cl, .int .i64 code, .int .i64 env] 31)).alloc (.cells #[.int .i64 0, .slice none 0 0, .slice none 0 0, .slice none 0 0, .slice none 0 0, .slice none 0 0, .int .i64 0, .int .i64 0] 31)).heap.size = w.heap.size + 1 + 1 := by simp
  have B1 := Lib.hid (show Below w.heap.size w w1 from hw1 ▸ ((below1 w _).alloc (by simp) _).alloc (by simp; omega) _)
  have KA := Lib.hid (show w1.heap[w.heap.size]? = some (.cells #[.int .i64 kk, .slice ai n ci, .slice ap parts.length cp, .slice an names.length cn, .slice ac cls.length cc, .slice al levels.length cl, .int .i64 code, .int .i64 env] 31 (0, 0)) from hw1 ▸ blk_old (blk_old (blk_new w _ rfl)))
  have KR := Lib.hid (show w1.heap[w.heap.size + 1]? = some (.cells #[.int .i64 0, .slice none 0 0, .slice none 0 0, .slice none 0 0, .slice none 0 0, .slice none 0 0, .int .i64 0, .int .i64 0] 31 (0, 0)) from hw1 ▸ blk_old (hsz ▸ blk_new (w.alloc (.cells #[.int .i64 kk, .slice ai n ci, .slice ap parts.length cp, .slice an names.length cn, .slice ac cls.length cc, .slice al levels.length cl, .int .i64 code, .int .i64 env] 31)) (.cells #[.int .i64 0, .slice none 0 0, .slice none 0 0, .slice none 0 0, .slice none 0 0, .slice none 0 0, .int .i64 0, .int .i64 0] 31) rfl))
  have KL := Lib.hid (show w1.heap[w.heap.size + 1 + 1]? = some (.cells #[.int .i64 kk, .slice ai n ci, .slice ap parts.length cp, .slice an names.length cn, .slice ac cls.length cc, .slice al levels.length cl, .int .i64 code, .int .i64 env] 31 (0, 0)) from hw1 ▸ hsz2 ▸ blk_new ((w.alloc (.cells #[.int .i64 kk, .slice ai n ci, .slice ap parts.length cp, .slice an names.length cn, .slice ac cls.length cc, .slice al levels.length cl, .int .i64 code, .int .i64 env] 31)).alloc (.cells #[.int .i64 0, .slice none 0 0, .slice none 0 0, .slice none 0 0, .slice none 0 0, .slice none 0 0, .int .i64 0, .int .i64 0] 31)) (.cells #[.int .i64 kk, .slice ai n ci, .slice ap parts.length cp, .slice an names.length cn, .slice ac cls.length cc, .slice al levels.length cl, .int .i64 code, .int .i64 env] 31) rfl)
  rw [hw1]
  clear hw1 hsz hsz2
  refine (C1.out _ B1.out _ KL.out).mono ?_
  rintro e w2 ⟨rfl, b⟩
  have B2 := Lib.hid (below_then B1.out b)
  have KA := Lib.hid (blk_below b KA.out)
  have KR := Lib.hid (blk_below b KR.out)
  clear b KL
  by_cases hs : atmS VV = ⟨#[]⟩
  · have XV1 := Lib.hid (XV.out hs)
    have XS1 := Lib.hid hs
    have hl := XL.out hs
    have XO := XO.out hs
    have CR := Lib.hid (fun fid hf => CR.out fid hf hl XO)
    rw [hs]
    clear hs XV XL XO
    obtain ⟨k0, k1, k2, k3, k4, k5, k6, k7⟩ := vec8 KA.out
    have hltA := (Array.getElem?_eq_some_iff.1 KA.out).1
    go_wp2_with fail
    refine (CO.out _).mono ?_
    rintro e w3 ⟨fid, rfl, hf, rfl⟩
    have CR := Lib.hid (CR.out fid hf)
    clear hf
    go_wp2_with fail
    with_reducible refine (CC.out _ B2.out).mono ?_
    rintro e w4 ⟨v, rfl, ⟨na, nc, F, rfl, hT, hnd, hr, hcap'⟩, b⟩
    have B4 := Lib.hid (below_then B2.out b)
    have hltR2 := (Array.getElem?_eq_some_iff.1 KR.out).1
    have KA := Lib.hid (blk_below b KA.out)
    have KR := Lib.hid (blk_below b KR.out)
    have S34 := Lib.hid b.size
    have hltR := (Array.getElem?_eq_some_iff.1 KR.out).1
    have hltA := (Array.getElem?_eq_some_iff.1 KA.out).1
    have ST := Lib.hid (show AppN w (w4.alloc (.cells #[.int .i64 2, .slice none 0 0, .slice none 0 0, .slice na names.length nc, .slice none 0 0, .slice none 0 0, .int .i64 0, .int .i64 0] 31)) (w.heap.size + 1) w4.heap.size 2 (itF (rnkI kk items) 0) none 0 0 names na nc F from
      ⟨blk_old KR.out, blk_new w4 _ rfl, ⟨rfl, .inl ⟨rfl, rfl⟩⟩, hT.kept (fun g hg => (below1 w4 _).block g (hr g hg).2), hcap', hnd, fun g hg => by have h1 := hr g hg; omega, B4.out.alloc B4.out.size _, by omega, hltR⟩)
    have SK := Lib.hid (show (w4.alloc (.cells #[.int .i64 2, .slice none 0 0, .slice none 0 0, .slice na names.length nc, .slice none 0 0, .slice none 0 0, .int .i64 0, .int .i64 0] 31)).heap[w.heap.size]? = some (.cells #[.int .i64 kk, .slice ai n ci, .slice ap parts.length cp, .slice an names.length cn, .slice ac cls.length cc, .slice al levels.length cl, .int .i64 code, .int .i64 env] 31 (0, 0)) from blk_old KA.out)
    clear b hT hnd hr hcap' k0 k1 k2 k3 k4 k5 k6 k7
    obtain ⟨k0, k1, k2, k3, k4, k5, k6, k7⟩ := vec8 KA.out
    go_wp2
    clear k0 k1 k2 k3 k4 k5 k6 k7
    obtain ⟨b, hb⟩ : ∃ b, w4.heap.size = b := ⟨_, rfl⟩
    rw [hb] at ST hltR ⊢
    clear hb
    go_loopw [26] (fun i wr => ∃ (k : Nat) (sa : Option Addr) (sn sc : Nat), k ≤ n ∧ i = .int .i64 k ∧ AppN w wr (w.heap.size + 1) b 2 (itF (rnkI kk items) k) sa sn sc names na nc F ∧ wr.heap[w.heap.size]? = some (.cells #[.int .i64 kk, .slice ai n ci, .slice ap parts.length cp, .slice an names.length cn, .slice ac cls.length cc, .slice al levels.length cl, .int .i64 code, .int .i64 env] 31 (0, 0))) (fun i _ => n - (intOf i).toNat)
    case atStart => exact ⟨0, none, 0, 0, Nat.zero_le _, rfl, ST.out, SK.out⟩
    case round =>
      obtain ⟨k, sa, sn, sc, hk, rfl, hap, hka⟩ := hrel
      have AP := Lib.hid hap
      have KA := Lib.hid hka
      clear hap hka
      by_cases hlt : k < n
      · obtain ⟨ba, off, rfl, hbB, c0, c1, c2'⟩ := AI.out _ _ hlt AP.out.below
        have hbw : ba < wr.heap.size := Nat.lt_of_lt_of_le (Nat.lt_of_lt_of_le hbB hhi) AP.out.below.size
        have c2 : wr.cell? ⟨ba, off + k * 3 + 2, none⟩ = some (.string (items.getD k noI).t) := c2'
        have CR := Lib.hid (fun w1 hb => CR.out k hlt w1 hb)
        have LN := Lib.hid (show (itF (rnkI kk items) k).length ≤ 1048576 by rw [itF_len]; omega)
        have NX := Lib.hid (itF_succ (rnkI kk items) k)
        obtain ⟨x, hx⟩ : ∃ x, items.getD k noI = x := ⟨_, rfl⟩
        rw [hx] at c0 c1 c2 CR
        have FAR := Lib.hid (fun C1 C2 C3 C q hq => AP.out.far2 (g := w.heap.size) (t := 31) (t2 := 67) (C := C) (C1 := C1) (C2 := C2) (C3 := C3) (q := q) (by omega) hq)
        have W0 := Lib.hid (show w.heap.size ≤ b + 1 by omega)
        have B0' := Lib.hid (show w.heap.size ≤ b by omega)
        clear hx c2' XV1 XS1
        go_upto_region 9 with (fail)
        clear c0 c1 c2
        obtain ⟨w5, hw5⟩ : ∃ W, wr.alloc (.cells #[.int .i64 x.n, .int .i64 x.d, .string x.t] 67) = W := ⟨_, rfl⟩
        have AP := Lib.hid (show AppN w w5 (w.heap.size + 1) b 2 (itF (rnkI kk items) k) sa sn sc names na nc F from hw5 ▸ AP.out.keep (below1 wr _))
        have X1 := Lib.hid (show w5.heap[wr.heap.size]? = some (.cells #[.int .i64 x.n, .int .i64 x.d, .string x.t] 67 (0, 0)) from hw5 ▸ blk_new wr _ rfl)
        have KA := Lib.hid (show w5.heap[w.heap.size]? = _ from hw5 ▸ blk_old KA.out)
        rw [hw5]
        clear hw5
        have H := Lib.hid (heldC_cons (heldC_cons AP.out.heldC KA.out) X1.out)
        obtain ⟨gx, hgx⟩ : ∃ g, wr.heap.size = g := ⟨_, rfl⟩
        rw [hgx] at H FAR ⊢
        refine run_region (ops := (opsOf Try.f36 9)) (S := fun w' => HeldC w w' ([(gx, 67, #[.int .i64 x.n, .int .i64 x.d, .string x.t]), (w.heap.size, 31, #[.int .i64 kk, .slice (some ⟨ba, off, none⟩) n ci, .slice ap parts.length cp, .slice an names.length cn, .slice ac cls.length cc, .slice al levels.length cl, .int .i64 code, .int .i64 env]), ((w.heap.size + 1), 31, #[.int .i64 0, .slice none 0 0, .slice none 0 0, .slice none 0 0, .slice none 0 0, .slice none 0 0, .int .i64 0, .int .i64 0]), (b, 31, #[.int .i64 2, .slice sa sn sc, .slice none 0 0, .slice na names.length nc, .slice none 0 0, .slice none 0 0, .int .i64 0, .int .i64 0])])) [(0, true), (1, true), (2, true), (3, true), (4, true), (5, true), (6, false), (7, false), (8, false), (9, true), (10, false)] (by kernel_rfl) (by kernel_rfl) (by kernel_rfl) (by kernel_rfl) (by kernel_rfl) (fun _ _ _ _ _ h => h) (heldC_drew H.out) ?_
        have H := Lib.hid (heldC_drew H.out)
        have AP := Lib.hid (AP.out.keep (below_drew' (Below.refl _ _)))
        refine runC_partV (b := b) (by kernel_rfl) (show opAt (opsOf Try.f36 9) 0 = some (some 30, .fieldAddr 31 (.tmp 6) 1, none) from by kernel_rfl) (by kernel_rfl) (by kernel_rfl) (by kernel_rfl) ?_
        refine runC_cell (b := b) (j := 1) (v := .slice sa sn sc) load_its (show opAt (opsOf Try.f36 9) 1 = some (some 31, .load 28 (.tmp 30), none) from by kernel_rfl) (by kernel_rfl) (by kernel_rfl) (by kernel_rfl) (List.Mem.tail _ (List.Mem.tail _ (List.Mem.tail _ (List.Mem.head _)))) rfl ?_
        refine runC_itm (b := gx) (show opAt (opsOf Try.f36 9) 2 = some (some 32, .load 67 (.tmp 8), none) from by kernel_rfl) (by kernel_rfl) (by kernel_rfl) (by kernel_rfl) (List.Mem.head _) ?_
        refine runC_partV (b := w.heap.size) (by kernel_rfl) (show opAt (opsOf Try.f36 9) 3 = some (some 33, .fieldAddr 31 (.tmp 1) 1, none) from by kernel_rfl) (by kernel_rfl) (by kernel_rfl) (by kernel_rfl) ?_
        refine runC_cell (b := w.heap.size) (j := 1) (v := .slice (some ⟨ba, off, none⟩) n ci) load_its (show opAt (opsOf Try.f36 9) 4 = some (some 34, .load 28 (.tmp 33), none) from by kernel_rfl) (by kernel_rfl) (by kernel_rfl) (by kernel_rfl) (List.Mem.tail _ (List.Mem.head _)) rfl ?_
        refine run_mov (v := .func (.func fid) #[] #[]) (show opAt (opsOf Try.f36 9) 5 = some (some 35, .move (.tmp 5), none) from by kernel_rfl) (by kernel_rfl) (by kernel_rfl) (by kernel_rfl) ?_
        refine run_call (args := [.agg #[.int .i64 x.n, .int .i64 x.d, .string x.t], .slice (some ⟨ba, off, none⟩) n ci, .func (.func fid) #[] #[]]) (show opAt (opsOf Try.f36 9) 6 = some (some 36, .call { callee := .value (.func 80), args := [(.tmp 32), (.tmp 34), (.tmp 35)].toArray, argTypes := [67, 28, 80].toArray }, none) from by kernel_rfl) (by kernel_rfl) (by kernel_rfl) (by kernel_rfl) (by kernel_rfl) ?_
        refine (CR.out _ H.out.1).mono ?_
        rintro en rw1 ⟨rfl, hb⟩
        refine ⟨_, rfl, heldC_call H.out hb, ?_⟩
        have H := Lib.hid (heldC_call H.out hb)
        have AP := Lib.hid (AP.out.keep hb)
        clear hb
        refine tail_item2 (rnkI kk items k) (show opAt (opsOf Try.f36 9) 7 = some (some 37, .buildSlice 28 1 #[(0, (.tmp 36))], none) from by kernel_rfl) (by kernel_rfl) (by kernel_rfl) (show opAt (opsOf Try.f36 9) 8 = some (some 38, .call { callee := .builtin .append, args := [(.tmp 31), (.tmp 37)].toArray, argTypes := [28, 28].toArray }, none) from by kernel_rfl) (by kernel_rfl) (fun _ => by kernel_rfl) (show opAt (opsOf Try.f36 9) 9 = some (some 39, .fieldAddr 31 (.tmp 6) 1, none) from by kernel_rfl) (by kernel_rfl) (by kernel_rfl) (fun _ _ => by kernel_rfl) (show opAt (opsOf Try.f36 9) 10 = some (none, .store 28 (.tmp 39) (.tmp 38), none) from by kernel_rfl) (by kernel_rfl) (by kernel_rfl) H.out AP.out.row LN.out (Nat.succ_le_of_lt (Array.getElem?_eq_some_iff.1 (heldC_at H.out (List.Mem.tail _ (List.Mem.tail _ (List.Mem.tail _ (List.Mem.head _)))))).1) W0.out (List.Mem.tail _ (List.Mem.tail _ (List.Mem.tail _ (List.Mem.head _)))) rfl (Nat.lt_succ_self _) B0'.out (fun q hq => FAR.out _ _ _ _ q hq) ?_
        rintro v' w2 ⟨sa, sn, sc, rfl⟩ hK hO hB hZ hR hG
        simp only [putAll, Act.put, List.setIfInBounds_toArray, List.set_cons_zero, List.set_cons_succ]
        have AN := Lib.hid (AP.out.next hK hO hB (hR _ (List.Mem.tail _ (List.Mem.tail _ (List.Mem.head _))) (by simp only; omega)) (fun g hg => hG g (by have := AP.out.rng g hg; have := AP.out.big; omega) (by have := AP.out.rng g hg; omega) (fun j hj => by have := (AP.out.row.lt j hj).1; have := AP.out.rng g hg; omega)))
        have KA := Lib.hid (hR _ (List.Mem.tail _ (List.Mem.head _)) (by simp only; omega))
        clear hK hO hB hR hG H FAR LN hgx
        go_wp2
        go_roundw
        case rel => exact ⟨k + 1, sa, sn, sc, by omega, by go_num, NX.out ▸ AN.out, KA.out⟩
        case measure => simp [intOf]; omega
      · obtain rfl : k = n := by omega
        have K1 := Lib.hid AP.out.vec
        have K0 := Lib.hid AP.out.res
        have FN := Lib.hid AP.out.fin
        obtain ⟨k0, k1, k2, k3, k4, k5, k6, k7⟩ := vec8 K1.out
        obtain ⟨z0, z1, z2, z3, z4, z5, z6, z7⟩ := vec8 K0.out
        obtain ⟨f0, f1, f2, f3, f4, f5, f6, f7⟩ := free8 K0.out
        go_wp2
        rw [XV1.out, XS1.out]
        exact vec_endS rfl rfl rfl rfl K0.out FN.out.withS
  · have XV1 := Lib.hid (rnkV_no hs)
    obtain ⟨R, hR⟩ : ∃ R, atmS VV = R := ⟨_, rfl⟩
    have XS1 := Lib.hid hR
    rw [hR] at hs ⊢
    have hRb : (R.toList == []) = false := by have h := str_not hs; rw [ByteArray.toList_eq ⟨#[]⟩] at h; exact h
    clear hs hR
    obtain ⟨z0, z1, z2, z3, z4, z5, z6, z7⟩ := vec8 KR.out
    obtain ⟨f0, f1, f2, f3, f4, f5, f6, f7⟩ := free8 KR.out
    go_wp2
    rw [XV1.out, XS1.out]
    exact vec_endS rfl rfl rfl rfl KR.out (zeroS _ w _ (put8_below B2.out (Nat.le_succ _)))
end Go.Proofs.Ytfbpbpbmnieieaa

/- Ranks of the reference. -/
namespace Go.Proofs.Ytfbpbpbmnieieaa
open Go.RowKit
set_option maxRecDepth 100000
set_option linter.unusedVariables false

/-- The counts as the reference makes them. -/
noncomputable def ahP (kk : Int) (l : List It) (x : It) (j : Nat) : Bool := ahdB kk (l.getD j noI) x false
noncomputable def smP (kk : Int) (l : List It) (x : It) (j : Nat) : Bool := bB (ahP kk l x j = false ∧ l.getD j noI = x)
noncomputable def aN (kk : Int) (l : List It) (x : It) (n : Nat) : Nat := (whN (ahP kk l x) n).length
noncomputable def sN (kk : Int) (l : List It) (x : It) (n : Nat) : Nat := (whN (smP kk l x) n).length
theorem aN_le (kk : Int) (l : List It) (x : It) (n : Nat) : aN kk l x n ≤ n := whN_len _ _
theorem sN_le (kk : Int) (l : List It) (x : It) (n : Nat) : sN kk l x n ≤ n := whN_len _ _
theorem aN_yes {kk : Int} {l : List It} {x : It} {k : Nat} (h : ahP kk l x k = true) : aN kk l x (k + 1) = aN kk l x k + 1 := by unfold aN; rw [whN_yes h]; simp
theorem aN_no {kk : Int} {l : List It} {x : It} {k : Nat} (h : ahP kk l x k = false) : aN kk l x (k + 1) = aN kk l x k := by unfold aN; rw [whN_no h]
theorem sN_yes {kk : Int} {l : List It} {x : It} {k : Nat} (h : smP kk l x k = true) : sN kk l x (k + 1) = sN kk l x k + 1 := by unfold sN; rw [whN_yes h]; simp
theorem sN_no {kk : Int} {l : List It} {x : It} {k : Nat} (h : smP kk l x k = false) : sN kk l x (k + 1) = sN kk l x k := by unfold sN; rw [whN_no h]
theorem whN_none {p : Nat → Bool} {n : Nat} (h : ∀ i, i < n → p i = false) : whN p n = [] := by
  rw [whN_congr (q := fun _ => false) h]; unfold whN; simp
theorem rnk_miss {kk : Int} {l : List It} {k : Nat} (ho : ∀ i, i < l.length → ItOk kk (l.getD i noI)) (hk : k < l.length) (h : (l.getD k noI).d = 0) : rnkI kk l k = noI := by
  have e : eqN (fun j => ordK kk (l.getD j noI) (l.getD k noI)) l.length = 0 := by
    unfold eqN
    rw [whN_none (fun i hi => decide_eq_false (by show ¬ ordK kk (l.getD i noI) (l.getD k noI) = 0; rw [ord_non (ho i hi) (ho k hk) (.inr h)]; decide))]
    rfl
  rw [← rnkI_of]
  unfold rnkC
  rw [if_pos e]
theorem rnk_known {kk : Int} {l : List It} {k : Nat} (ho : ∀ i, i < l.length → ItOk kk (l.getD i noI)) (hk : k < l.length) (h : ¬ (l.getD k noI).d = 0) : rnkI kk l k = mkE (2 * (aN kk l (l.getD k noI) l.length : Int) + (sN kk l (l.getD k noI) l.length : Int) + 1) 2 := by
  have e1 : leN (fun j => ordK kk (l.getD j noI) (l.getD k noI)) l.length = aN kk l (l.getD k noI) l.length := by
    unfold leN aN
    rw [whN_congr (fun i hi => ?_)]
    show decide (ordK kk (l.getD i noI) (l.getD k noI) = -1) = _
    unfold ahP
    by_cases hd : (l.getD i noI).d = 0
    · rw [ahd_x hd, ord_non (ho i hi) (ho k hk) (.inl hd)]; rfl
    · rw [ahd_known hd h]
      by_cases c : ordK kk (l.getD i noI) (l.getD k noI) = -1
      · rw [decide_eq_true c, bB_yes (.inl ⟨c, rfl⟩)]
      · rw [decide_eq_false c, bB_no (fun q => q.elim (fun q => c q.1) (fun q => by cases q.2))]
  have e2 : eqN (fun j => ordK kk (l.getD j noI) (l.getD k noI)) l.length = sN kk l (l.getD k noI) l.length := by
    unfold eqN sN
    rw [whN_congr (fun i hi => ?_)]
    show decide (ordK kk (l.getD i noI) (l.getD k noI) = 0) = _
    unfold smP ahP
    by_cases hd : (l.getD i noI).d = 0
    · rw [ord_non (ho i hi) (ho k hk) (.inl hd), bB_no (show ¬ (ahdB kk (l.getD i noI) (l.getD k noI) false = false ∧ l.getD i noI = l.getD k noI) from fun q => h (q.2 ▸ hd))]; rfl
    · obtain ⟨_, c2⟩ := ord_known (ho i hi) (ho k hk) hd h
      rw [ahd_known hd h]
      by_cases c : ordK kk (l.getD i noI) (l.getD k noI) = 0
      · rw [decide_eq_true c, bB_yes ⟨bB_no (fun (q : (ordK kk (l.getD i noI) (l.getD k noI) = -1 ∧ false = false) ∨ (ordK kk (l.getD i noI) (l.getD k noI) = 1 ∧ false = true)) => q.elim (fun q => by rw [c] at q; cases q.1) (fun q => (by cases q.2))), c2.1 c⟩]
      · rw [decide_eq_false c, bB_no (show ¬ (bB ((ordK kk (l.getD i noI) (l.getD k noI) = -1 ∧ false = false) ∨ (ordK kk (l.getD i noI) (l.getD k noI) = 1 ∧ false = true)) = false ∧ l.getD i noI = l.getD k noI) from fun q => c (c2.2 q.2))]
  have e3 : ¬ eqN (fun j => ordK kk (l.getD j noI) (l.getD k noI)) l.length = 0 := by
    intro e
    have hm : k ∈ whN (fun i => decide (ordK kk (l.getD i noI) (l.getD k noI) = 0)) l.length := List.mem_filter.2 ⟨List.mem_range.2 hk, decide_eq_true ((ord_known (ho k hk) (ho k hk) h h).2.2 rfl)⟩
    rw [List.eq_nil_of_length_eq_zero e] at hm
    cases hm
  rw [← rnkI_of]
  unfold rnkC
  rw [if_neg e3, e1, e2]
set_option maxHeartbeats 8000000 in
theorem specRanks (d : Nat) (v : Vec) (val : Value) (lo hi : Nat) (w : World) (hv : VecAt lo hi w d v val) (hhi : hi ≤ w.heap.size) (hsm : Small d v) :
    Calls Try.prog 35 #[val] w (ResVS 1 (rnkV v) (atmS v) w) := by
  have C1 := Lib.hid (fun (w1 : World) (hb : Below w.heap.size w w1) => specAtm d v val lo hi w1 (hv.below hb hhi) (Nat.le_trans hhi hb.size) hsm)
  obtain ⟨VV, hVV⟩ : ∃ V, v = V := ⟨_, rfl⟩
  rw [hVV] at C1 ⊢
  obtain ⟨kk, items, parts, names, cls, levels, code, env⟩ := v
  obtain ⟨d', ai, ci, ap, cp, an, cn, ac, cc, al, cl, ed, rfl, hI, hN, hC, hL, hP⟩ := vecAt_open hv
  have li : items.length ≤ 1048576 := by subst ed; exact hsm.1
  have ln : names.length ≤ 1048576 := by subst ed; exact hsm.2.2.1
  have AI := Lib.hid (fun (k : Nat) (w1 : World) (hk : k < items.length) (hb : Below w.heap.size w w1) => (hI.below hb hhi).at_ hk)
  have HT := Lib.hid (fun (w1 : World) (hb : Below w.heap.size w w1) => hN.below hb hhi)
  have XO := Lib.hid (fun (h : atmS VV = ⟨#[]⟩) => (by rw [← hVV] at h; exact fun i hi => atm_items h hi : ∀ i, i < items.length → ItOk kk (items.getD i noI)))
  have XV := Lib.hid (fun (h : atmS VV = ⟨#[]⟩) => (by have e := rnkV_yes h; rw [← hVV] at e ⊢; exact e : rnkV VV = mkN 2 (itF (rnkI kk items) items.length) names))
  have XL := Lib.hid (fun (h : atmS VV = ⟨#[]⟩) => (by have e := atm_len h; rw [← hVV] at e; exact e : items.length ≤ 40))
  have RM := Lib.hid (fun (ho : ∀ i, i < items.length → ItOk kk (items.getD i noI)) k (hk : k < items.length) (h : (items.getD k noI).d = 0) => rnk_miss ho hk h)
  have RK := Lib.hid (fun (ho : ∀ i, i < items.length → ItOk kk (items.getD i noI)) k (hk : k < items.length) (h : ¬ (items.getD k noI).d = 0) => rnk_known ho hk h)
  obtain ⟨n, hn⟩ : ∃ n, items.length = n := ⟨_, rfl⟩
  rw [hn] at C1 AI XO XV XL RM RK li ⊢
  clear hv hI hN hC hL hP hsm ed hVV hn
  go_enter Try.func35, Try.ntmps35
  go_wp2_with fail
  obtain ⟨w1, hw1⟩ : ∃ W, (w.alloc (.cells #[.int .i64 kk, .slice ai n ci, .slice ap parts.length cp, .slice an names.length cn, .slice ac cls.length cc, .slice al levels.length cl, .int .i64 code, .int .i64 env] 31)).alloc (.cells #[.int .i64 0, .slice none 0 0, .slice none 0 0, .slice none 0 0, .slice none 0 0, .slice none 0 0, .int .i64 0, .int .i64 0] 31) = W := ⟨_, rfl⟩
  have hsz : (w.alloc (.cells #[.int .i64 kk, .slice ai n ci, .slice ap parts.length cp, .slice an names.length cn, .slice ac cls.length cc, .slice al levels.length cl, .int .i64 code, .int .i64 env] 31)).heap.size = w.heap.size + 1 := by simp
  have B1 := Lib.hid (show Below w.heap.size w w1 from hw1 ▸ (below1 w _).alloc (by simp) _)
  have KA := Lib.hid (show w1.heap[w.heap.size]? = some (.cells #[.int .i64 kk, .slice ai n ci, .slice ap parts.length cp, .slice an names.length cn, .slice ac cls.length cc, .slice al levels.length cl, .int .i64 code, .int .i64 env] 31 (0, 0)) from hw1 ▸ blk_old (blk_new w _ rfl))
  have KR := Lib.hid (show w1.heap[w.heap.size + 1]? = some (.cells #[.int .i64 0, .slice none 0 0, .slice none 0 0, .slice none 0 0, .slice none 0 0, .slice none 0 0, .int .i64 0, .int .i64 0] 31 (0, 0)) from hw1 ▸ hsz ▸ blk_new (w.alloc (.cells #[.int .i64 kk, .slice ai n ci, .slice ap parts.length cp, .slice an names.length cn, .slice ac cls.length cc, .slice al levels.length cl, .int .i64 code, .int .i64 env] 31)) (.cells #[.int .i64 0, .slice none 0 0, .slice none 0 0, .slice none 0 0, .slice none 0 0, .slice none 0 0, .int .i64 0, .int .i64 0] 31) rfl)
  rw [hw1]
  clear hw1 hsz
  with_reducible refine (C1.out _ B1.out).mono ?_
  rintro e w2 ⟨rfl, b⟩
  have B2 := Lib.hid (below_then B1.out b)
  have KA := Lib.hid (blk_below b KA.out)
  have KR := Lib.hid (blk_below b KR.out)
  clear b
  by_cases hs : atmS VV = ⟨#[]⟩
  · have XV1 := Lib.hid (XV.out hs)
    have XS1 := Lib.hid hs
    have hl := XL.out hs
    have XO := Lib.hid (XO.out hs)
    have RM := Lib.hid (RM.out XO.out)
    have RK := Lib.hid (RK.out XO.out)
    rw [hs]
    clear hs XV XL
    obtain ⟨k0, k1, k2, k3, k4, k5, k6, k7⟩ := vec8 KA.out
    have hkw := (Array.getElem?_eq_some_iff.1 KA.out).1
    have hrw := (Array.getElem?_eq_some_iff.1 KR.out).1
    obtain ⟨w3, hw3⟩ : ∃ W, w2.alloc (.cells #[] 9) = W := ⟨_, rfl⟩
    have b3 : Below w2.heap.size w2 w3 := hw3 ▸ below1 w2 _
    have KS := Lib.hid (show w3.heap[w2.heap.size]? = some (.cells #[] 9 (0, 0)) from hw3 ▸ blk_new w2 _ rfl)
    have B3 := Lib.hid b3
    have B3w := Lib.hid (below_then B2.out b3)
    have EW := Lib.hid hw3
    clear hw3 b3
    go_wp2_with (at_builtin; rw [EW.out]; refine wpList_copyTexts rfl _ _ rfl w2.heap.size _ rfl (.inr ⟨w2.heap.size, Nat.le_refl _, rfl, KS.out⟩) an cn names lo hi rfl (HT.out _ B3w.out) ln B3.out.size ?_)
    intro v' w4 hcp hb4
    obtain ⟨na, nc, F, rfl, hT, hnd, hr, hcap'⟩ := hcp
    have B24 := B3.out.trans hb4
    have B4 := Lib.hid (below_then B2.out B24)
    have KA := Lib.hid (blk_below B24 KA.out)
    have KR := Lib.hid (blk_below B24 KR.out)
    have hltR := (Array.getElem?_eq_some_iff.1 KR.out).1
    have hltA := (Array.getElem?_eq_some_iff.1 KA.out).1
    have ST := Lib.hid (show AppN w (w4.alloc (.cells #[.int .i64 2, .slice none 0 0, .slice none 0 0, .slice na names.length nc, .slice none 0 0, .slice none 0 0, .int .i64 0, .int .i64 0] 31)) (w.heap.size + 1) w4.heap.size 2 (itF (rnkI kk items) 0) none 0 0 names na nc F from
      ⟨blk_old KR.out, blk_new w4 _ rfl, ⟨rfl, .inl ⟨rfl, rfl⟩⟩, hT.kept (fun g hg => (below1 w4 _).block g (hr g hg).2), hcap', hnd, fun g hg => by have h1 := hr g hg; omega, B4.out.alloc B4.out.size _, by omega, hltR⟩)
    have SK := Lib.hid (show (w4.alloc (.cells #[.int .i64 2, .slice none 0 0, .slice none 0 0, .slice na names.length nc, .slice none 0 0, .slice none 0 0, .int .i64 0, .int .i64 0] 31)).heap[w.heap.size]? = some (.cells #[.int .i64 kk, .slice ai n ci, .slice ap parts.length cp, .slice an names.length cn, .slice ac cls.length cc, .slice al levels.length cl, .int .i64 code, .int .i64 env] 31 (0, 0)) from blk_old KA.out)
    clear B24 hb4 hT hnd hr hcap' k0 k1 k2 k3 k4 k5 k6 k7 hkw hrw
    go_wp2
    obtain ⟨b, hb⟩ : ∃ b, w4.heap.size = b := ⟨_, rfl⟩
    rw [hb] at ST hltR hltA ⊢
    clear hb
    go_loopw [6] (fun i wr => ∃ (k : Nat) (sa : Option Addr) (sn sc : Nat), k ≤ n ∧ i = .int .i64 k ∧ AppN w wr (w.heap.size + 1) b 2 (itF (rnkI kk items) k) sa sn sc names na nc F ∧ wr.heap[w.heap.size]? = some (.cells #[.int .i64 kk, .slice ai n ci, .slice ap parts.length cp, .slice an names.length cn, .slice ac cls.length cc, .slice al levels.length cl, .int .i64 code, .int .i64 env] 31 (0, 0))) (fun i _ => n - (intOf i).toNat)
    case atStart => exact ⟨0, none, 0, 0, Nat.zero_le _, rfl, ST.out, SK.out⟩
    case round =>
      obtain ⟨k, sa, sn, sc, hk, rfl, hap, hka⟩ := hrel
      have AP := Lib.hid hap
      have KA := Lib.hid hka
      clear hap hka
      obtain ⟨m0, m1, m2, m3, m4, m5, m6, m7⟩ := vec8 KA.out
      obtain ⟨wo, rfl⟩ : ∃ wo : World, wo = wr := ⟨_, rfl⟩
      by_cases hlt : k < n
      · obtain ⟨ba, off, rfl, hbB, c0, c1, c2'⟩ := AI.out _ _ hlt AP.out.below
        have hbw : ba < wo.heap.size := Nat.lt_of_lt_of_le (Nat.lt_of_lt_of_le hbB hhi) AP.out.below.size
        have c2 : wo.cell? ⟨ba, off + k * 3 + 2, none⟩ = some (.string (items.getD k noI).t) := c2'
        have OK := Lib.hid (XO.out k hlt)
        have LN := Lib.hid (show (itF (rnkI kk items) k).length ≤ 1048576 by rw [itF_len]; omega)
        have NX := Lib.hid (itF_succ (rnkI kk items) k)
        have RM1 := Lib.hid (RM.out k hlt)
        have RK1 := Lib.hid (RK.out k hlt)
        clear RM RK
        have W0 := Lib.hid (show w.heap.size ≤ b + 1 by omega)
        have B0' := Lib.hid (show w.heap.size ≤ b by omega)
        have hwo := (Array.getElem?_eq_some_iff.1 KA.out).1
        obtain ⟨x, hx⟩ : ∃ x, items.getD k noI = x := ⟨_, rfl⟩
        rw [hx] at c0 c1 c2 OK RM1 RK1
        clear hx c2' XV1 XS1
        have Z0 := Lib.hid (show aN kk items x 0 = 0 from Nat.le_zero.1 (aN_le _ _ _ 0))
        have Z1 := Lib.hid (show sN kk items x 0 = 0 from Nat.le_zero.1 (sN_le _ _ _ 0))
        go_wp2
        go_loopw [7, 8, 9] (fun u v i wr => ∃ j : Nat, j ≤ n ∧ i = .int .i64 j ∧ u = .int .i64 (aN kk items x j) ∧ v = .int .i64 (sN kk items x j) ∧ Below wo.heap.size wo wr) (fun _ _ i _ => n - (intOf i).toNat)
        case atStart => exact ⟨0, Nat.zero_le _, rfl, by rw [Z0.out]; rfl, by rw [Z1.out]; rfl, Below.refl _ _⟩
        case round =>
          obtain ⟨j, hj, rfl, rfl, rfl, hbj⟩ := hrel
          have BJ := Lib.hid hbj
          have KJ := Lib.hid (blk_below hbj KA.out)
          clear hbj
          obtain ⟨q0, q1, q2, q3, q4, q5, q6, q7⟩ := vec8 KJ.out
          have la := aN_le kk items x j
          have ls := sN_le kk items x j
          obtain ⟨A, hA⟩ : ∃ A, aN kk items x j = A := ⟨_, rfl⟩
          obtain ⟨T, hT⟩ : ∃ T, sN kk items x j = T := ⟨_, rfl⟩
          rw [hA] at la
          rw [hT] at ls
          rw [hA, hT]
          by_cases hlj : j < n
          · obtain ⟨ba', off', e', _, d0, d1, d2'⟩ := AI.out _ _ hlj AP.out.below
            simp only [Option.some.injEq, Addr.mk.injEq, and_true] at e'
            obtain ⟨rfl, rfl⟩ := e'
            have d2 : wo.cell? ⟨ba, off + j * 3 + 2, none⟩ = some (.string (items.getD j noI).t) := d2'
            have OJ := Lib.hid (XO.out j hlj)
            have AY := Lib.hid (fun (h : ahP kk items x j = true) => aN_yes h)
            have AX := Lib.hid (fun (h : ahP kk items x j = false) => aN_no h)
            have SY := Lib.hid (fun (h : smP kk items x j = true) => sN_yes h)
            have SX := Lib.hid (fun (h : smP kk items x j = false) => sN_no h)
            have EP : ahP kk items x j = ahdB kk (items.getD j noI) x false := rfl
            have ES : smP kk items x j = bB (ahP kk items x j = false ∧ items.getD j noI = x) := rfl
            obtain ⟨y, hy⟩ : ∃ y, items.getD j noI = y := ⟨_, rfl⟩
            rw [hy] at d0 d1 d2 OJ EP ES
            have CA := Lib.hid (fun W => specAhead kk y x false W OJ.out OK.out)
            have H := Lib.hid (show HeldC wo wr [] from ⟨BJ.out, (fun _ h => by cases h)⟩)
            clear hy d2'
            cases hB : ahdB kk y x false with
            | true =>
              rw [hB] at CA EP
              have NA := Lib.hid ((AY.out EP).trans (by rw [hA]))
              have NS := Lib.hid ((SX.out (by rw [ES, EP]; exact bB_no (fun h => by cases h.1))).trans hT)
              clear hB EP ES hA hT
              go_upto_region 13 with (fail)
              refine run_region (ops := (opsOf Try.f35 13)) (S := fun w' => HeldC wo w' ([])) [(0, true), (1, true), (2, true), (3, true), (4, true), (5, true), (6, true), (7, true), (8, true), (9, true), (10, true), (11, true), (12, false)] (by kernel_rfl) (by kernel_rfl) (by kernel_rfl) (by kernel_rfl) (by kernel_rfl) (fun _ _ _ _ _ h => h) (heldC_drew H.out) ?_
              have H := Lib.hid (heldC_drew H.out)
              refine runC_partV (b := w.heap.size) (by kernel_rfl) (show opAt (opsOf Try.f35 13) 0 = some (some 36, .fieldAddr 31 (.tmp 1) 0, none) from by kernel_rfl) (by kernel_rfl) (by kernel_rfl) (by kernel_rfl) ?_
              refine runC_old (b := w.heap.size) (j := 0) (v := .int .i64 kk) load_int (show opAt (opsOf Try.f35 13) 1 = some (some 37, .load 3 (.tmp 36), none) from by kernel_rfl) (by kernel_rfl) (by kernel_rfl) (by kernel_rfl) hwo m0 ?_
              refine runC_partV (b := w.heap.size) (by kernel_rfl) (show opAt (opsOf Try.f35 13) 2 = some (some 38, .fieldAddr 31 (.tmp 1) 1, none) from by kernel_rfl) (by kernel_rfl) (by kernel_rfl) (by kernel_rfl) ?_
              refine runC_old (b := w.heap.size) (j := 1) (v := .slice (some ⟨ba, off, none⟩) n ci) load_its (show opAt (opsOf Try.f35 13) 3 = some (some 39, .load 28 (.tmp 38), none) from by kernel_rfl) (by kernel_rfl) (by kernel_rfl) (by kernel_rfl) hwo m1 ?_
              refine run_mov (v := .int .i64 ((j : Int))) (show opAt (opsOf Try.f35 13) 4 = some (some 40, .move (.tmp 9), none) from by kernel_rfl) (by kernel_rfl) (by kernel_rfl) (by kernel_rfl) ?_
              refine run_idx3 (n := n) (c := ci) (b := ba) (off := off) (k := j) (show opAt (opsOf Try.f35 13) 5 = some (some 41, .indexAddr 28 (.tmp 39) (.tmp 40), none) from by kernel_rfl) (by kernel_rfl) (by kernel_rfl) (by kernel_rfl) (by kernel_rfl) hlj ?_
              refine runC_oldI (b := ba) (j := off + j * 3) (z := y) (show opAt (opsOf Try.f35 13) 6 = some (some 42, .load 67 (.tmp 41), none) from by kernel_rfl) (by kernel_rfl) (by kernel_rfl) (by kernel_rfl) hbw d0 d1 d2 ?_
              refine runC_partV (b := w.heap.size) (by kernel_rfl) (show opAt (opsOf Try.f35 13) 7 = some (some 43, .fieldAddr 31 (.tmp 1) 1, none) from by kernel_rfl) (by kernel_rfl) (by kernel_rfl) (by kernel_rfl) ?_
              refine runC_old (b := w.heap.size) (j := 1) (v := .slice (some ⟨ba, off, none⟩) n ci) load_its (show opAt (opsOf Try.f35 13) 8 = some (some 44, .load 28 (.tmp 43), none) from by kernel_rfl) (by kernel_rfl) (by kernel_rfl) (by kernel_rfl) hwo m1 ?_
              refine run_mov (v := .int .i64 ((k : Int))) (show opAt (opsOf Try.f35 13) 9 = some (some 45, .move (.tmp 6), none) from by kernel_rfl) (by kernel_rfl) (by kernel_rfl) (by kernel_rfl) ?_
              refine run_idx3 (n := n) (c := ci) (b := ba) (off := off) (k := k) (show opAt (opsOf Try.f35 13) 10 = some (some 46, .indexAddr 28 (.tmp 44) (.tmp 45), none) from by kernel_rfl) (by kernel_rfl) (by kernel_rfl) (by kernel_rfl) (by kernel_rfl) hlt ?_
              refine runC_oldI (b := ba) (j := off + k * 3) (z := x) (show opAt (opsOf Try.f35 13) 11 = some (some 47, .load 67 (.tmp 46), none) from by kernel_rfl) (by kernel_rfl) (by kernel_rfl) (by kernel_rfl) hbw c0 c1 c2 ?_
              refine run_call (args := [.int .i64 kk, .agg #[.int .i64 y.n, .int .i64 y.d, .string y.t], .agg #[.int .i64 x.n, .int .i64 x.d, .string x.t], .bool false]) (show opAt (opsOf Try.f35 13) 12 = some (some 48, .call { callee := .value (.func 76), args := [(.tmp 37), (.tmp 42), (.tmp 47), (.const (.bool false))].toArray, argTypes := [3, 67, 67, 4].toArray }, none) from by kernel_rfl) (by kernel_rfl) (by kernel_rfl) (by kernel_rfl) (by kernel_rfl) ?_
              refine (CA.out _).mono ?_
              rintro en rw1 ⟨rfl, hb⟩
              refine ⟨_, rfl, heldC_call H.out hb, ?_⟩
              have H := Lib.hid (heldC_call H.out hb)
              clear hb
              refine run_done ?_
              simp only [putAll, Act.put, List.setIfInBounds_toArray, List.set_cons_zero, List.set_cons_succ]
              have BI := Lib.hid H.out.1
              go_wp2
              go_roundw
              case rel => exact ⟨j + 1, by omega, by go_num, by rw [NA.out] <;> go_num, by rw [NS.out] <;> go_num, BI.out⟩
              case measure => simp [intOf]; omega
            | false =>
              rw [hB] at CA EP
              have NA := Lib.hid ((AX.out EP).trans hA)
              by_cases hyx : y = x
              · have NS := Lib.hid ((SY.out (by rw [ES, EP]; exact bB_yes ⟨rfl, hyx⟩)).trans (by rw [hT]))
                clear hB EP ES hA hT
                go_upto_region 13 with (fail)
                refine run_region (ops := (opsOf Try.f35 13)) (S := fun w' => HeldC wo w' ([])) [(0, true), (1, true), (2, true), (3, true), (4, true), (5, true), (6, true), (7, true), (8, true), (9, true), (10, true), (11, true), (12, false)] (by kernel_rfl) (by kernel_rfl) (by kernel_rfl) (by kernel_rfl) (by kernel_rfl) (fun _ _ _ _ _ h => h) (heldC_drew H.out) ?_
                have H := Lib.hid (heldC_drew H.out)
                refine runC_partV (b := w.heap.size) (by kernel_rfl) (show opAt (opsOf Try.f35 13) 0 = some (some 36, .fieldAddr 31 (.tmp 1) 0, none) from by kernel_rfl) (by kernel_rfl) (by kernel_rfl) (by kernel_rfl) ?_
                refine runC_old (b := w.heap.size) (j := 0) (v := .int .i64 kk) load_int (show opAt (opsOf Try.f35 13) 1 = some (some 37, .load 3 (.tmp 36), none) from by kernel_rfl) (by kernel_rfl) (by kernel_rfl) (by kernel_rfl) hwo m0 ?_
                refine runC_partV (b := w.heap.size) (by kernel_rfl) (show opAt (opsOf Try.f35 13) 2 = some (some 38, .fieldAddr 31 (.tmp 1) 1, none) from by kernel_rfl) (by kernel_rfl) (by kernel_rfl) (by kernel_rfl) ?_
                refine runC_old (b := w.heap.size) (j := 1) (v := .slice (some ⟨ba, off, none⟩) n ci) load_its (show opAt (opsOf Try.f35 13) 3 = some (some 39, .load 28 (.tmp 38), none) from by kernel_rfl) (by kernel_rfl) (by kernel_rfl) (by kernel_rfl) hwo m1 ?_
                refine run_mov (v := .int .i64 ((j : Int))) (show opAt (opsOf Try.f35 13) 4 = some (some 40, .move (.tmp 9), none) from by kernel_rfl) (by kernel_rfl) (by kernel_rfl) (by kernel_rfl) ?_
                refine run_idx3 (n := n) (c := ci) (b := ba) (off := off) (k := j) (show opAt (opsOf Try.f35 13) 5 = some (some 41, .indexAddr 28 (.tmp 39) (.tmp 40), none) from by kernel_rfl) (by kernel_rfl) (by kernel_rfl) (by kernel_rfl) (by kernel_rfl) hlj ?_
                refine runC_oldI (b := ba) (j := off + j * 3) (z := y) (show opAt (opsOf Try.f35 13) 6 = some (some 42, .load 67 (.tmp 41), none) from by kernel_rfl) (by kernel_rfl) (by kernel_rfl) (by kernel_rfl) hbw d0 d1 d2 ?_
                refine runC_partV (b := w.heap.size) (by kernel_rfl) (show opAt (opsOf Try.f35 13) 7 = some (some 43, .fieldAddr 31 (.tmp 1) 1, none) from by kernel_rfl) (by kernel_rfl) (by kernel_rfl) (by kernel_rfl) ?_
                refine runC_old (b := w.heap.size) (j := 1) (v := .slice (some ⟨ba, off, none⟩) n ci) load_its (show opAt (opsOf Try.f35 13) 8 = some (some 44, .load 28 (.tmp 43), none) from by kernel_rfl) (by kernel_rfl) (by kernel_rfl) (by kernel_rfl) hwo m1 ?_
                refine run_mov (v := .int .i64 ((k : Int))) (show opAt (opsOf Try.f35 13) 9 = some (some 45, .move (.tmp 6), none) from by kernel_rfl) (by kernel_rfl) (by kernel_rfl) (by kernel_rfl) ?_
                refine run_idx3 (n := n) (c := ci) (b := ba) (off := off) (k := k) (show opAt (opsOf Try.f35 13) 10 = some (some 46, .indexAddr 28 (.tmp 44) (.tmp 45), none) from by kernel_rfl) (by kernel_rfl) (by kernel_rfl) (by kernel_rfl) (by kernel_rfl) hlt ?_
                refine runC_oldI (b := ba) (j := off + k * 3) (z := x) (show opAt (opsOf Try.f35 13) 11 = some (some 47, .load 67 (.tmp 46), none) from by kernel_rfl) (by kernel_rfl) (by kernel_rfl) (by kernel_rfl) hbw c0 c1 c2 ?_
                refine run_call (args := [.int .i64 kk, .agg #[.int .i64 y.n, .int .i64 y.d, .string y.t], .agg #[.int .i64 x.n, .int .i64 x.d, .string x.t], .bool false]) (show opAt (opsOf Try.f35 13) 12 = some (some 48, .call { callee := .value (.func 76), args := [(.tmp 37), (.tmp 42), (.tmp 47), (.const (.bool false))].toArray, argTypes := [3, 67, 67, 4].toArray }, none) from by kernel_rfl) (by kernel_rfl) (by kernel_rfl) (by kernel_rfl) (by kernel_rfl) ?_
                refine (CA.out _).mono ?_
                rintro en rw1 ⟨rfl, hb⟩
                refine ⟨_, rfl, heldC_call H.out hb, ?_⟩
                have H := Lib.hid (heldC_call H.out hb)
                clear hb
                refine run_done ?_
                simp only [putAll, Act.put, List.setIfInBounds_toArray, List.set_cons_zero, List.set_cons_succ]
                go_upto_region 15 with (fail)
                refine run_region (ops := (opsOf Try.f35 15)) (S := fun w' => HeldC wo w' ([])) [(0, true), (1, true), (2, true), (3, true), (4, true), (5, true), (6, true), (7, true), (8, true), (9, true), (10, true)] (by kernel_rfl) (by kernel_rfl) (by kernel_rfl) (by kernel_rfl) (by kernel_rfl) (fun _ _ _ _ _ h => h) (heldC_drew H.out) ?_
                have H := Lib.hid (heldC_drew H.out)
                refine runC_partV (b := w.heap.size) (by kernel_rfl) (show opAt (opsOf Try.f35 15) 0 = some (some 51, .fieldAddr 31 (.tmp 1) 1, none) from by kernel_rfl) (by kernel_rfl) (by kernel_rfl) (by kernel_rfl) ?_
                refine runC_old (b := w.heap.size) (j := 1) (v := .slice (some ⟨ba, off, none⟩) n ci) load_its (show opAt (opsOf Try.f35 15) 1 = some (some 52, .load 28 (.tmp 51), none) from by kernel_rfl) (by kernel_rfl) (by kernel_rfl) (by kernel_rfl) hwo m1 ?_
                refine run_mov (v := .int .i64 ((j : Int))) (show opAt (opsOf Try.f35 15) 2 = some (some 53, .move (.tmp 9), none) from by kernel_rfl) (by kernel_rfl) (by kernel_rfl) (by kernel_rfl) ?_
                refine run_idx3 (n := n) (c := ci) (b := ba) (off := off) (k := j) (show opAt (opsOf Try.f35 15) 3 = some (some 54, .indexAddr 28 (.tmp 52) (.tmp 53), none) from by kernel_rfl) (by kernel_rfl) (by kernel_rfl) (by kernel_rfl) (by kernel_rfl) hlj ?_
                refine runC_oldI (b := ba) (j := off + j * 3) (z := y) (show opAt (opsOf Try.f35 15) 4 = some (some 55, .load 67 (.tmp 54), none) from by kernel_rfl) (by kernel_rfl) (by kernel_rfl) (by kernel_rfl) hbw d0 d1 d2 ?_
                refine runC_partV (b := w.heap.size) (by kernel_rfl) (show opAt (opsOf Try.f35 15) 5 = some (some 56, .fieldAddr 31 (.tmp 1) 1, none) from by kernel_rfl) (by kernel_rfl) (by kernel_rfl) (by kernel_rfl) ?_
                refine runC_old (b := w.heap.size) (j := 1) (v := .slice (some ⟨ba, off, none⟩) n ci) load_its (show opAt (opsOf Try.f35 15) 6 = some (some 57, .load 28 (.tmp 56), none) from by kernel_rfl) (by kernel_rfl) (by kernel_rfl) (by kernel_rfl) hwo m1 ?_
                refine run_mov (v := .int .i64 ((k : Int))) (show opAt (opsOf Try.f35 15) 7 = some (some 58, .move (.tmp 6), none) from by kernel_rfl) (by kernel_rfl) (by kernel_rfl) (by kernel_rfl) ?_
                refine run_idx3 (n := n) (c := ci) (b := ba) (off := off) (k := k) (show opAt (opsOf Try.f35 15) 8 = some (some 59, .indexAddr 28 (.tmp 57) (.tmp 58), none) from by kernel_rfl) (by kernel_rfl) (by kernel_rfl) (by kernel_rfl) (by kernel_rfl) hlt ?_
                refine runC_oldI (b := ba) (j := off + k * 3) (z := x) (show opAt (opsOf Try.f35 15) 9 = some (some 60, .load 67 (.tmp 59), none) from by kernel_rfl) (by kernel_rfl) (by kernel_rfl) (by kernel_rfl) hbw c0 c1 c2 ?_
                refine run_same (v := .bool true) (p := .agg #[.int .i64 y.n, .int .i64 y.d, .string y.t]) (q := .agg #[.int .i64 x.n, .int .i64 x.d, .string x.t]) (show opAt (opsOf Try.f35 15) 10 = some (some 61, .binOp .eql 67 (.tmp 55) (.tmp 60) 67, none) from by kernel_rfl) (by kernel_rfl) (by kernel_rfl) (by kernel_rfl) (by kernel_rfl) (fun w' => eql_item hyx) ?_
                refine run_done ?_
                simp only [putAll, Act.put, List.setIfInBounds_toArray, List.set_cons_zero, List.set_cons_succ]
                have BI := Lib.hid H.out.1
                go_wp2
                go_roundw
                case rel => exact ⟨j + 1, by omega, by go_num, by rw [NA.out] <;> go_num, by rw [NS.out] <;> go_num, BI.out⟩
                case measure => simp [intOf]; omega
              · have NS := Lib.hid ((SX.out (by rw [ES]; exact bB_no (fun h => hyx h.2))).trans hT)
                clear hB EP ES hA hT
                go_upto_region 13 with (fail)
                refine run_region (ops := (opsOf Try.f35 13)) (S := fun w' => HeldC wo w' ([])) [(0, true), (1, true), (2, true), (3, true), (4, true), (5, true), (6, true), (7, true), (8, true), (9, true), (10, true), (11, true), (12, false)] (by kernel_rfl) (by kernel_rfl) (by kernel_rfl) (by kernel_rfl) (by kernel_rfl) (fun _ _ _ _ _ h => h) (heldC_drew H.out) ?_
                have H := Lib.hid (heldC_drew H.out)
                refine runC_partV (b := w.heap.size) (by kernel_rfl) (show opAt (opsOf Try.f35 13) 0 = some (some 36, .fieldAddr 31 (.tmp 1) 0, none) from by kernel_rfl) (by kernel_rfl) (by kernel_rfl) (by kernel_rfl) ?_
                refine runC_old (b := w.heap.size) (j := 0) (v := .int .i64 kk) load_int (show opAt (opsOf Try.f35 13) 1 = some (some 37, .load 3 (.tmp 36), none) from by kernel_rfl) (by kernel_rfl) (by kernel_rfl) (by kernel_rfl) hwo m0 ?_
                refine runC_partV (b := w.heap.size) (by kernel_rfl) (show opAt (opsOf Try.f35 13) 2 = some (some 38, .fieldAddr 31 (.tmp 1) 1, none) from by kernel_rfl) (by kernel_rfl) (by kernel_rfl) (by kernel_rfl) ?_
                refine runC_old (b := w.heap.size) (j := 1) (v := .slice (some ⟨ba, off, none⟩) n ci) load_its (show opAt (opsOf Try.f35 13) 3 = some (some 39, .load 28 (.tmp 38), none) from by kernel_rfl) (by kernel_rfl) (by kernel_rfl) (by kernel_rfl) hwo m1 ?_
                refine run_mov (v := .int .i64 ((j : Int))) (show opAt (opsOf Try.f35 13) 4 = some (some 40, .move (.tmp 9), none) from by kernel_rfl) (by kernel_rfl) (by kernel_rfl) (by kernel_rfl) ?_
                refine run_idx3 (n := n) (c := ci) (b := ba) (off := off) (k := j) (show opAt (opsOf Try.f35 13) 5 = some (some 41, .indexAddr 28 (.tmp 39) (.tmp 40), none) from by kernel_rfl) (by kernel_rfl) (by kernel_rfl) (by kernel_rfl) (by kernel_rfl) hlj ?_
                refine runC_oldI (b := ba) (j := off + j * 3) (z := y) (show opAt (opsOf Try.f35 13) 6 = some (some 42, .load 67 (.tmp 41), none) from by kernel_rfl) (by kernel_rfl) (by kernel_rfl) (by kernel_rfl) hbw d0 d1 d2 ?_
                refine runC_partV (b := w.heap.size) (by kernel_rfl) (show opAt (opsOf Try.f35 13) 7 = some (some 43, .fieldAddr 31 (.tmp 1) 1, none) from by kernel_rfl) (by kernel_rfl) (by kernel_rfl) (by kernel_rfl) ?_
                refine runC_old (b := w.heap.size) (j := 1) (v := .slice (some ⟨ba, off, none⟩) n ci) load_its (show opAt (opsOf Try.f35 13) 8 = some (some 44, .load 28 (.tmp 43), none) from by kernel_rfl) (by kernel_rfl) (by kernel_rfl) (by kernel_rfl) hwo m1 ?_
                refine run_mov (v := .int .i64 ((k : Int))) (show opAt (opsOf Try.f35 13) 9 = some (some 45, .move (.tmp 6), none) from by kernel_rfl) (by kernel_rfl) (by kernel_rfl) (by kernel_rfl) ?_
                refine run_idx3 (n := n) (c := ci) (b := ba) (off := off) (k := k) (show opAt (opsOf Try.f35 13) 10 = some (some 46, .indexAddr 28 (.tmp 44) (.tmp 45), none) from by kernel_rfl) (by kernel_rfl) (by kernel_rfl) (by kernel_rfl) (by kernel_rfl) hlt ?_
                refine runC_oldI (b := ba) (j := off + k * 3) (z := x) (show opAt (opsOf Try.f35 13) 11 = some (some 47, .load 67 (.tmp 46), none) from by kernel_rfl) (by kernel_rfl) (by kernel_rfl) (by kernel_rfl) hbw c0 c1 c2 ?_
                refine run_call (args := [.int .i64 kk, .agg #[.int .i64 y.n, .int .i64 y.d, .string y.t], .agg #[.int .i64 x.n, .int .i64 x.d, .string x.t], .bool false]) (show opAt (opsOf Try.f35 13) 12 = some (some 48, .call { callee := .value (.func 76), args := [(.tmp 37), (.tmp 42), (.tmp 47), (.const (.bool false))].toArray, argTypes := [3, 67, 67, 4].toArray }, none) from by kernel_rfl) (by kernel_rfl) (by kernel_rfl) (by kernel_rfl) (by kernel_rfl) ?_
                refine (CA.out _).mono ?_
                rintro en rw1 ⟨rfl, hb⟩
                refine ⟨_, rfl, heldC_call H.out hb, ?_⟩
                have H := Lib.hid (heldC_call H.out hb)
                clear hb
                refine run_done ?_
                simp only [putAll, Act.put, List.setIfInBounds_toArray, List.set_cons_zero, List.set_cons_succ]
                go_upto_region 15 with (fail)
                refine run_region (ops := (opsOf Try.f35 15)) (S := fun w' => HeldC wo w' ([])) [(0, true), (1, true), (2, true), (3, true), (4, true), (5, true), (6, true), (7, true), (8, true), (9, true), (10, true)] (by kernel_rfl) (by kernel_rfl) (by kernel_rfl) (by kernel_rfl) (by kernel_rfl) (fun _ _ _ _ _ h => h) (heldC_drew H.out) ?_
                have H := Lib.hid (heldC_drew H.out)
                refine runC_partV (b := w.heap.size) (by kernel_rfl) (show opAt (opsOf Try.f35 15) 0 = some (some 51, .fieldAddr 31 (.tmp 1) 1, none) from by kernel_rfl) (by kernel_rfl) (by kernel_rfl) (by kernel_rfl) ?_
                refine runC_old (b := w.heap.size) (j := 1) (v := .slice (some ⟨ba, off, none⟩) n ci) load_its (show opAt (opsOf Try.f35 15) 1 = some (some 52, .load 28 (.tmp 51), none) from by kernel_rfl) (by kernel_rfl) (by kernel_rfl) (by kernel_rfl) hwo m1 ?_
                refine run_mov (v := .int .i64 ((j : Int))) (show opAt (opsOf Try.f35 15) 2 = some (some 53, .move (.tmp 9), none) from by kernel_rfl) (by kernel_rfl) (by kernel_rfl) (by kernel_rfl) ?_
                refine run_idx3 (n := n) (c := ci) (b := ba) (off := off) (k := j) (show opAt (opsOf Try.f35 15) 3 = some (some 54, .indexAddr 28 (.tmp 52) (.tmp 53), none) from by kernel_rfl) (by kernel_rfl) (by kernel_rfl) (by kernel_rfl) (by kernel_rfl) hlj ?_
                refine runC_oldI (b := ba) (j := off + j * 3) (z := y) (show opAt (opsOf Try.f35 15) 4 = some (some 55, .load 67 (.tmp 54), none) from by kernel_rfl) (by kernel_rfl) (by kernel_rfl) (by kernel_rfl) hbw d0 d1 d2 ?_
                refine runC_partV (b := w.heap.size) (by kernel_rfl) (show opAt (opsOf Try.f35 15) 5 = some (some 56, .fieldAddr 31 (.tmp 1) 1, none) from by kernel_rfl) (by kernel_rfl) (by kernel_rfl) (by kernel_rfl) ?_
                refine runC_old (b := w.heap.size) (j := 1) (v := .slice (some ⟨ba, off, none⟩) n ci) load_its (show opAt (opsOf Try.f35 15) 6 = some (some 57, .load 28 (.tmp 56), none) from by kernel_rfl) (by kernel_rfl) (by kernel_rfl) (by kernel_rfl) hwo m1 ?_
                refine run_mov (v := .int .i64 ((k : Int))) (show opAt (opsOf Try.f35 15) 7 = some (some 58, .move (.tmp 6), none) from by kernel_rfl) (by kernel_rfl) (by kernel_rfl) (by kernel_rfl) ?_
                refine run_idx3 (n := n) (c := ci) (b := ba) (off := off) (k := k) (show opAt (opsOf Try.f35 15) 8 = some (some 59, .indexAddr 28 (.tmp 57) (.tmp 58), none) from by kernel_rfl) (by kernel_rfl) (by kernel_rfl) (by kernel_rfl) (by kernel_rfl) hlt ?_
                refine runC_oldI (b := ba) (j := off + k * 3) (z := x) (show opAt (opsOf Try.f35 15) 9 = some (some 60, .load 67 (.tmp 59), none) from by kernel_rfl) (by kernel_rfl) (by kernel_rfl) (by kernel_rfl) hbw c0 c1 c2 ?_
                refine run_same (v := .bool false) (p := .agg #[.int .i64 y.n, .int .i64 y.d, .string y.t]) (q := .agg #[.int .i64 x.n, .int .i64 x.d, .string x.t]) (show opAt (opsOf Try.f35 15) 10 = some (some 61, .binOp .eql 67 (.tmp 55) (.tmp 60) 67, none) from by kernel_rfl) (by kernel_rfl) (by kernel_rfl) (by kernel_rfl) (by kernel_rfl) (fun w' => eql_no hyx) ?_
                refine run_done ?_
                simp only [putAll, Act.put, List.setIfInBounds_toArray, List.set_cons_zero, List.set_cons_succ]
                have BI := Lib.hid H.out.1
                go_wp2
                go_roundw
                case rel => exact ⟨j + 1, by omega, by go_num, by rw [NA.out] <;> go_num, by rw [NS.out] <;> go_num, BI.out⟩
                case measure => simp [intOf]; omega
          · obtain rfl : n = j := by omega
            rw [hA, hT] at RK1
            clear hA hT
            obtain ⟨m, hm⟩ : ∃ m, mkI (2 * (A : Int) + (T : Int) + 1) 2 = m := ⟨_, rfl⟩
            have MK := Lib.hid (fun W => (by have h := specMake (2 * (A : Int) + (T : Int) + 1) 2 W ⟨by omega, by omega⟩ ⟨by decide, by decide⟩; rw [hm] at h; exact h : Calls Try.prog 77 #[.int .i64 (2 * (A : Int) + (T : Int) + 1), .int .i64 2] W (fun e w' => e = .returned (.agg #[.int .i64 m.n, .int .i64 m.d, .string ⟨#[]⟩]) ∧ Below W.heap.size W w')))
            have RK2 := Lib.hid (fun h => (by have e := RK1.out h; unfold mkE at e; rw [hm] at e; exact e : rnkI kk items k = ⟨m.n, m.d, ⟨#[]⟩⟩))
            clear hm
            go_wp2_with fail
            with_reducible refine (MK.out _).mono ?_
            rintro e w5 ⟨rfl, b5⟩
            have B5 := BJ.out.trans (b5.mono BJ.out.size)
            have AP5 := Lib.hid (AP.out.keep B5)
            have KA5 := Lib.hid (blk_below B5 KA.out)
            have c1' := (B5.cell (p := ⟨ba, off + k * 3 + 1, none⟩) hbw).trans c1
            have hbw5 : ba < w5.heap.size := Nat.lt_of_lt_of_le hbw B5.size
            have hwa5 := (Array.getElem?_eq_some_iff.1 KA5.out).1
            clear q0 q1 q2 q3 q4 q5 q6 q7 B5 b5
            obtain ⟨q0, q1, q2, q3, q4, q5, q6, q7⟩ := vec8 KA5.out
            by_cases hd : x.d = 0
            · have RV := RM1.out hd
              obtain ⟨z, hz⟩ : ∃ z : It, z = noI := ⟨_, rfl⟩
              rw [RV, ← hz] at NX
              go_upto_region 20 with (fail)
              obtain ⟨w6, hw6⟩ : ∃ W, w5.alloc (.cells #[.int .i64 0, .int .i64 0, .string ⟨#[]⟩] 67) = W := ⟨_, rfl⟩
              rw [hw6]
              have AP6 := Lib.hid (show AppN w w6 (w.heap.size + 1) b 2 (itF (rnkI kk items) k) sa sn sc names na nc F from hw6 ▸ AP5.out.keep (below1 _ _))
              have KA6 := Lib.hid (show w6.heap[w.heap.size]? = some (.cells #[.int .i64 kk, .slice (some ⟨ba, off, none⟩) n ci, .slice ap parts.length cp, .slice an names.length cn, .slice ac cls.length cc, .slice al levels.length cl, .int .i64 code, .int .i64 env] 31 (0, 0)) from hw6 ▸ blk_old KA5.out)
              have KZ := Lib.hid (show w6.heap[w5.heap.size]? = some (.cells #[.int .i64 z.n, .int .i64 z.d, .string z.t] 67 (0, 0)) from by rw [hz]; exact hw6 ▸ blk_new w5 _ rfl)
              have FAR := Lib.hid (fun C1 C2 C3 C q hq => AP5.out.far2 (g := w.heap.size) (t := 31) (t2 := 67) (C := C) (C1 := C1) (C2 := C2) (C3 := C3) (q := q) (by omega) hq)
              clear hw6
              obtain ⟨gz, hgz⟩ : ∃ g, w5.heap.size = g := ⟨_, rfl⟩
              rw [hgz] at KZ FAR ⊢
              have AP := AP6
              have H := Lib.hid (heldC_cons (heldC_cons AP6.out.heldC KA6.out) KZ.out)
              refine run_region_seq (ops := (opsOf Try.f35 20)) (S := fun w' => HeldC w w' ([(gz, 67, #[.int .i64 z.n, .int .i64 z.d, .string z.t]), (w.heap.size, 31, #[.int .i64 kk, .slice (some ⟨ba, off, none⟩) n ci, .slice ap parts.length cp, .slice an names.length cn, .slice ac cls.length cc, .slice al levels.length cl, .int .i64 code, .int .i64 env]), ((w.heap.size + 1), 31, #[.int .i64 0, .slice none 0 0, .slice none 0 0, .slice none 0 0, .slice none 0 0, .slice none 0 0, .int .i64 0, .int .i64 0]), (b, 31, #[.int .i64 2, .slice sa sn sc, .slice none 0 0, .slice na names.length nc, .slice none 0 0, .slice none 0 0, .int .i64 0, .int .i64 0])])) [(0, true), (1, true), (2, true), (3, false), (4, false), (5, true), (6, false)] (by kernel_rfl) (by kernel_rfl) (by kernel_rfl) H.out ?_
              refine runC_partV (b := b) (by kernel_rfl) (show opAt (opsOf Try.f35 20) 0 = some (some 78, .fieldAddr 31 (.tmp 5) 1, none) from by kernel_rfl) (by kernel_rfl) (by kernel_rfl) (by kernel_rfl) ?_
              refine runC_cell (b := b) (j := 1) (v := .slice sa sn sc) load_its (show opAt (opsOf Try.f35 20) 1 = some (some 79, .load 28 (.tmp 78), none) from by kernel_rfl) (by kernel_rfl) (by kernel_rfl) (by kernel_rfl) (List.Mem.tail _ (List.Mem.tail _ (List.Mem.tail _ (List.Mem.head _)))) rfl ?_
              refine runC_itm (b := gz) (show opAt (opsOf Try.f35 20) 2 = some (some 80, .load 67 (.tmp 10), none) from by kernel_rfl) (by kernel_rfl) (by kernel_rfl) (by kernel_rfl) (List.Mem.head _) ?_
              refine tail_item2 z (show opAt (opsOf Try.f35 20) 3 = some (some 81, .buildSlice 28 1 #[(0, (.tmp 80))], none) from by kernel_rfl) (by kernel_rfl) (by kernel_rfl) (show opAt (opsOf Try.f35 20) 4 = some (some 82, .call { callee := .builtin .append, args := [(.tmp 79), (.tmp 81)].toArray, argTypes := [28, 28].toArray }, none) from by kernel_rfl) (by kernel_rfl) (fun _ => by kernel_rfl) (show opAt (opsOf Try.f35 20) 5 = some (some 83, .fieldAddr 31 (.tmp 5) 1, none) from by kernel_rfl) (by kernel_rfl) (by kernel_rfl) (fun _ _ => by kernel_rfl) (show opAt (opsOf Try.f35 20) 6 = some (none, .store 28 (.tmp 83) (.tmp 82), none) from by kernel_rfl) (by kernel_rfl) (by kernel_rfl) H.out AP.out.row LN.out (Nat.succ_le_of_lt (Array.getElem?_eq_some_iff.1 (heldC_at H.out (List.Mem.tail _ (List.Mem.tail _ (List.Mem.tail _ (List.Mem.head _)))))).1) W0.out (List.Mem.tail _ (List.Mem.tail _ (List.Mem.tail _ (List.Mem.head _)))) rfl (Nat.lt_succ_self _) B0'.out (fun q hq => FAR.out _ _ _ _ q hq) ?_
              rintro v' w2 ⟨sa, sn, sc, rfl⟩ hK hO hB hZ hR hG
              simp only [putAll, Act.put, List.setIfInBounds_toArray, List.set_cons_zero, List.set_cons_succ]
              have AN := Lib.hid (AP6.out.next hK hO hB (hR _ (List.Mem.tail _ (List.Mem.tail _ (List.Mem.head _))) (by simp only; omega)) (fun g hg => hG g (by have := AP6.out.rng g hg; have := AP6.out.big; omega) (by have := AP6.out.rng g hg; omega) (fun q hq => by have := (AP6.out.row.lt q hq).1; have := AP6.out.rng g hg; omega)))
              have KA7 := Lib.hid (hR _ (List.Mem.tail _ (List.Mem.head _)) (by simp only; omega))
              clear hK hO hB hR hG H FAR LN hgz
              go_wp2
              go_roundw
              case rel => first | exact ⟨k + 1, sa, sn, sc, by omega, by go_num, NX.out ▸ AN.out, KA7.out⟩ | ((repeat apply Exists.intro); exact ⟨⟨k + 1, sa, sn, sc, by omega, by go_num, NX.out ▸ AN.out, KA7.out⟩, rfl⟩)
              case measure => simp [intOf]; omega
            · have hdb : (x.d == 0) = false := beq_eq_false_iff_ne.2 hd
              have RV := RK2.out hd
              obtain ⟨z, hz⟩ : ∃ z : It, z = ⟨m.n, m.d, ⟨#[]⟩⟩ := ⟨_, rfl⟩
              rw [RV, ← hz] at NX
              go_upto_region 20 with (fail)
              obtain ⟨w6, hw6⟩ : ∃ W, w5.alloc (.cells #[.int .i64 m.n, .int .i64 m.d, .string ⟨#[]⟩] 67) = W := ⟨_, rfl⟩
              rw [hw6]
              have AP6 := Lib.hid (show AppN w w6 (w.heap.size + 1) b 2 (itF (rnkI kk items) k) sa sn sc names na nc F from hw6 ▸ AP5.out.keep (below1 _ _))
              have KA6 := Lib.hid (show w6.heap[w.heap.size]? = some (.cells #[.int .i64 kk, .slice (some ⟨ba, off, none⟩) n ci, .slice ap parts.length cp, .slice an names.length cn, .slice ac cls.length cc, .slice al levels.length cl, .int .i64 code, .int .i64 env] 31 (0, 0)) from hw6 ▸ blk_old KA5.out)
              have KZ := Lib.hid (show w6.heap[w5.heap.size]? = some (.cells #[.int .i64 z.n, .int .i64 z.d, .string z.t] 67 (0, 0)) from by rw [hz]; exact hw6 ▸ blk_new w5 _ rfl)
              have FAR := Lib.hid (fun C1 C2 C3 C q hq => AP5.out.far2 (g := w.heap.size) (t := 31) (t2 := 67) (C := C) (C1 := C1) (C2 := C2) (C3 := C3) (q := q) (by omega) hq)
              clear hw6
              obtain ⟨gz, hgz⟩ : ∃ g, w5.heap.size = g := ⟨_, rfl⟩
              rw [hgz] at KZ FAR ⊢
              have AP := AP6
              have H := Lib.hid (heldC_cons (heldC_cons AP6.out.heldC KA6.out) KZ.out)
              refine run_region_seq (ops := (opsOf Try.f35 20)) (S := fun w' => HeldC w w' ([(gz, 67, #[.int .i64 z.n, .int .i64 z.d, .string z.t]), (w.heap.size, 31, #[.int .i64 kk, .slice (some ⟨ba, off, none⟩) n ci, .slice ap parts.length cp, .slice an names.length cn, .slice ac cls.length cc, .slice al levels.length cl, .int .i64 code, .int .i64 env]), ((w.heap.size + 1), 31, #[.int .i64 0, .slice none 0 0, .slice none 0 0, .slice none 0 0, .slice none 0 0, .slice none 0 0, .int .i64 0, .int .i64 0]), (b, 31, #[.int .i64 2, .slice sa sn sc, .slice none 0 0, .slice na names.length nc, .slice none 0 0, .slice none 0 0, .int .i64 0, .int .i64 0])])) [(0, true), (1, true), (2, true), (3, false), (4, false), (5, true), (6, false)] (by kernel_rfl) (by kernel_rfl) (by kernel_rfl) H.out ?_
              refine runC_partV (b := b) (by kernel_rfl) (show opAt (opsOf Try.f35 20) 0 = some (some 78, .fieldAddr 31 (.tmp 5) 1, none) from by kernel_rfl) (by kernel_rfl) (by kernel_rfl) (by kernel_rfl) ?_
              refine runC_cell (b := b) (j := 1) (v := .slice sa sn sc) load_its (show opAt (opsOf Try.f35 20) 1 = some (some 79, .load 28 (.tmp 78), none) from by kernel_rfl) (by kernel_rfl) (by kernel_rfl) (by kernel_rfl) (List.Mem.tail _ (List.Mem.tail _ (List.Mem.tail _ (List.Mem.head _)))) rfl ?_
              refine runC_itm (b := gz) (show opAt (opsOf Try.f35 20) 2 = some (some 80, .load 67 (.tmp 10), none) from by kernel_rfl) (by kernel_rfl) (by kernel_rfl) (by kernel_rfl) (List.Mem.head _) ?_
              refine tail_item2 z (show opAt (opsOf Try.f35 20) 3 = some (some 81, .buildSlice 28 1 #[(0, (.tmp 80))], none) from by kernel_rfl) (by kernel_rfl) (by kernel_rfl) (show opAt (opsOf Try.f35 20) 4 = some (some 82, .call { callee := .builtin .append, args := [(.tmp 79), (.tmp 81)].toArray, argTypes := [28, 28].toArray }, none) from by kernel_rfl) (by kernel_rfl) (fun _ => by kernel_rfl) (show opAt (opsOf Try.f35 20) 5 = some (some 83, .fieldAddr 31 (.tmp 5) 1, none) from by kernel_rfl) (by kernel_rfl) (by kernel_rfl) (fun _ _ => by kernel_rfl) (show opAt (opsOf Try.f35 20) 6 = some (none, .store 28 (.tmp 83) (.tmp 82), none) from by kernel_rfl) (by kernel_rfl) (by kernel_rfl) H.out AP.out.row LN.out (Nat.succ_le_of_lt (Array.getElem?_eq_some_iff.1 (heldC_at H.out (List.Mem.tail _ (List.Mem.tail _ (List.Mem.tail _ (List.Mem.head _)))))).1) W0.out (List.Mem.tail _ (List.Mem.tail _ (List.Mem.tail _ (List.Mem.head _)))) rfl (Nat.lt_succ_self _) B0'.out (fun q hq => FAR.out _ _ _ _ q hq) ?_
              rintro v' w2 ⟨sa, sn, sc, rfl⟩ hK hO hB hZ hR hG
              simp only [putAll, Act.put, List.setIfInBounds_toArray, List.set_cons_zero, List.set_cons_succ]
              have AN := Lib.hid (AP6.out.next hK hO hB (hR _ (List.Mem.tail _ (List.Mem.tail _ (List.Mem.head _))) (by simp only; omega)) (fun g hg => hG g (by have := AP6.out.rng g hg; have := AP6.out.big; omega) (by have := AP6.out.rng g hg; omega) (fun q hq => by have := (AP6.out.row.lt q hq).1; have := AP6.out.rng g hg; omega)))
              have KA7 := Lib.hid (hR _ (List.Mem.tail _ (List.Mem.head _)) (by simp only; omega))
              clear hK hO hB hR hG H FAR LN hgz
              go_wp2
              go_roundw
              case rel => first | exact ⟨k + 1, sa, sn, sc, by omega, by go_num, NX.out ▸ AN.out, KA7.out⟩ | ((repeat apply Exists.intro); exact ⟨⟨k + 1, sa, sn, sc, by omega, by go_num, NX.out ▸ AN.out, KA7.out⟩, rfl⟩)
              case measure => simp [intOf]; omega
      · obtain rfl : k = n := by omega
        have K1 := Lib.hid AP.out.vec
        have K0 := Lib.hid AP.out.res
        have FN := Lib.hid AP.out.fin
        have hltb := AP.out.big
        obtain ⟨y0, y1, y2, y3, y4, y5, y6, y7⟩ := vec8 K1.out
        obtain ⟨z0, z1, z2, z3, z4, z5, z6, z7⟩ := vec8 K0.out
        obtain ⟨f0, f1, f2, f3, f4, f5, f6, f7⟩ := free8 K0.out
        go_wp2
        rw [XV1.out, XS1.out]
        exact vec_endS rfl rfl rfl rfl K0.out FN.out.withS
  · have XV1 := Lib.hid (rnkV_no hs)
    obtain ⟨R, hR⟩ : ∃ R, atmS VV = R := ⟨_, rfl⟩
    have XS1 := Lib.hid hR
    rw [hR] at hs ⊢
    have hRb : (R.toList == []) = false := by have h := str_not hs; rw [ByteArray.toList_eq ⟨#[]⟩] at h; exact h
    clear hs hR
    obtain ⟨z0, z1, z2, z3, z4, z5, z6, z7⟩ := vec8 KR.out
    obtain ⟨f0, f1, f2, f3, f4, f5, f6, f7⟩ := free8 KR.out
    go_wp2
    rw [XV1.out, XS1.out]
    exact vec_endS rfl rfl rfl rfl KR.out (zeroS _ w _ (put8_below B2.out (Nat.le_succ _)))
end Go.Proofs.Ytfbpbpbmnieieaa
