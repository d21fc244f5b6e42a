/- Calls by a function's value, items at an index, items that are appended to a local slice: operations of a region that draws its order. -/
import Derived.Test.YtlnjjjoeblopeaaRows
import Derived.Test.YtlnjjjoeblopeaaMg1
import Derived.Test.YtlnjjjoeblopeaaNumMath
import Derived.Test.YtlnjjjoeblopeaaVecCntI
import Derived.Test.YtlnjjjoeblopeaaNumKit
import Derived.Test.YtlnjjjoeblopeaaNumMake
import Derived.Test.YtlnjjjoeblopeaaVecCnt
import Derived.Deep.MidRow
import Derived.WalkKit
import Derived.OwnWalk
import Derived.Lib.Hide
import Derived.Deep.DeepCutAuto
import Derived.WalkSpells
import Derived.WalkLawsBesides
import Derived.IntWalk
import Derived.Deep.RegionWith
import Derived.Laws.EntriesVeiled
import Derived.StillTailTactics
import Derived.RegionTactic
namespace Go.Proofs.Ytlnjjjoeblopeaa
open Go.RowKit
set_option maxRecDepth 100000
set_option linter.unusedVariables false

section
variable {P : Program} {ops : Array Oper} {Q : Exit → Act → World → Prop} {S : World → Prop}
variable {r : List (Nat × Bool)} {a : Act} {e : List (Nat × Value)} {w : World} {i d : Nat} {g : Option (Nat × Bool)} {v : Value}
/-- A call of a function's value. -/
theorem run_callv {x : Operand} {f : FuncId} {first cap : Array Value} {xs : List Operand} {ats : Array TypeId} {args : List Value} (ho : opAt ops i = some (some d, .call { callee := .value x, args := xs.toArray, argTypes := ats }, g))
    (hd : Nat.blt d a.tmps.size = true) (hw : wantE ops a e g = some true) (hf : lookO a e x = .func (.func f) first cap) (hg : callsGo P f = true) (hx : xs.map (lookO a e) = args)
    (h : Calls P f (first ++ args.toArray ++ cap) w fun en w' => ∃ v, en = .returned v ∧ S w' ∧ RunE P ops Q S r a ((d, v) :: e) w') : RunE P ops Q S ((i, false) :: r) a e w := by
  refine ⟨fun hk => ?_⟩
  obtain ⟨o, hi, h1, h2, h3⟩ := opAt_spec ho
  show wpOp P ops Q i (fun a' w' => (lastK ops i = true ∨ S w') ∧ seqH P ops Q S r a' w') (putAll a e) w
  unfold wpOp
  simp only [hi, if_pos (wantE_spec hk (by rw [h3]; exact hw))]
  left
  unfold Oper.wp
  have hrun : (execOp (putAll a e).eval o).run P w = .ok (.enter f (first ++ args.toArray ++ cap)) w := by
    rw [eval_putAll a e hk]
    unfold execOp
    rw [h2]
    have : (resolve (lookO a e) { callee := .value x, args := xs.toArray, argTypes := ats } o.type) = pure { target := .fn (.func f) cap, args := first ++ args.toArray } := by
      unfold resolve
      simp only [List.map_toArray, hx, hf]
      rfl
    simp only [this]
    show (callFunc f (first ++ args.toArray ++ cap)).run P w = _
    exact callsGo_run hg
  rw [hrun]
  simp only [Oper.upon]
  refine h.mono ?_
  rintro en w' ⟨v, rfl, hS, hr⟩
  rw [h1]
  exact ⟨.inr hS, hr.out (keysIn_cons hd hk)⟩
end
section
variable {ops : Array Oper} {Q : Exit → Act → World → Prop} {S : World → Prop} {w0 : World} {L : List (Nat × TypeId × Array Value)}
variable {r : List (Nat × Bool)} {a : Act} {e : List (Nat × Value)} {w : World} {i d : Nat} {g : Option (Nat × Bool)} {v : Value}
/-- The address of an item of a slice. -/
theorem run_idx3 {x y : Operand} {b off n c k : Nat} (ho : opAt ops i = some (some d, .indexAddr 28 x y, g)) (hd : Nat.blt d a.tmps.size = true) (hw : wantE ops a e g = some true)
    (hx : lookO a e x = .slice (some ⟨b, off, none⟩) n c) (hy : lookO a e y = .int .i64 (k : Int)) (hk : k < n)
    (h : RunE Try.prog ops Q S r a ((d, .pointer (some ⟨b, off + k * 3, none⟩)) :: e) w) : RunE Try.prog ops Q S ((i, true) :: r) a e w :=
  run_yield ho hd hw (fun o w' h1 _ => by
    unfold execOp; rw [h1]; simp only [hx, hy]
    refine run_v ?_
    obtain ⟨ie, hie, _, hsz, _⟩ := info_parts infoItm3
    have he : Try.prog.elem 28 = 66 := by kernel_rfl
    rw [← he] at hie
    rw [run_indexAt_slice (h := Try.underlying28), if_pos ⟨Int.natCast_nonneg k, by omega⟩]
    simp [sizeOf, typeInfo, hie, hsz, addr_add]) h
/-- An item that lay there at the outset. -/
theorem runC_oldI {x : Operand} {b j : Nat} {z : It} (ho : opAt ops i = some (some d, .load 66 x, g)) (hd : Nat.blt d a.tmps.size = true) (hw : wantE ops a e g = some true)
    (hx : lookO a e x = .pointer (some ⟨b, j, none⟩)) (hb : b < w0.heap.size) (h0 : w0.cell? ⟨b, j, none⟩ = some (.int .i64 z.n)) (h1 : w0.cell? ⟨b, j + 1, none⟩ = some (.int .i64 z.d)) (h2 : w0.cell? ⟨b, j + 2, none⟩ = some (.string z.t))
    (h : RunE Try.prog ops Q (fun w' => HeldC w0 w' L) r a ((d, .agg #[.int .i64 z.n, .int .i64 z.d, .string z.t]) :: e) w) : RunE Try.prog ops Q (fun w' => HeldC w0 w' L) ((i, true) :: r) a e w :=
  run_load ho hd hw hx (fun w' hS => run_loadVar_mid w' b j 66 [.int .i64 z.n, .int .i64 z.d, .string z.t] _ (fun k v hv => by
    have hlt : k < 3 := by have := (List.getElem?_eq_some_iff.1 hv).1; simpa using this
    rw [hS.1.cell (p := ⟨b, j + k, none⟩) hb, ← hv]
    rcases (show k = 0 ∨ k = 1 ∨ k = 2 by omega) with rfl | rfl | rfl
    · exact h0
    · exact h1
    · exact h2) Try.underlying66 rfl infoItem) h
/-- What a loop that appends items to a local slice keeps. -/
structure ItR (w wr : World) (l : List It) (v : Value) : Prop where
  row : wr.ownsRow w.heap.size 66 3 v l.length (itCells l)
  below : Below w.heap.size w wr
theorem ItR.keep {w wr w1 : World} {l : List It} {v : Value} (h : ItR w wr l v) (hb : Below wr.heap.size wr w1) : ItR w w1 l v := ⟨ownsRow_below h.row hb, below_then h.below hb⟩
/-- A literal of one item, its append and the assignment: the end of a region. -/
theorem tail_its {i1 i2 i3 d1 d2 d3 : Nat} {x s : Operand} {v0 : Value} (z : It) {l : List It}
    (ho1 : opAt ops i1 = some (some d1, .buildSlice 28 1 #[(0, x)], none)) (hd1 : Nat.blt d1 a.tmps.size = true) (hx : lookO a e x = .agg #[.int .i64 z.n, .int .i64 z.d, .string z.t])
    (ho2 : opAt ops i2 = some (some d2, .call { callee := .builtin .append, args := [s, .tmp d1].toArray, argTypes := [28, 28].toArray }, none)) (hd2 : Nat.blt d2 a.tmps.size = true) (hs : ∀ u, lookO a ((d1, u) :: e) s = v0)
    (ho3 : opAt ops i3 = some (some d3, .assign (.tmp d2), none)) (hd3 : Nat.blt d3 a.tmps.size = true)
    (hr : ItR w0 w l v0) (hn : l.length ≤ 1048576)
    (h : ∀ v' W, ItR w0 W (l ++ [z]) v' → Q .normal (putAll a ((d3, v') :: (d2, v') :: (d1, .slice (some ⟨w.heap.size, 0, none⟩) 1 1) :: e)) W) :
    RunE Try.prog ops Q (fun w' => HeldC w0 w' []) [(i1, false), (i2, false), (i3, true)] a e w := by
  refine run_build_item z ho1 hd1 rfl hx (fun W1 hW1 => ?_)
  have hb1 : Below w0.heap.size w0 W1 := hW1 ▸ hr.below.alloc hr.below.size _
  have hK : W1.heap[w.heap.size]? = some (.cells #[.int .i64 z.n, .int .i64 z.d, .string z.t] 66 (0, 0)) := hW1 ▸ blk_new w _ rfl
  have hO : W1.ownsRow w0.heap.size 66 3 v0 l.length (itCells l) := hW1 ▸ ownsRow_below hr.row (below1 w _)
  refine ⟨⟨hb1, (fun _ h => by cases h)⟩, run_app_item z ho2 hd2 rfl (hs _) (look_new _ _) hO hK hn hb1.size (fun v' W2 hO2 hg2 => ?_)⟩
  have hN : ItR w0 W2 (l ++ [z]) v' := ⟨hO2, hb1.grown hg2 hb1.size (fun r hr' => (hO.lt r hr').1)⟩
  exact ⟨⟨hN.below, (fun _ h => by cases h)⟩, run_asg ho3 hd3 rfl (look_new _ _) (run_done (h v' W2 hN))⟩
end
end Go.Proofs.Ytlnjjjoeblopeaa

/- recycleItems of the program. -/
namespace Go.Proofs.Ytlnjjjoeblopeaa
open Go.RowKit
set_option maxRecDepth 100000
set_option linter.unusedVariables false

theorem ItR.form {w wr : World} {l : List It} {v : Value} (h : ItR w wr l v) : ∃ s n c, v = .slice s n c := by
  obtain ⟨_, h | ⟨g, cap, cur, e, _⟩⟩ := h.row
  · exact ⟨_, _, _, h.1⟩
  · exact ⟨_, _, _, e⟩
theorem recN_pos {m n : Nat} (h : 0 < recN m n) : 0 < m ∧ 0 < n := by
  unfold recN at h
  by_cases h0 : m = 0 ∨ n = 0
  · rw [if_pos h0] at h; omega
  · omega
theorem recN_le {m n : Nat} (hm : m ≤ 40) (hn : n ≤ 40) : recN m n ≤ 40 := by
  unfold recN
  split <;> omega
set_option maxHeartbeats 2000000 in
theorem implRecIts (fid : FuncId) (cap : Array Value) (G : It → It → It) (la lb : List It) (aa ab : Option Addr) (ca cb lo hi m n : Nat) (w : World) (ha : ItemsAt lo hi w aa la) (hb : ItemsAt lo hi w ab lb) (hhi : hi ≤ w.heap.size) (em : la.length = m) (en : lb.length = n) (hm : m ≤ 40) (hn : n ≤ 40) (hgo : callsGo Try.prog fid = true)
    (hG : ∀ i j W, i < m → j < n → Below w.heap.size w W → Calls Try.prog fid (#[] ++ #[.agg #[.int .i64 (la.getD i noI).n, .int .i64 (la.getD i noI).d, .string (la.getD i noI).t], .agg #[.int .i64 (lb.getD j noI).n, .int .i64 (lb.getD j noI).d, .string (lb.getD j noI).t]] ++ cap) W fun e w' => e = .returned (.agg #[.int .i64 (G (la.getD i noI) (lb.getD j noI)).n, .int .i64 (G (la.getD i noI) (lb.getD j noI)).d, .string (G (la.getD i noI) (lb.getD j noI)).t]) ∧ Below W.heap.size W w') :
    Calls Try.prog 61 #[.slice aa m ca, .slice ab n cb, .func (.func fid) #[] cap] w fun e w' => ∃ v, e = .returned v ∧ ItR w w' (itF (fun i => G (la.getD (i % m) noI) (lb.getD (i % n) noI)) (recN m n)) v := by
  have CL := Lib.hid (fun W => implRecLen m n W (by omega) (by omega))
  have PZ := Lib.hid (fun h => recN_pos (m := m) (n := n) h)
  have N40 := recN_le hm hn
  obtain ⟨N, hN⟩ : ∃ N, recN m n = N := ⟨_, rfl⟩
  rw [hN] at CL PZ N40 ⊢
  have IX := Lib.hid (fun (i : Nat) (h : i < m) => ha.at_ (k := i) (em ▸ h))
  have IY := Lib.hid (fun (i : Nat) (h : i < n) => hb.at_ (k := i) (en ▸ h))
  have CG := Lib.hid hG
  have GO := Lib.hid hgo
  clear hN ha hb hG hgo em en
  go_enter Try.func61, Try.ntmps61
  go_wp2_with fail
  with_reducible refine (CL.out _).mono ?_
  rintro e w' ⟨rfl, rfl⟩
  have ST := Lib.hid (show ItR w w (itF (fun i => G (la.getD (i % m) noI) (lb.getD (i % n) noI)) 0) (.slice none 0 0) from ⟨⟨rfl, .inl ⟨rfl, rfl⟩⟩, Below.refl _ _⟩)
  go_wp2
  go_loopw [7, 14] (fun v i wr => ∃ k : Nat, k ≤ N ∧ i = .int .i64 k ∧ ItR w wr (itF (fun i => G (la.getD (i % m) noI) (lb.getD (i % n) noI)) k) v) (fun _ i _ => N - (intOf i).toNat)
  case atStart => exact ⟨0, Nat.zero_le _, rfl, ST.out⟩
  case round =>
    obtain ⟨k, hk, rfl, hir⟩ := hrel
    have IR := Lib.hid hir
    clear hir
    by_cases hlt : k < N
    · obtain ⟨hm0, hn0⟩ := PZ.out (by omega)
      obtain ⟨bx, ox, rfl, hbx', cx0, cx1, cx2⟩ := IX.out (k % m) (Nat.mod_lt k hm0)
      obtain ⟨bY, oy, rfl, hby', cy0, cy1, cy2⟩ := IY.out (k % n) (Nat.mod_lt k hn0)
      have hbx : bx < w.heap.size := by omega
      have hby : bY < w.heap.size := by omega
      have CX0 := Lib.hid cx0
      have CX1 := Lib.hid cx1
      have CX2 := Lib.hid (show w.cell? ⟨bx, ox + (k % m) * 3 + 2, none⟩ = some (.string (la.getD (k % m) noI).t) from cx2)
      have CY0 := Lib.hid cy0
      have CY1 := Lib.hid cy1
      have CY2 := Lib.hid (show w.cell? ⟨bY, oy + (k % n) * 3 + 2, none⟩ = some (.string (lb.getD (k % n) noI).t) from cy2)
      obtain ⟨sv, sn, cv, rfl⟩ := IR.out.form
      have LN := Lib.hid (show (itF (fun i => G (la.getD (i % m) noI) (lb.getD (i % n) noI)) k).length ≤ 1048576 by rw [itF_len]; omega)
      have NX := Lib.hid (itF_succ (fun i => G (la.getD (i % m) noI) (lb.getD (i % n) noI)) k)
      have CO := Lib.hid (fun W hB => CG.out (k % m) (k % n) W (Nat.mod_lt k hm0) (Nat.mod_lt k hn0) hB)
      clear cx0 cx1 cx2 cy0 cy1 cy2
      have H := Lib.hid (show HeldC w wr [] from ⟨IR.out.below, (fun _ h => by cases h)⟩)
      go_upto_region 5 with (fail)
      refine run_region (ops := (opsOf Try.f61 5)) (S := fun w' => HeldC w w' ([])) [(0, true), (1, true), (2, true), (3, true), (4, true), (5, true), (6, true), (7, true), (8, true), (9, true), (10, true), (11, true), (12, true), (13, true), (14, true), (15, true), (16, false), (17, false), (18, false), (19, true)] (by kernel_rfl) (by kernel_rfl) (by kernel_rfl) (by kernel_rfl) (by kernel_rfl) (fun _ _ _ _ _ h => h) (heldC_drew H.out) ?_
      have H := Lib.hid (heldC_drew H.out)
      have IR := Lib.hid (IR.out.keep (below_drew' (Below.refl _ _)))
      refine run_mov (v := .slice sv sn cv) (show opAt (opsOf Try.f61 5) 0 = some (some 17, .move (.tmp 7), none) from by kernel_rfl) (by kernel_rfl) (by kernel_rfl) (by kernel_rfl) ?_
      refine run_mov (v := .func (.func fid) #[] cap) (show opAt (opsOf Try.f61 5) 1 = some (some 18, .move (.tmp 2), none) from by kernel_rfl) (by kernel_rfl) (by kernel_rfl) (by kernel_rfl) ?_
      refine run_mov (v := .slice (some ⟨bx, ox, none⟩) m ca) (show opAt (opsOf Try.f61 5) 2 = some (some 19, .move (.tmp 0), none) from by kernel_rfl) (by kernel_rfl) (by kernel_rfl) (by kernel_rfl) ?_
      refine run_mov (v := .int .i64 ((k : Int))) (show opAt (opsOf Try.f61 5) 3 = some (some 20, .move (.tmp 8), none) from by kernel_rfl) (by kernel_rfl) (by kernel_rfl) (by kernel_rfl) ?_
      refine run_mov (v := .slice (some ⟨bx, ox, none⟩) m ca) (show opAt (opsOf Try.f61 5) 4 = some (some 21, .move (.tmp 0), none) from by kernel_rfl) (by kernel_rfl) (by kernel_rfl) (by kernel_rfl) ?_
      refine run_len (b := (some ⟨bx, ox, none⟩)) (n := m) (c := ca) (show opAt (opsOf Try.f61 5) 5 = some (some 22, .call { callee := .builtin .len, args := [(.tmp 21)].toArray, argTypes := [28].toArray }, none) from by kernel_rfl) (by kernel_rfl) (by kernel_rfl) (by kernel_rfl) (by kernel_rfl) ?_
      refine run_rem (k := .i64) (p := (k : Int)) (q := (m : Int)) (z := ((k % m : Nat) : Int)) (show opAt (opsOf Try.f61 5) 6 = some (some 23, .binOp .rem 3 (.tmp 20) (.tmp 22) 3, none) from by kernel_rfl) (by kernel_rfl) (by kernel_rfl) (by kernel_rfl) (by kernel_rfl) ⟨by omega, rfl⟩ ?_
      refine run_idx3 (n := m) (c := ca) (b := bx) (off := ox) (k := (k % m)) (show opAt (opsOf Try.f61 5) 7 = some (some 24, .indexAddr 28 (.tmp 19) (.tmp 23), none) from by kernel_rfl) (by kernel_rfl) (by kernel_rfl) (by kernel_rfl) (by kernel_rfl) (Nat.mod_lt k hm0) ?_
      refine runC_oldI (b := bx) (j := ox + (k % m) * 3) (z := (la.getD (k % m) noI)) (show opAt (opsOf Try.f61 5) 8 = some (some 25, .load 66 (.tmp 24), none) from by kernel_rfl) (by kernel_rfl) (by kernel_rfl) (by kernel_rfl) hbx CX0.out CX1.out CX2.out ?_
      refine run_mov (v := .slice (some ⟨bY, oy, none⟩) n cb) (show opAt (opsOf Try.f61 5) 9 = some (some 26, .move (.tmp 1), none) from by kernel_rfl) (by kernel_rfl) (by kernel_rfl) (by kernel_rfl) ?_
      refine run_mov (v := .int .i64 ((k : Int))) (show opAt (opsOf Try.f61 5) 10 = some (some 27, .move (.tmp 8), none) from by kernel_rfl) (by kernel_rfl) (by kernel_rfl) (by kernel_rfl) ?_
      refine run_mov (v := .slice (some ⟨bY, oy, none⟩) n cb) (show opAt (opsOf Try.f61 5) 11 = some (some 28, .move (.tmp 1), none) from by kernel_rfl) (by kernel_rfl) (by kernel_rfl) (by kernel_rfl) ?_
      refine run_len (b := (some ⟨bY, oy, none⟩)) (n := n) (c := cb) (show opAt (opsOf Try.f61 5) 12 = some (some 29, .call { callee := .builtin .len, args := [(.tmp 28)].toArray, argTypes := [28].toArray }, none) from by kernel_rfl) (by kernel_rfl) (by kernel_rfl) (by kernel_rfl) (by kernel_rfl) ?_
      refine run_rem (k := .i64) (p := (k : Int)) (q := (n : Int)) (z := ((k % n : Nat) : Int)) (show opAt (opsOf Try.f61 5) 13 = some (some 30, .binOp .rem 3 (.tmp 27) (.tmp 29) 3, none) from by kernel_rfl) (by kernel_rfl) (by kernel_rfl) (by kernel_rfl) (by kernel_rfl) ⟨by omega, rfl⟩ ?_
      refine run_idx3 (n := n) (c := cb) (b := bY) (off := oy) (k := (k % n)) (show opAt (opsOf Try.f61 5) 14 = some (some 31, .indexAddr 28 (.tmp 26) (.tmp 30), none) from by kernel_rfl) (by kernel_rfl) (by kernel_rfl) (by kernel_rfl) (by kernel_rfl) (Nat.mod_lt k hn0) ?_
      refine runC_oldI (b := bY) (j := oy + (k % n) * 3) (z := (lb.getD (k % n) noI)) (show opAt (opsOf Try.f61 5) 15 = some (some 32, .load 66 (.tmp 31), none) from by kernel_rfl) (by kernel_rfl) (by kernel_rfl) (by kernel_rfl) hby CY0.out CY1.out CY2.out ?_
      refine run_callv (f := fid) (first := #[]) (cap := cap) (args := [.agg #[.int .i64 (la.getD (k % m) noI).n, .int .i64 (la.getD (k % m) noI).d, .string (la.getD (k % m) noI).t], .agg #[.int .i64 (lb.getD (k % n) noI).n, .int .i64 (lb.getD (k % n) noI).d, .string (lb.getD (k % n) noI).t]]) (show opAt (opsOf Try.f61 5) 16 = some (some 33, .call { callee := .value (.tmp 18), args := [(.tmp 25), (.tmp 32)].toArray, argTypes := [66, 66].toArray }, none) from by kernel_rfl) (by kernel_rfl) (by kernel_rfl) (by kernel_rfl) GO.out (by kernel_rfl) ?_
      refine (CO.out _ H.out.1).mono ?_
      rintro en rw1 ⟨rfl, hb⟩
      refine ⟨_, rfl, heldC_call H.out hb, ?_⟩
      have H := Lib.hid (heldC_call H.out hb)
      have IR := Lib.hid (IR.out.keep hb)
      clear hb
      refine tail_its (G (la.getD (k % m) noI) (lb.getD (k % n) noI)) (show opAt (opsOf Try.f61 5) 17 = some (some 34, .buildSlice 28 1 #[(0, (.tmp 33))], none) from by kernel_rfl) (by kernel_rfl) (by kernel_rfl) (show opAt (opsOf Try.f61 5) 18 = some (some 35, .call { callee := .builtin .append, args := [(.tmp 17), (.tmp 34)].toArray, argTypes := [28, 28].toArray }, none) from by kernel_rfl) (by kernel_rfl) (fun _ => by kernel_rfl) (show opAt (opsOf Try.f61 5) 19 = some (some 7, .assign (.tmp 35), none) from by kernel_rfl) (by kernel_rfl) IR.out LN.out ?_
      rintro v' w2 hN
      simp only [putAll, Act.put, List.setIfInBounds_toArray, List.set_cons_zero, List.set_cons_succ]
      have NW := Lib.hid (NX.out ▸ hN)
      clear hN
      go_wp2
      go_roundw
      case rel => exact ⟨k + 1, by omega, by go_num, NW.out⟩
      case measure => simp [intOf]; omega
    · obtain rfl : k = N := by omega
      go_wp2
      go_ret
      exact ⟨_, rfl, IR.out⟩
end Go.Proofs.Ytlnjjjoeblopeaa

/- Summaries as data: the elements that are taken, folds, the answers. -/
namespace Go.Proofs.Ytlnjjjoeblopeaa
open Go.RowKit
set_option maxRecDepth 100000
set_option linter.unusedVariables false

/-- "non-numeric argument", "no elements" -/
def nonNumB : ByteArray := ⟨#[110, 111, 110, 45, 110, 117, 109, 101, 114, 105, 99, 32, 97, 114, 103, 117, 109, 101, 110, 116]⟩
def noElB : ByteArray := ⟨#[110, 111, 32, 101, 108, 101, 109, 101, 110, 116, 115]⟩
/-- Is an element taken? -/
def keepI (drop : Bool) (x : It) : Bool := !drop || !(x.d == 0)
def pickL (drop : Bool) (l : List It) : List It := l.filter (keepI drop)
theorem pickL_no (l : List It) : pickL false l = l := by
  unfold pickL
  rw [List.filter_eq_self]
  intro x _
  rfl
theorem pickL_len (drop : Bool) (l : List It) : (pickL drop l).length ≤ l.length := List.length_filter_le _ _
theorem pickL_mem {drop : Bool} {l : List It} {x : It} (h : x ∈ pickL drop l) : x ∈ l := (List.mem_filter.1 h).1
theorem take_one {l : List It} {k : Nat} (hk : k < l.length) : l.take (k + 1) = l.take k ++ [l.getD k noI] := by
  rw [List.take_add_one, List.getElem?_eq_getElem hk, List.getD_eq_getElem?_getD, List.getElem?_eq_getElem hk]
  rfl
theorem pickL_yes {drop : Bool} {l : List It} {k : Nat} (hk : k < l.length) (h : keepI drop (l.getD k noI) = true) : pickL drop (l.take k) ++ [l.getD k noI] = pickL drop (l.take (k + 1)) := by
  rw [take_one hk]
  unfold pickL
  rw [List.filter_append, List.filter_cons, if_pos h, List.filter_nil]
theorem pickL_skip {drop : Bool} {l : List It} {k : Nat} (hk : k < l.length) (h : keepI drop (l.getD k noI) = false) : pickL drop (l.take k) = pickL drop (l.take (k + 1)) := by
  rw [take_one hk]
  unfold pickL
  rw [List.filter_append, List.filter_cons, if_neg (by rw [h]; decide), List.filter_nil, List.append_nil]
theorem pickL_zero (drop : Bool) (l : List It) : pickL drop (l.take 0) = [] := by rw [List.take_zero]; rfl
theorem pickL_kept (drop : Bool) (l : List It) (k : Nat) : (pickL drop (l.take k)).length ≤ k := Nat.le_trans (pickL_len _ _) (by rw [List.length_take]; omega)
theorem fold_one {α : Type} (f : α → It → α) (s : α) {l : List It} {k : Nat} (hk : k < l.length) : (l.take (k + 1)).foldl f s = f ((l.take k).foldl f s) (l.getD k noI) := by
  rw [take_one hk, List.foldl_append]; rfl
theorem fold_zero {α : Type} (f : α → It → α) (s : α) (l : List It) : (l.take 0).foldl f s = s := by rw [List.take_zero]; rfl
theorem fold_full {α : Type} (f : α → It → α) (s : α) (l : List It) : (l.take l.length).foldl f s = l.foldl f s := by rw [List.take_length]

theorem mkI_int {n : Int} (h0 : -999999999 ≤ n) (h1 : n ≤ 999999999) : mkI n 1 = ⟨n, 1, ⟨#[]⟩⟩ := by
  rw [int_mk (by omega) (by omega)]
  unfold ofQ
  rw [Rat.num_intCast, Rat.den_intCast, if_pos ⟨h0, h1, by decide⟩]
  rfl
/-- A result that fits: no text, ints. -/
def GoodI (x : It) : Prop := InB x ∧ x.t = ⟨#[]⟩
theorem good_noI : GoodI noI := ⟨⟨⟨by decide, by decide⟩, ⟨by decide, by decide⟩, Nat.zero_le _⟩, rfl⟩
theorem good_ofQ (r : Rat) : GoodI (ofQ r) := by
  rcases ofQ_cases r with e | ⟨h, _⟩
  · rw [e]; exact good_noI
  · obtain ⟨ht, d0, d1, n0, n1, _⟩ := isN_iff.1 h
    exact ⟨⟨⟨by omega, by omega⟩, ⟨by omega, by omega⟩, by rw [ht]; exact Nat.zero_le _⟩, ht⟩
theorem good_mkI (n d : Int) : GoodI (mkI n d) := by unfold mkI; split; exact good_ofQ _; exact good_noI
theorem good_addI (x y : It) : GoodI (addI x y) := by unfold addI; split; exact good_ofQ _; exact good_noI
theorem good_mulI (x y : It) : GoodI (mulI x y) := by unfold mulI; split; exact good_ofQ _; exact good_noI
theorem good_divI (x y : It) : GoodI (divI x y) := by unfold divI; split; exact good_ofQ _; exact good_noI
theorem good_subI (x y : It) : GoodI (subI x y) := good_addI _ _
theorem good_fold {f : It → It → It} {s : It} (h : ∀ x y, GoodI (f x y)) (hs : GoodI s) (l : List It) : GoodI (l.foldl f s) := by
  induction l generalizing s with
  | nil => exact hs
  | cons x l ih => exact ih (h _ _)
theorem GoodI.t0 {x : It} (h : GoodI x) : x.t.size ≤ 9223372036854775807 := by rw [h.2]; exact Nat.zero_le _

def sumL (l : List It) : It := l.foldl addI (mkI 0 1)
def prodL (l : List It) : It := l.foldl mulI (mkI 1 1)
def meanL (l : List It) : It := divI (sumL l) (mkI l.length 1)
def sqI (m : It) (s x : It) : It := addI s (mulI (subI x m) (subI x m))
def varL (l : List It) : It := divI (l.foldl (sqI (meanL l)) (mkI 0 1)) (mkI ((l.length - 1 : Nat) : Int) 1)
theorem good_sumL (l : List It) : GoodI (sumL l) := good_fold good_addI (good_mkI _ _) l
theorem good_prodL (l : List It) : GoodI (prodL l) := good_fold good_mulI (good_mkI _ _) l
theorem good_meanL (l : List It) : GoodI (meanL l) := good_divI _ _
theorem good_varL (l : List It) : GoodI (varL l) := good_divI _ _
theorem varL_few {l : List It} (h : l.length < 2) : varL l = noI := by
  unfold varL
  rw [show l.length - 1 = 0 by omega]
  unfold divI
  rw [if_neg]
  rintro ⟨_, h⟩
  exact h (by decide)
/-- The running sums. -/
def runL (l : List It) : List It := itF (fun i => sumL (l.take (i + 1))) l.length
theorem sumL_one {l : List It} {k : Nat} (hk : k < l.length) : sumL (l.take (k + 1)) = addI (sumL (l.take k)) (l.getD k noI) := fold_one addI _ hk
theorem sumL_zero (l : List It) : sumL (l.take 0) = mkI 0 1 := fold_zero _ _ _
theorem sumL_full (l : List It) : sumL (l.take l.length) = sumL l := by rw [List.take_length]

/-- The elements of which a summary is made, the problem, the answer. -/
noncomputable def smyL (drop : Bool) (v : Vec) : List It := match bB (ValidV v ∧ Counts v) with | true => pickL drop (itemsV v) | false => []
noncomputable def smyS (u : ByteArray) (v : Vec) : ByteArray := match bB (ValidV v), bB (Counts v) with | false, _ => badB | true, false => u | true, true => ⟨#[]⟩
noncomputable def smyV (S : List It → It) (drop : Bool) (v : Vec) : Vec := match bB (ValidV v ∧ Counts v) with | true => vecOf 2 [S (pickL drop (itemsV v))] | false => noV
theorem smy_yes {v : Vec} (h : ValidV v) (hc : Counts v) (S : List It → It) (drop : Bool) (u : ByteArray) : smyL drop v = pickL drop (itemsV v) ∧ smyS u v = ⟨#[]⟩ ∧ smyV S drop v = vecOf 2 [S (pickL drop (itemsV v))] := by
  unfold smyL smyS smyV
  rw [bB_yes (show ValidV v ∧ Counts v from ⟨h, hc⟩), bB_yes h, bB_yes hc]
  exact ⟨rfl, rfl, rfl⟩
theorem smy_non {v : Vec} (h : ValidV v) (hc : ¬ Counts v) (S : List It → It) (drop : Bool) (u : ByteArray) : smyL drop v = [] ∧ smyS u v = u ∧ smyV S drop v = noV := by
  unfold smyL smyS smyV
  rw [bB_no (show ¬ (ValidV v ∧ Counts v) from fun x => hc x.2), bB_yes h, bB_no hc]
  exact ⟨rfl, rfl, rfl⟩
theorem smy_bad {v : Vec} (h : ¬ ValidV v) (S : List It → It) (drop : Bool) (u : ByteArray) : smyL drop v = [] ∧ smyS u v = badB ∧ smyV S drop v = noV := by
  unfold smyL smyS smyV
  rw [bB_no (show ¬ (ValidV v ∧ Counts v) from fun x => h x.1), bB_no h]
  exact ⟨rfl, rfl, rfl⟩
theorem plain_one {x : It} (h : GoodI x) (k : Int) (hk : -9223372036854775808 ≤ k ∧ k ≤ 9223372036854775807) : PlainN (vecOf k [x]) :=
  .inr ⟨k, [x], [], rfl, hk, by simp, fun y hy => by obtain rfl := List.mem_singleton.1 hy; exact ⟨h.1, by rw [h.2]; exact Nat.zero_le _⟩, Nat.zero_le _, fun s hs => by cases hs⟩
theorem numIt_no : NumIt noI := ⟨rfl, by decide, by decide, by decide, by decide, fun _ => rfl⟩
theorem smyL_num (drop : Bool) (v : Vec) : ∀ x ∈ smyL drop v, NumIt x := by
  intro x hx
  unfold smyL at hx
  by_cases h : ValidV v ∧ Counts v
  · rw [bB_yes h] at hx
    have h1 := pickL_mem hx
    obtain ⟨k, items, parts, names, cls, levels, code, env⟩ := v
    obtain ⟨i, hi, rfl⟩ := List.getElem_of_mem h1
    have := num_at h.1 h.2 (i := i) hi
    rw [List.getD_eq_getElem?_getD, List.getElem?_eq_getElem (show i < items.length from hi)] at this
    exact this
  · rw [bB_no h] at hx; cases hx
theorem smyL_at (drop : Bool) (v : Vec) (i : Nat) : NumIt ((smyL drop v).getD i noI) := by
  rw [List.getD_eq_getElem?_getD]
  by_cases h : i < (smyL drop v).length
  · rw [List.getElem?_eq_getElem h]; exact smyL_num drop v _ (List.getElem_mem h)
  · rw [List.getElem?_eq_none (by omega)]; exact numIt_no
theorem smyL_len (drop : Bool) (v : Vec) : (smyL drop v).length ≤ 40 := by
  unfold smyL
  by_cases h : ValidV v ∧ Counts v
  · rw [bB_yes h]
    refine Nat.le_trans (pickL_len _ _) ?_
    obtain ⟨k, items, parts, names, cls, levels, code, env⟩ := v
    exact count_len h.1 h.2
  · rw [bB_no h]; exact Nat.zero_le _
theorem NumIt.t0 {x : It} (h : NumIt x) : x.t.size ≤ 9223372036854775807 := by rw [h.t]; exact Nat.zero_le _
theorem smy_empty {u : ByteArray} (hu : ¬ u = ⟨#[]⟩) {v : Vec} (h : smyS u v = ⟨#[]⟩) : ValidV v ∧ Counts v := by
  by_cases q : ValidV v
  · by_cases hc : Counts v
    · exact ⟨q, hc⟩
    · rw [(smy_non q hc (fun _ => noI) false u).2.1] at h; exact absurd h hu
  · rw [(smy_bad q (fun _ => noI) false u).2.1] at h; exact absurd h (by decide)
theorem smy_val {u : ByteArray} (hu : ¬ u = ⟨#[]⟩) {v : Vec} (h : smyS u v = ⟨#[]⟩) (S : List It → It) (drop : Bool) : smyV S drop v = vecOf 2 [S (smyL drop v)] := by
  obtain ⟨a, b⟩ := smy_empty hu h
  have := smy_yes a b S drop u
  rw [this.2.2, this.1]
theorem smy_not {u : ByteArray} {v : Vec} (h : ¬ smyS u v = ⟨#[]⟩) (S : List It → It) (drop : Bool) : smyV S drop v = noV ∧ smyL drop v = [] := by
  by_cases q : ValidV v
  · by_cases hc : Counts v
    · exact absurd (smy_yes q hc S drop u).2.1 h
    · exact ⟨(smy_non q hc S drop u).2.2, (smy_non q hc S drop u).1⟩
  · exact ⟨(smy_bad q S drop u).2.2, (smy_bad q S drop u).1⟩
theorem smy_plain {S : List It → It} (hS : ∀ l, GoodI (S l)) (drop : Bool) (v : Vec) : PlainN (smyV S drop v) := by
  unfold smyV
  split
  · exact plain_one (hS _) 2 (by decide)
  · exact .inl rfl
end Go.Proofs.Ytlnjjjoeblopeaa

/- The problem of one operand, in the program; an item that is appended. -/
namespace Go.Proofs.Ytlnjjjoeblopeaa
open Go.RowKit
set_option maxRecDepth 100000
set_option linter.unusedVariables false

/-- An item that is appended to a local slice, where the region does not draw its order. -/
theorem wpList_appIt {w0 w : World} {ops : Array Oper} {rest : List Oper} {o : Oper} {a : Act} {Q : Exit → Act → World → Prop} (hgd : o.guard = none) (s x : Operand)
    (ho : o.op = .call { callee := .builtin .append, args := #[s, x], argTypes := #[28, 28] }) (z : It) (l : List It) (v0 : Value) (b : Nat) (hs : a.eval s = v0) (hx : a.eval x = .slice (some ⟨b, 0, none⟩) 1 1)
    (hr : ItR w0 w l v0) (hb : w.heap[b]? = some (.cells #[.int .i64 z.n, .int .i64 z.d, .string z.t] 66 (0, 0))) (hn : l.length ≤ 1048576)
    (h : ∀ v' w', ItR w0 w' (l ++ [z]) v' → wpList Try.prog ops Q rest (a.put o.dst v') w') : wpList Try.prog ops Q (o :: rest) a w := by
  obtain ⟨i0, hi0, hz0, hz1, hz2⟩ := info_parts infoItm3
  refine wpList_append_own w hgd s x 28 ho w0.heap.size 66 i0 _ 3 32 Try.underlying28 hi0 hz0 hz1 hz2 rfl (by decide) v0 l.length (itCells l) hs hr.row ⟨b, 0, none⟩ 1 1 (itCells [z]) hx rfl (fun j u hj => ?_) (itCells_one _) (by unfold maxLen; omega) (by omega) hr.below.size (fun v' w' h1 h2 _ => ?_)
  · have hlt : j < 3 := by have := (List.getElem?_eq_some_iff.1 hj).1; simpa [itCells] using this
    rw [addr_add, Nat.zero_add]
    refine cellOf hb ?_
    rw [← hj]
    rcases (show j = 0 ∨ j = 1 ∨ j = 2 by omega) with rfl | rfl | rfl <;> rfl
  · have e1 : l.length + 1 = (l ++ [z]).length := by simp
    have e2 : itCells l ++ itCells [z] = itCells (l ++ [z]) := (itCells_app l [z]).symm
    rw [e1, e2] at h1
    exact h v' w' ⟨h1, hr.below.grown h2 hr.below.size (fun r hr' => (hr.row.lt r hr').1)⟩
theorem implPrb1 (d : Nat) (v : Vec) (val : Value) (u : ByteArray) (lo hi : Nat) (w : World) (hv : VecAt lo hi w d v val) (hhi : hi ≤ w.heap.size) (hsm : Small d v) :
    Calls Try.prog 73 #[val, .string u] w fun e w' => e = .returned (.string (smyS u v)) ∧ Below w.heap.size w w' := by
  have C1 := Lib.hid (fun (w1 : World) (hb : Below w.heap.size w w1) => implIsVector d v val lo hi w1 (hv.below hb hhi) (Nat.le_trans hhi hb.size) hsm)
  obtain ⟨VV, hVV⟩ : ∃ V, v = V := ⟨_, rfl⟩
  rw [hVV] at C1 ⊢
  obtain ⟨kk, items, parts, names, cls, levels, code, env⟩ := v
  obtain ⟨d', ai, ci, ap, cp, an, cn, ac, cc, al, cl, ed, rfl, hI, hN, hC, hL, hP⟩ := vecAt_open hv
  have XC : Counts VV ↔ (kk ≤ 2 ∧ levels.length = 0) := by rw [← hVV]; exact Iff.rfl
  clear hv hI hN hC hL hP hsm ed hVV
  go_enter Try.func73, Try.ntmps73
  go_wp2_with fail
  obtain ⟨w1, hw1⟩ : ∃ W, w.alloc (.cells #[.int .i64 kk, .slice ai items.length ci, .slice ap parts.length cp, .slice an names.length cn, .slice ac cls.length cc, .slice al levels.length cl, .int .i64 code, .int .i64 env] 31) = W := ⟨_, rfl⟩
  have B1 := Lib.hid (show Below w.heap.size w w1 from hw1 ▸ below1 w _)
  have KA := Lib.hid (show w1.heap[w.heap.size]? = some (.cells #[.int .i64 kk, .slice ai items.length ci, .slice ap parts.length cp, .slice an names.length cn, .slice ac cls.length cc, .slice al levels.length cl, .int .i64 code, .int .i64 env] 31 (0, 0)) from hw1 ▸ blk_new w _ rfl)
  rw [hw1]
  clear hw1
  with_reducible refine (C1.out _ B1.out).mono ?_
  rintro e w2 ⟨rfl, b⟩
  have B2 := Lib.hid (below_then B1.out b)
  have KA2 := Lib.hid (blk_below b KA.out)
  clear b
  obtain ⟨k0, k1, k2, k3, k4, k5, k6, k7⟩ := vec8 KA2.out
  by_cases q : ValidV VV
  · rw [bB_yes q]
    by_cases hc : Counts VV
    · have XS := Lib.hid (smy_yes q hc (fun _ => noI) false u).2.1
      have HC := XC.1 hc
      have CO := Lib.hid (fun W => implCountsY kk ai ap an ac al items.length ci parts.length cp names.length cn cls.length cc levels.length cl code env W HC.1 HC.2)
      clear q hc HC XC
      go_wp2_with fail
      with_reducible refine (CO.out _).mono ?_
      rintro e w3 ⟨rfl, b⟩
      have B3 := Lib.hid (below_then B2.out b)
      clear b
      go_wp2
      go_ret
      exact ⟨by rw [XS.out]; rfl, B3.out⟩
    · have XS := Lib.hid (smy_non q hc (fun _ => noI) false u).2.1
      have CO := Lib.hid (fun W => implCountsN kk ai ap an ac al items.length ci parts.length cp names.length cn cls.length cc levels.length cl code env W (fun h => hc (XC.2 h)))
      clear q hc XC
      go_wp2_with fail
      with_reducible refine (CO.out _).mono ?_
      rintro e w3 ⟨rfl, b⟩
      have B3 := Lib.hid (below_then B2.out b)
      clear b
      go_wp2
      go_ret
      exact ⟨by rw [XS.out]; rfl, B3.out⟩
  · rw [bB_no q]
    have XS := Lib.hid (smy_bad q (fun _ => noI) false u).2.1
    clear q XC
    go_wp2
    go_ret
    exact ⟨by rw [XS.out]; rfl, B2.out⟩
end Go.Proofs.Ytlnjjjoeblopeaa

/- NotVector of the program. -/
namespace Go.Proofs.Ytlnjjjoeblopeaa
open Go.RowKit
set_option maxRecDepth 100000
set_option linter.unusedVariables false

set_option maxHeartbeats 4000000 in
theorem implNot (d : Nat) (v : Vec) (val : Value) (lo hi : Nat) (w : World) (hv : VecAt lo hi w d v val) (hhi : hi ≤ w.heap.size) (hsm : Small d v) :
    Calls Try.prog 22 #[val] w (ResVS 1 (notV v) (notS v) w) := by
  have C1 := Lib.hid (fun (w1 : World) (hb : Below w.heap.size w w1) => implPrb1 d v val nonLogB lo hi w1 (hv.below hb hhi) (Nat.le_trans hhi hb.size) hsm)
  obtain ⟨VV, hVV⟩ : ∃ V, v = V := ⟨_, rfl⟩
  rw [hVV] at C1 ⊢
  obtain ⟨kk, items, parts, names, cls, levels, code, env⟩ := v
  obtain ⟨d', ai, ci, ap, cp, an, cn, ac, cc, al, cl, ed, rfl, hI, hN, hC, hL, hP⟩ := vecAt_open hv
  have ln : names.length ≤ 1048576 := by subst ed; exact hsm.2.2.1
  have AI := Lib.hid (fun (k : Nat) (w1 : World) (hk : k < items.length) (hb : Below w.heap.size w w1) => (hI.below hb hhi).at_ hk)
  have CC := Lib.hid (fun (w1 : World) (hb : Below w.heap.size w w1) => implCopyAny names an cn lo hi w1 (hN.below hb hhi) ln)
  have XN := Lib.hid (fun (h : ValidV VV) (hc : Counts VV) (i : Nat) (hi : i < items.length) => (by rw [← hVV] at h hc; exact num_at h hc hi : NumIt (items.getD i noI)))
  have XL := Lib.hid (fun (h : ValidV VV) (hc : Counts VV) => (by rw [← hVV] at h hc; exact count_len h hc : items.length ≤ 40))
  have XV := Lib.hid (fun (h : ValidV VV) (hc : Counts VV) => (by rw [← hVV] at h hc ⊢; exact notV_yes h hc : notV VV = mkN 1 (itF (fun i => notIt (items.getD i noI)) items.length) names))
  have XC := Lib.hid (show Counts VV ↔ (kk ≤ 2 ∧ levels.length = 0) by rw [← hVV]; exact Iff.rfl)
  clear hv hI hN hC hL hP hsm ed hVV
  go_enter Try.func22, Try.ntmps22
  go_wp2_with fail
  obtain ⟨w1, hw1⟩ : ∃ W, (w.alloc (.cells #[.int .i64 kk, .slice ai items.length ci, .slice ap parts.length cp, .slice an names.length cn, .slice ac cls.length cc, .slice al levels.length cl, .int .i64 code, .int .i64 env] 31)).alloc (.cells #[.int .i64 0, .slice none 0 0, .slice none 0 0, .slice none 0 0, .slice none 0 0, .slice none 0 0, .int .i64 0, .int .i64 0] 31) = W := ⟨_, rfl⟩
  have hsz : (w.alloc (.cells #[.int .i64 kk, .slice ai items.length ci, .slice ap parts.length cp, .slice an names.length cn, .slice ac cls.length cc, .slice al levels.length cl, .int .i64 code, .int .i64 env] 31)).heap.size = w.heap.size + 1 := by simp
  have B1 := Lib.hid (show Below w.heap.size w w1 from hw1 ▸ (below1 w _).alloc (by simp) _)
  have KA := Lib.hid (show w1.heap[w.heap.size]? = some (.cells #[.int .i64 kk, .slice ai items.length ci, .slice ap parts.length cp, .slice an names.length cn, .slice ac cls.length cc, .slice al levels.length cl, .int .i64 code, .int .i64 env] 31 (0, 0)) from hw1 ▸ blk_old (blk_new w _ rfl))
  have KR := Lib.hid (show w1.heap[w.heap.size + 1]? = some (.cells #[.int .i64 0, .slice none 0 0, .slice none 0 0, .slice none 0 0, .slice none 0 0, .slice none 0 0, .int .i64 0, .int .i64 0] 31 (0, 0)) from hw1 ▸ hsz ▸ blk_new (w.alloc (.cells #[.int .i64 kk, .slice ai items.length ci, .slice ap parts.length cp, .slice an names.length cn, .slice ac cls.length cc, .slice al levels.length cl, .int .i64 code, .int .i64 env] 31)) (.cells #[.int .i64 0, .slice none 0 0, .slice none 0 0, .slice none 0 0, .slice none 0 0, .slice none 0 0, .int .i64 0, .int .i64 0] 31) rfl)
  rw [hw1]
  clear hw1 hsz
  refine (C1.out _ B1.out).mono ?_
  rintro e w2 ⟨rfl, b⟩
  have B2 := Lib.hid (below_then B1.out b)
  have KA2 := Lib.hid (blk_below b KA.out)
  have KR2 := Lib.hid (blk_below b KR.out)
  clear b
  obtain ⟨k0, k1, k2, k3, k4, k5, k6, k7⟩ := vec8 KA2.out
  by_cases q : ValidV VV
  · by_cases hc : Counts VV
    · rw [(smy_yes q hc (fun _ => noI) false nonLogB).2.1]
      have XV1 := Lib.hid (XV.out q hc)
      have XS1 := Lib.hid (notS_yes q hc)
      have hl := XL.out q hc
      have XNI := Lib.hid (XN.out q hc)
      have KR3 := KR2
      have KA3 := KA2
      have B3 := B2
      clear q hc k0 k1 k2 k3 k4 k5 k6 k7
      obtain ⟨k0, k1, k2, k3, k4, k5, k6, k7⟩ := vec8 KA3.out
      go_wp2_with fail
      with_reducible refine (CC.out _ B3.out).mono ?_
      rintro e w4 ⟨v, rfl, ⟨na, nc, F, rfl, hT, hnd, hr, hcap⟩, b⟩
      have B4 := Lib.hid (below_then B3.out b)
      have KA4 := Lib.hid (blk_below b KA3.out)
      have KR4 := Lib.hid (blk_below b KR3.out)
      have S34 := Lib.hid b.size
      have hltA := (Array.getElem?_eq_some_iff.1 KA4.out).1
      have hltR := (Array.getElem?_eq_some_iff.1 KR4.out).1
      have ST := Lib.hid (show AppN w (w4.alloc (.cells #[.int .i64 1, .slice none 0 0, .slice none 0 0, .slice na names.length nc, .slice none 0 0, .slice none 0 0, .int .i64 0, .int .i64 0] 31)) (w.heap.size + 1) w4.heap.size 1 (itF (fun i => notIt (items.getD i noI)) 0) none 0 0 names na nc F from
        ⟨blk_old KR4.out, blk_new w4 _ rfl, ⟨rfl, .inl ⟨rfl, rfl⟩⟩, hT.kept (fun g hg => (below1 w4 _).block g (hr g hg).2), hcap, hnd, fun g hg => by have h1 := hr g hg; have h2 := (Array.getElem?_eq_some_iff.1 KR3.out).1; omega, B4.out.alloc B4.out.size _, by omega, hltR⟩)
      clear b hT hnd hr hcap k0 k1 k2 k3 k4 k5 k6 k7
      obtain ⟨k0, k1, k2, k3, k4, k5, k6, k7⟩ := vec8 KA4.out
      go_wp2
      clear k0 k1 k2 k3 k4 k5 k6 k7
      obtain ⟨b, hb⟩ : ∃ b, w4.heap.size = b := ⟨_, rfl⟩
      rw [hb] at ST ⊢
      obtain ⟨n, hn⟩ : ∃ n, items.length = n := ⟨_, rfl⟩
      rw [hn] at AI XNI hl XV1 ⊢
      clear hn
      clear hb hltA hltR XN XL XV
      go_loopw [21] (fun i wr => ∃ (k : Nat) (sa : Option Addr) (sn sc : Nat), k ≤ n ∧ i = .int .i64 k ∧ AppN w wr (w.heap.size + 1) b 1 (itF (fun i => notIt (items.getD i noI)) k) sa sn sc names na nc F) (fun i _ => n - (intOf i).toNat)
      case atStart => exact ⟨0, none, 0, 0, Nat.zero_le _, rfl, ST.out⟩
      case round =>
        obtain ⟨k, sa, sn, sc, hk, rfl, hap⟩ := hrel
        have AP := Lib.hid hap
        clear hap
        by_cases hlt : k < n
        · obtain ⟨ba, off, rfl, hbB, c0, c1, c2⟩ := AI.out _ _ hlt AP.out.below
          have hxn := XNI.out k hlt
          have hxt : txtI items k = ⟨#[]⟩ := hxn.t
          rw [hxt] at c2
          obtain ⟨⟨xn, xd, xt⟩, hx⟩ : ∃ x : It, items.getD k noI = x := ⟨_, rfl⟩
          have hxt' : xt = ⟨#[]⟩ := by have := hxn.t; rw [hx] at this; exact this
          subst hxt'
          rw [hx] at hxn
          simp only [hx] at c0 c1
          have CT := Lib.hid (fun W => (implTruth ⟨xn, xd, ⟨#[]⟩⟩ W hxn : Calls Try.prog 60 #[.agg #[.int .i64 xn, .int .i64 xd, .string ⟨#[]⟩]] W _))
          have CN := Lib.hid (fun W => implNot3 (truthI ⟨xn, xd, ⟨#[]⟩⟩) W (truth_three _))
          have EK := Lib.hid (show notIt (items.getD k noI) = logI (nL (truthI ⟨xn, xd, ⟨#[]⟩⟩)) by rw [hx]; rfl)
          have CI := Lib.hid (fun W => (by have h := implLogItem (nL (truthI ⟨xn, xd, ⟨#[]⟩⟩)) W (nL_three _); rw [← EK.out] at h; exact h : Calls Try.prog 59 #[.int .i64 (nL (truthI ⟨xn, xd, ⟨#[]⟩⟩))] W (fun e w' => e = .returned (.agg #[.int .i64 (notIt (items.getD k noI)).n, .int .i64 (notIt (items.getD k noI)).d, .string (notIt (items.getD k noI)).t]) ∧ Below W.heap.size W w')))
          have LN := Lib.hid (show (itF (fun i => notIt (items.getD i noI)) k).length ≤ 1048576 by rw [itF_len]; omega)
          have NX := Lib.hid (itF_succ (fun i => notIt (items.getD i noI)) k)
          have hbw : ba < wr.heap.size := Nat.lt_of_lt_of_le (Nat.lt_of_lt_of_le hbB hhi) AP.out.below.size
          have FAR := Lib.hid (fun C q hq => AP.out.far (C := C) (q := q) hq)
          have W0 := Lib.hid (show w.heap.size ≤ b + 1 by have := AP.out.o2; omega)
          have B0' := Lib.hid (show w.heap.size ≤ b by have := AP.out.o2; omega)
          have hbb := AP.out.big
          clear hx hxn hxt
          go_wp2
          obtain ⟨w5, hw5⟩ : ∃ W, wr.alloc (.cells #[.int .i64 xn, .int .i64 xd, .string ⟨#[]⟩] 66) = W := ⟨_, rfl⟩
          have AP0 := AP
          have AP := Lib.hid (show AppN w w5 (w.heap.size + 1) b 1 (itF (fun i => notIt (items.getD i noI)) k) sa sn sc names na nc F from hw5 ▸ AP.out.keep (below1 wr _))
          have X1 := Lib.hid (show w5.heap[wr.heap.size]? = some (.cells #[.int .i64 xn, .int .i64 xd, .string ⟨#[]⟩] 66 (0, 0)) from hw5 ▸ blk_new wr _ rfl)
          rw [hw5]
          clear hw5
          have H := Lib.hid (heldC_cons AP.out.heldC X1.out)
          refine run_region (ops := (opsOf Try.f22 8)) (S := fun w' => HeldC w w' ([(wr.heap.size, 66, #[.int .i64 xn, .int .i64 xd, .string ⟨#[]⟩]), ((w.heap.size + 1), 31, #[.int .i64 0, .slice none 0 0, .slice none 0 0, .slice none 0 0, .slice none 0 0, .slice none 0 0, .int .i64 0, .int .i64 0]), (b, 31, #[.int .i64 1, .slice sa sn sc, .slice none 0 0, .slice na names.length nc, .slice none 0 0, .slice none 0 0, .int .i64 0, .int .i64 0])])) [(0, true), (1, true), (2, true), (3, false), (4, false), (5, false), (6, false), (7, false), (8, true), (9, false)] (by kernel_rfl) (by kernel_rfl) (by kernel_rfl) (by kernel_rfl) (by kernel_rfl) (fun _ _ _ _ _ h => h) (heldC_drew H.out) ?_
          have H := Lib.hid (heldC_drew H.out)
          have AP := Lib.hid (AP.out.keep (below_drew' (Below.refl _ _)))
          refine runC_partV (b := b) (by kernel_rfl) (show opAt (opsOf Try.f22 8) 0 = some (some 25, .fieldAddr 31 (.tmp 5) 1, none) from by kernel_rfl) (by kernel_rfl) (by kernel_rfl) (by kernel_rfl) ?_
          refine runC_cell (b := b) (j := 1) (v := .slice sa sn sc) load_its (show opAt (opsOf Try.f22 8) 1 = some (some 26, .load 28 (.tmp 25), none) from by kernel_rfl) (by kernel_rfl) (by kernel_rfl) (by kernel_rfl) (List.Mem.tail _ (List.Mem.tail _ (List.Mem.head _))) rfl ?_
          refine runC_itm (b := wr.heap.size) (show opAt (opsOf Try.f22 8) 2 = some (some 27, .load 66 (.tmp 7), none) from by kernel_rfl) (by kernel_rfl) (by kernel_rfl) (by kernel_rfl) (List.Mem.head _) ?_
          refine run_call (args := [.agg #[.int .i64 xn, .int .i64 xd, .string ⟨#[]⟩]]) (show opAt (opsOf Try.f22 8) 3 = some (some 28, .call { callee := .value (.func 60), args := [(.tmp 27)].toArray, argTypes := [66].toArray }, none) from by kernel_rfl) (by kernel_rfl) (by kernel_rfl) (by kernel_rfl) (by kernel_rfl) ?_
          refine (CT.out _).mono ?_
          rintro en rw1 ⟨rfl, hb⟩
          refine ⟨_, rfl, heldC_call H.out hb, ?_⟩
          have H := Lib.hid (heldC_call H.out hb)
          have AP := Lib.hid (AP.out.keep hb)
          clear hb
          refine run_call (args := [.int .i64 ((truthI ⟨xn, xd, ⟨#[]⟩⟩))]) (show opAt (opsOf Try.f22 8) 4 = some (some 29, .call { callee := .value (.func 75), args := [(.tmp 28)].toArray, argTypes := [68].toArray }, none) from by kernel_rfl) (by kernel_rfl) (by kernel_rfl) (by kernel_rfl) (by kernel_rfl) ?_
          refine (CN.out _).mono ?_
          rintro en rw2 ⟨rfl, rfl⟩
          refine ⟨_, rfl, H.out, ?_⟩
          refine run_call (args := [.int .i64 ((nL (truthI ⟨xn, xd, ⟨#[]⟩⟩)))]) (show opAt (opsOf Try.f22 8) 5 = some (some 30, .call { callee := .value (.func 59), args := [(.tmp 29)].toArray, argTypes := [68].toArray }, none) from by kernel_rfl) (by kernel_rfl) (by kernel_rfl) (by kernel_rfl) (by kernel_rfl) ?_
          refine (CI.out _).mono ?_
          rintro en rw3 ⟨rfl, hb⟩
          refine ⟨_, rfl, heldC_call H.out hb, ?_⟩
          have H := Lib.hid (heldC_call H.out hb)
          have AP := Lib.hid (AP.out.keep hb)
          clear hb
          refine tail_item2 (notIt (items.getD k noI)) (show opAt (opsOf Try.f22 8) 6 = some (some 31, .buildSlice 28 1 #[(0, (.tmp 30))], none) from by kernel_rfl) (by kernel_rfl) (by kernel_rfl) (show opAt (opsOf Try.f22 8) 7 = some (some 32, .call { callee := .builtin .append, args := [(.tmp 26), (.tmp 31)].toArray, argTypes := [28, 28].toArray }, none) from by kernel_rfl) (by kernel_rfl) (fun _ => by kernel_rfl) (show opAt (opsOf Try.f22 8) 8 = some (some 33, .fieldAddr 31 (.tmp 5) 1, none) from by kernel_rfl) (by kernel_rfl) (by kernel_rfl) (fun _ _ => by kernel_rfl) (show opAt (opsOf Try.f22 8) 9 = some (none, .store 28 (.tmp 33) (.tmp 32), none) from by kernel_rfl) (by kernel_rfl) (by kernel_rfl) H.out AP.out.row LN.out (Nat.succ_le_of_lt (Array.getElem?_eq_some_iff.1 (heldC_at H.out (List.Mem.tail _ (List.Mem.tail _ (List.Mem.head _))))).1) W0.out (List.Mem.tail _ (List.Mem.tail _ (List.Mem.head _))) rfl (Nat.lt_succ_self _) B0'.out (fun q hq => FAR.out _ q hq) ?_
          rintro v' w2 ⟨sa, sn, sc, rfl⟩ hK hO hB hZ hR hG
          simp only [putAll, Act.put, List.setIfInBounds_toArray, List.set_cons_zero, List.set_cons_succ]
          have AN := Lib.hid (AP.out.next hK hO hB (hR _ (List.Mem.tail _ (List.Mem.head _)) (by have := AP.out.o2; simp only; omega)) (fun g hg => hG g (by have := AP.out.rng g hg; have := AP.out.big; omega) (by have := AP.out.rng g hg; omega) (fun j hj => by have := (AP.out.row.lt j hj).1; have := AP.out.rng g hg; omega)))
          clear hK hO hB hR hG H FAR LN
          go_wp2
          go_roundw
          case rel => exact ⟨k + 1, sa, sn, sc, by omega, by go_num, NX.out ▸ AN.out⟩
          case measure => simp [intOf]; omega
        · obtain rfl : k = n := by omega
          have K1 := Lib.hid AP.out.vec
          have K0 := Lib.hid AP.out.res
          have FN := Lib.hid AP.out.fin
          obtain ⟨k0, k1, k2, k3, k4, k5, k6, k7⟩ := vec8 K1.out
          obtain ⟨z0, z1, z2, z3, z4, z5, z6, z7⟩ := vec8 K0.out
          obtain ⟨f0, f1, f2, f3, f4, f5, f6, f7⟩ := free8 K0.out
          go_wp2
          rw [XV1.out, XS1.out]
          exact vec_endS rfl rfl rfl rfl K0.out FN.out.withS
    · rw [(smy_non q hc (fun _ => noI) false nonLogB).2.1]
      have XV1 := Lib.hid (notV_non hc)
      have XS1 := Lib.hid (notS_non q hc)
      have hRb : (nonLogB.toList == []) = false := by have h := str_not (show nonLogB ≠ ⟨#[]⟩ by decide); rw [ByteArray.toList_eq ⟨#[]⟩] at h; exact h
      clear q hc k0 k1 k2 k3 k4 k5 k6 k7
      have K0 := Lib.hid KR2.out
      obtain ⟨z0, z1, z2, z3, z4, z5, z6, z7⟩ := vec8 K0.out
      obtain ⟨f0, f1, f2, f3, f4, f5, f6, f7⟩ := free8 K0.out
      go_wp2
      rw [XV1.out, XS1.out]
      exact vec_endS rfl rfl rfl rfl K0.out (zeroS _ w _ (put8_below B2.out (Nat.le_succ _)))
  · rw [(smy_bad q (fun _ => noI) false nonLogB).2.1]
    have XV1 := Lib.hid (notV_bad q)
    have XS1 := Lib.hid (notS_bad q)
    have hRb : (badB.toList == []) = false := by have h := str_not (show badB ≠ ⟨#[]⟩ by decide); rw [ByteArray.toList_eq ⟨#[]⟩] at h; exact h
    clear q k0 k1 k2 k3 k4 k5 k6 k7
    have K0 := Lib.hid KR2.out
    obtain ⟨z0, z1, z2, z3, z4, z5, z6, z7⟩ := vec8 K0.out
    obtain ⟨f0, f1, f2, f3, f4, f5, f6, f7⟩ := free8 K0.out
    go_wp2
    rw [XV1.out, XS1.out]
    exact vec_endS rfl rfl rfl rfl K0.out (zeroS _ w _ (put8_below B2.out (Nat.le_succ _)))
end Go.Proofs.Ytlnjjjoeblopeaa

/- The reference's arithmetic, each function against its plain one. -/
namespace Go.Proofs.Ytlnjjjoeblopeaa
set_option maxRecDepth 100000
open Go.RowKit
set_option linter.unusedVariables false
theorem floorS_t (x : It) : (floorI x).t = ⟨#[]⟩ := by unfold floorI; split; exact ofQ_t _; rfl
theorem roundS_t (x : It) : (roundI x).t = ⟨#[]⟩ := by unfold roundI; split; exact ofQ_t _; rfl
theorem quoS_t (x y : It) : (quoI x y).t = ⟨#[]⟩ := by unfold quoI; split; exact ofQ_t _; rfl
theorem remS_t (x y : It) : (remI x y).t = ⟨#[]⟩ := by unfold remI; split; exact ofQ_t _; rfl
theorem not_both1 {x y : It} (h : isN x = false) : both x y = false := by unfold both; rw [h]; rfl
theorem not_both2 {x y : It} (h : isN y = false) : both x y = false := by unfold both; rw [h]; simp
theorem add_no {x y : It} (h : both x y = false) : addI x y = noI := by unfold addI; simp [h]
theorem mul_no {x y : It} (h : both x y = false) : mulI x y = noI := by unfold mulI; simp [h]
theorem div_no {x y : It} (h : both x y = false) : divI x y = noI := by unfold divI; simp [h]
theorem quo_no {x y : It} (h : both x y = false) : quoI x y = noI := by unfold quoI; simp [h]
theorem rem_no {x y : It} (h : both x y = false) : remI x y = noI := by unfold remI; simp [h]
theorem quo_no0 {x y : It} (h : y.n = 0) : quoI x y = noI := by unfold quoI; simp [h]
theorem rem_no0 {x y : It} (h : y.n = 0) : remI x y = noI := by unfold remI; simp [h]

set_option maxHeartbeats 2000000 in
theorem specAdd (x y : It) (w : World) (hx : x.t.size ≤ 9223372036854775807) (hy : y.t.size ≤ 9223372036854775807) :
    Calls Try.prog 91 #[.agg #[.int .i64 x.n, .int .i64 x.d, .string x.t], .agg #[.int .i64 y.n, .int .i64 y.d, .string y.t]] w fun e w' => e = .returned (.agg #[.int .i64 (addI x y).n, .int .i64 (addI x y).d, .string (addI x y).t]) ∧ Below w.heap.size w w' := by
  cases h : isN x
  · have X := Lib.hid (add_no (y := y) (not_both1 h))
    have NX := Lib.hid (show isN ⟨x.n, x.d, x.t⟩ = false from h)
    clear h
    go_enter Try.func91, Try.ntmps91
    go_wp2_with fail
    refine (specNumNo x.n x.d x.t _ hx NX.out).mono ?_
    rintro e w1 ⟨rfl, hb⟩
    obtain ⟨hc, hf⟩ := bcell hb
    have W1 := Lib.hid hb
    have B1 := Lib.hid (below_then (below3 w _ _ _) hb)
    have G1 := Lib.hid (blk_below (g := w.heap.size + 2) hb (blk_new _ _ (by simp)))
    have hz : w.heap.size + 2 < w1.heap.size := by have := hb.size; simp at this; omega
    clear hb
    go_wp2
    rw [X.out]
    exact item_ret rfl rfl rfl G1.out ⟨rfl, below_three B1.out (by omega) _ _ _⟩
  · cases k : isN y
    · have X := Lib.hid (add_no (x := x) (not_both2 k))
      have NX := Lib.hid (show isN ⟨x.n, x.d, x.t⟩ = true from h)
      have NY := Lib.hid (show isN ⟨y.n, y.d, y.t⟩ = false from k)
      clear h k
      go_enter Try.func91, Try.ntmps91
      go_wp2_with fail
      refine (specNumYes x.n x.d x.t _ hx NX.out).mono ?_
      rintro e w1 ⟨rfl, hb⟩
      obtain ⟨hc, hf⟩ := bcell hb
      have W1 := Lib.hid hb
      have B1 := Lib.hid (below_then (below3 w _ _ _) hb)
      have G1 := Lib.hid (blk_below (g := w.heap.size + 2) hb (blk_new _ _ (by simp)))
      have hz : w.heap.size + 2 < w1.heap.size := by have := hb.size; simp at this; omega
      clear hb
      go_wp2_with fail
      refine (specNumNo y.n y.d y.t _ hy NY.out).mono ?_
      rintro e w2 ⟨rfl, hb⟩
      have W2 := Lib.hid (W1.out.trans (hb.mono W1.out.size))
      clear hc hf
      obtain ⟨hc2, hf2⟩ := bcell W2.out
      have B2 := Lib.hid (below_then B1.out hb)
      have G2 := Lib.hid (blk_below hb G1.out)
      have hz2 : w.heap.size + 2 < w2.heap.size := by have := hb.size; omega
      clear hb
      go_wp2
      rw [X.out]
      exact item_ret rfl rfl rfl G2.out ⟨rfl, below_three B2.out (by omega) _ _ _⟩
    · have hB : both x y = true := both_iff.2 ⟨h, k⟩
      have P := parts_in h k
      have NX := Lib.hid (show isN ⟨x.n, x.d, x.t⟩ = true from h)
      have NY := Lib.hid (show isN ⟨y.n, y.d, y.t⟩ = true from k)
      have X := Lib.hid (add_mk hB)
      have XT := Lib.hid (addI_t x y)
      have a0 : -999999998000000001 ≤ x.n * y.d := by omega
      have a1 : x.n * y.d ≤ 999999998000000001 := by omega
      have b0 : -999999998000000001 ≤ y.n * x.d := by omega
      have b1 : y.n * x.d ≤ 999999998000000001 := by omega
      have c0 : -999999998000000001 ≤ x.d * y.d := by omega
      have c1 : x.d * y.d ≤ 999999998000000001 := by omega
      clear h k hB P
      go_enter Try.func91, Try.ntmps91
      go_wp2_with fail
      refine (specNumYes x.n x.d x.t _ hx NX.out).mono ?_
      rintro e w1 ⟨rfl, hb⟩
      obtain ⟨hc, hf⟩ := bcell hb
      have W1 := Lib.hid hb
      have B1 := Lib.hid (below_then (below3 w _ _ _) hb)
      have G1 := Lib.hid (blk_below (g := w.heap.size + 2) hb (blk_new _ _ (by simp)))
      have hz : w.heap.size + 2 < w1.heap.size := by have := hb.size; simp at this; omega
      clear hb
      go_wp2_with fail
      refine (specNumYes y.n y.d y.t _ hy NY.out).mono ?_
      rintro e w2 ⟨rfl, hb⟩
      have W2 := Lib.hid (W1.out.trans (hb.mono W1.out.size))
      clear hc hf
      obtain ⟨hc2, hf2⟩ := bcell W2.out
      have B2 := Lib.hid (below_then B1.out hb)
      have G2 := Lib.hid (blk_below hb G1.out)
      have hz2 : w.heap.size + 2 < w2.heap.size := by have := hb.size; omega
      clear hb
      go_wp2_with fail
      refine (specMake (x.n * y.d + y.n * x.d) (x.d * y.d) _ ⟨by omega, by omega⟩ ⟨by omega, by omega⟩).mono ?_
      rintro e w3 ⟨rfl, hb⟩
      have W3 := Lib.hid (W2.out.trans (hb.mono W2.out.size))
      clear hc2 hf2
      obtain ⟨hc3, hf3⟩ := bcell W3.out
      have B3 := Lib.hid (below_then B2.out hb)
      have G3 := Lib.hid (blk_below hb G2.out)
      clear hb
      rw [X.out]
      go_wp2
      rw [XT.out]
      exact item_ret rfl rfl rfl G3.out ⟨rfl, below_three B3.out (by omega) _ _ _⟩

set_option maxHeartbeats 2000000 in
theorem specMul (x y : It) (w : World) (hx : x.t.size ≤ 9223372036854775807) (hy : y.t.size ≤ 9223372036854775807) :
    Calls Try.prog 86 #[.agg #[.int .i64 x.n, .int .i64 x.d, .string x.t], .agg #[.int .i64 y.n, .int .i64 y.d, .string y.t]] w fun e w' => e = .returned (.agg #[.int .i64 (mulI x y).n, .int .i64 (mulI x y).d, .string (mulI x y).t]) ∧ Below w.heap.size w w' := by
  cases h : isN x
  · have X := Lib.hid (mul_no (y := y) (not_both1 h))
    have NX := Lib.hid (show isN ⟨x.n, x.d, x.t⟩ = false from h)
    clear h
    go_enter Try.func86, Try.ntmps86
    go_wp2_with fail
    refine (specNumNo x.n x.d x.t _ hx NX.out).mono ?_
    rintro e w1 ⟨rfl, hb⟩
    obtain ⟨hc, hf⟩ := bcell hb
    have W1 := Lib.hid hb
    have B1 := Lib.hid (below_then (below3 w _ _ _) hb)
    have G1 := Lib.hid (blk_below (g := w.heap.size + 2) hb (blk_new _ _ (by simp)))
    have hz : w.heap.size + 2 < w1.heap.size := by have := hb.size; simp at this; omega
    clear hb
    go_wp2
    rw [X.out]
    exact item_ret rfl rfl rfl G1.out ⟨rfl, below_three B1.out (by omega) _ _ _⟩
  · cases k : isN y
    · have X := Lib.hid (mul_no (x := x) (not_both2 k))
      have NX := Lib.hid (show isN ⟨x.n, x.d, x.t⟩ = true from h)
      have NY := Lib.hid (show isN ⟨y.n, y.d, y.t⟩ = false from k)
      clear h k
      go_enter Try.func86, Try.ntmps86
      go_wp2_with fail
      refine (specNumYes x.n x.d x.t _ hx NX.out).mono ?_
      rintro e w1 ⟨rfl, hb⟩
      obtain ⟨hc, hf⟩ := bcell hb
      have W1 := Lib.hid hb
      have B1 := Lib.hid (below_then (below3 w _ _ _) hb)
      have G1 := Lib.hid (blk_below (g := w.heap.size + 2) hb (blk_new _ _ (by simp)))
      have hz : w.heap.size + 2 < w1.heap.size := by have := hb.size; simp at this; omega
      clear hb
      go_wp2_with fail
      refine (specNumNo y.n y.d y.t _ hy NY.out).mono ?_
      rintro e w2 ⟨rfl, hb⟩
      have W2 := Lib.hid (W1.out.trans (hb.mono W1.out.size))
      clear hc hf
      obtain ⟨hc2, hf2⟩ := bcell W2.out
      have B2 := Lib.hid (below_then B1.out hb)
      have G2 := Lib.hid (blk_below hb G1.out)
      have hz2 : w.heap.size + 2 < w2.heap.size := by have := hb.size; omega
      clear hb
      go_wp2
      rw [X.out]
      exact item_ret rfl rfl rfl G2.out ⟨rfl, below_three B2.out (by omega) _ _ _⟩
    · have hB : both x y = true := both_iff.2 ⟨h, k⟩
      have P := parts_in h k
      have NX := Lib.hid (show isN ⟨x.n, x.d, x.t⟩ = true from h)
      have NY := Lib.hid (show isN ⟨y.n, y.d, y.t⟩ = true from k)
      have X := Lib.hid (mul_mk hB)
      have XT := Lib.hid (mulI_t x y)
      have a0 : -999999998000000001 ≤ x.n * y.n := by omega
      have a1 : x.n * y.n ≤ 999999998000000001 := by omega
      have c0 : -999999998000000001 ≤ x.d * y.d := by omega
      have c1 : x.d * y.d ≤ 999999998000000001 := by omega
      clear h k hB P
      go_enter Try.func86, Try.ntmps86
      go_wp2_with fail
      refine (specNumYes x.n x.d x.t _ hx NX.out).mono ?_
      rintro e w1 ⟨rfl, hb⟩
      obtain ⟨hc, hf⟩ := bcell hb
      have W1 := Lib.hid hb
      have B1 := Lib.hid (below_then (below3 w _ _ _) hb)
      have G1 := Lib.hid (blk_below (g := w.heap.size + 2) hb (blk_new _ _ (by simp)))
      have hz : w.heap.size + 2 < w1.heap.size := by have := hb.size; simp at this; omega
      clear hb
      go_wp2_with fail
      refine (specNumYes y.n y.d y.t _ hy NY.out).mono ?_
      rintro e w2 ⟨rfl, hb⟩
      have W2 := Lib.hid (W1.out.trans (hb.mono W1.out.size))
      clear hc hf
      obtain ⟨hc2, hf2⟩ := bcell W2.out
      have B2 := Lib.hid (below_then B1.out hb)
      have G2 := Lib.hid (blk_below hb G1.out)
      have hz2 : w.heap.size + 2 < w2.heap.size := by have := hb.size; omega
      clear hb
      go_wp2_with fail
      refine (specMake (x.n * y.n) (x.d * y.d) _ ⟨by omega, by omega⟩ ⟨by omega, by omega⟩).mono ?_
      rintro e w3 ⟨rfl, hb⟩
      have W3 := Lib.hid (W2.out.trans (hb.mono W2.out.size))
      clear hc2 hf2
      obtain ⟨hc3, hf3⟩ := bcell W3.out
      have B3 := Lib.hid (below_then B2.out hb)
      have G3 := Lib.hid (blk_below hb G2.out)
      clear hb
      rw [X.out]
      go_wp2
      rw [XT.out]
      exact item_ret rfl rfl rfl G3.out ⟨rfl, below_three B3.out (by omega) _ _ _⟩

set_option maxHeartbeats 2000000 in
theorem specDiv (x y : It) (w : World) (hx : x.t.size ≤ 9223372036854775807) (hy : y.t.size ≤ 9223372036854775807) :
    Calls Try.prog 88 #[.agg #[.int .i64 x.n, .int .i64 x.d, .string x.t], .agg #[.int .i64 y.n, .int .i64 y.d, .string y.t]] w fun e w' => e = .returned (.agg #[.int .i64 (divI x y).n, .int .i64 (divI x y).d, .string (divI x y).t]) ∧ Below w.heap.size w w' := by
  cases h : isN x
  · have X := Lib.hid (div_no (y := y) (not_both1 h))
    have NX := Lib.hid (show isN ⟨x.n, x.d, x.t⟩ = false from h)
    clear h
    go_enter Try.func88, Try.ntmps88
    go_wp2_with fail
    refine (specNumNo x.n x.d x.t _ hx NX.out).mono ?_
    rintro e w1 ⟨rfl, hb⟩
    obtain ⟨hc, hf⟩ := bcell hb
    have W1 := Lib.hid hb
    have B1 := Lib.hid (below_then (below3 w _ _ _) hb)
    have G1 := Lib.hid (blk_below (g := w.heap.size + 2) hb (blk_new _ _ (by simp)))
    have hz : w.heap.size + 2 < w1.heap.size := by have := hb.size; simp at this; omega
    clear hb
    go_wp2
    rw [X.out]
    exact item_ret rfl rfl rfl G1.out ⟨rfl, below_three B1.out (by omega) _ _ _⟩
  · cases k : isN y
    · have X := Lib.hid (div_no (x := x) (not_both2 k))
      have NX := Lib.hid (show isN ⟨x.n, x.d, x.t⟩ = true from h)
      have NY := Lib.hid (show isN ⟨y.n, y.d, y.t⟩ = false from k)
      clear h k
      go_enter Try.func88, Try.ntmps88
      go_wp2_with fail
      refine (specNumYes x.n x.d x.t _ hx NX.out).mono ?_
      rintro e w1 ⟨rfl, hb⟩
      obtain ⟨hc, hf⟩ := bcell hb
      have W1 := Lib.hid hb
      have B1 := Lib.hid (below_then (below3 w _ _ _) hb)
      have G1 := Lib.hid (blk_below (g := w.heap.size + 2) hb (blk_new _ _ (by simp)))
      have hz : w.heap.size + 2 < w1.heap.size := by have := hb.size; simp at this; omega
      clear hb
      go_wp2_with fail
      refine (specNumNo y.n y.d y.t _ hy NY.out).mono ?_
      rintro e w2 ⟨rfl, hb⟩
      have W2 := Lib.hid (W1.out.trans (hb.mono W1.out.size))
      clear hc hf
      obtain ⟨hc2, hf2⟩ := bcell W2.out
      have B2 := Lib.hid (below_then B1.out hb)
      have G2 := Lib.hid (blk_below hb G1.out)
      have hz2 : w.heap.size + 2 < w2.heap.size := by have := hb.size; omega
      clear hb
      go_wp2
      rw [X.out]
      exact item_ret rfl rfl rfl G2.out ⟨rfl, below_three B2.out (by omega) _ _ _⟩
    · have hB : both x y = true := both_iff.2 ⟨h, k⟩
      have P := parts_in h k
      have NX := Lib.hid (show isN ⟨x.n, x.d, x.t⟩ = true from h)
      have NY := Lib.hid (show isN ⟨y.n, y.d, y.t⟩ = true from k)
      have X := Lib.hid (div_mk hB)
      have XT := Lib.hid (divI_t x y)
      have a0 : -999999998000000001 ≤ x.n * y.d := by omega
      have a1 : x.n * y.d ≤ 999999998000000001 := by omega
      have c0 : -999999998000000001 ≤ x.d * y.n := by omega
      have c1 : x.d * y.n ≤ 999999998000000001 := by omega
      clear h k hB P
      go_enter Try.func88, Try.ntmps88
      go_wp2_with fail
      refine (specNumYes x.n x.d x.t _ hx NX.out).mono ?_
      rintro e w1 ⟨rfl, hb⟩
      obtain ⟨hc, hf⟩ := bcell hb
      have W1 := Lib.hid hb
      have B1 := Lib.hid (below_then (below3 w _ _ _) hb)
      have G1 := Lib.hid (blk_below (g := w.heap.size + 2) hb (blk_new _ _ (by simp)))
      have hz : w.heap.size + 2 < w1.heap.size := by have := hb.size; simp at this; omega
      clear hb
      go_wp2_with fail
      refine (specNumYes y.n y.d y.t _ hy NY.out).mono ?_
      rintro e w2 ⟨rfl, hb⟩
      have W2 := Lib.hid (W1.out.trans (hb.mono W1.out.size))
      clear hc hf
      obtain ⟨hc2, hf2⟩ := bcell W2.out
      have B2 := Lib.hid (below_then B1.out hb)
      have G2 := Lib.hid (blk_below hb G1.out)
      have hz2 : w.heap.size + 2 < w2.heap.size := by have := hb.size; omega
      clear hb
      go_wp2_with fail
      refine (specMake (x.n * y.d) (x.d * y.n) _ ⟨by omega, by omega⟩ ⟨by omega, by omega⟩).mono ?_
      rintro e w3 ⟨rfl, hb⟩
      have W3 := Lib.hid (W2.out.trans (hb.mono W2.out.size))
      clear hc2 hf2
      obtain ⟨hc3, hf3⟩ := bcell W3.out
      have B3 := Lib.hid (below_then B2.out hb)
      have G3 := Lib.hid (blk_below hb G2.out)
      clear hb
      rw [X.out]
      go_wp2
      rw [XT.out]
      exact item_ret rfl rfl rfl G3.out ⟨rfl, below_three B3.out (by omega) _ _ _⟩

set_option maxHeartbeats 1000000 in
theorem specNeg (x : It) (w : World) (hx : x.t.size ≤ 9223372036854775807) :
    Calls Try.prog 136 #[.agg #[.int .i64 x.n, .int .i64 x.d, .string x.t]] w fun e w' => e = .returned (.agg #[.int .i64 (negI x).n, .int .i64 (negI x).d, .string (negI x).t]) ∧ Below w.heap.size w w' := by
  cases h : isN x
  · have X := Lib.hid (show negI x = noI by unfold negI; simp [h])
    have NX := Lib.hid (show isN ⟨x.n, x.d, x.t⟩ = false from h)
    clear h
    go_enter Try.func136, Try.ntmps136
    go_wp2_with fail
    refine (specNumNo x.n x.d x.t _ hx NX.out).mono ?_
    rintro e w1 ⟨rfl, hb⟩
    obtain ⟨hc, hf⟩ := bcell hb
    have W1 := Lib.hid hb
    have B1 := Lib.hid (below_then (below2 w _ _) hb)
    have G1 := Lib.hid (blk_below (g := w.heap.size + 1) hb (blk_new _ _ (by simp)))
    have hz : w.heap.size + 1 < w1.heap.size := by have := hb.size; simp at this; omega
    clear hb
    go_wp2
    rw [X.out]
    exact item_ret rfl rfl rfl G1.out ⟨rfl, below_three B1.out (by omega) _ _ _⟩
  · have P := isN_iff.1 h
    have p0 : -999999999 ≤ x.n := P.2.2.2.1
    have p1 : x.n ≤ 999999999 := P.2.2.2.2.1
    have p2 : 1 ≤ x.d := P.2.1
    have p3 : x.d ≤ 999999999 := P.2.2.1
    have NX := Lib.hid (show isN ⟨x.n, x.d, x.t⟩ = true from h)
    have X := Lib.hid (neg_mk h)
    clear h P
    go_enter Try.func136, Try.ntmps136
    go_wp2_with fail
    refine (specNumYes x.n x.d x.t _ hx NX.out).mono ?_
    rintro e w1 ⟨rfl, hb⟩
    obtain ⟨hc, hf⟩ := bcell hb
    have W1 := Lib.hid hb
    have B1 := Lib.hid (below_then (below2 w _ _) hb)
    have G1 := Lib.hid (blk_below (g := w.heap.size + 1) hb (blk_new _ _ (by simp)))
    have hz : w.heap.size + 1 < w1.heap.size := by have := hb.size; simp at this; omega
    clear hb
    go_wp2
    rw [← X.out]
    exact item_ret rfl rfl rfl G1.out ⟨rfl, below_three B1.out (by omega) _ _ _⟩

set_option maxHeartbeats 1000000 in
theorem specFl (n d : Int) (w : World) (n0 : -4000000000000000000 ≤ n) (n1 : n ≤ 4000000000000000000) (d0 : 0 < d) (d1 : d ≤ 4000000000000000000) :
    Calls Try.prog 149 #[.int .i64 n, .int .i64 d] w fun e w' => e = .returned (.int .i64 (n.fdiv d)) ∧ w = w' := by
  have X := flS_eq (n := n) d0
  unfold flS at X
  obtain ⟨r0, r1, _⟩ := tmod_in2 (x := n) (show d ≠ 0 by omega) (by omega) d1
  have q := Int.natAbs_tdiv_le_natAbs n d
  have q0 : -4000000000000000000 ≤ n.tdiv d := by omega
  have q1 : n.tdiv d ≤ 4000000000000000000 := by omega
  clear q
  by_cases c : n.tmod d < 0
  · rw [if_pos c] at X
    have XX := Lib.hid X
    clear X
    go_enter Try.func149, Try.ntmps149
    go_wp2
    go_ret
    exact ⟨ret_i XX.out, rfl⟩
  · rw [if_neg c] at X
    have XX := Lib.hid X
    clear X
    go_enter Try.func149, Try.ntmps149
    go_wp2
    go_ret
    exact ⟨ret_i XX.out, rfl⟩

theorem ret_ii {a b c d : Int} (h : a = c) (k : b = d) : Ending.returned (.tuple #[.int .i64 a, .int .i64 b]) = .returned (.tuple #[.int .i64 c, .int .i64 d]) := by rw [h, k]
/-- The two parts with a positive second one. -/
def flip1 (x y : It) : Int := if y.n < 0 then -(x.n * y.d) else x.n * y.d
def flip2 (x y : It) : Int := if y.n < 0 then -(x.d * y.n) else x.d * y.n
set_option maxHeartbeats 1000000 in
theorem specParts (x y : It) (w : World) (d1 : 1 ≤ x.d) (P : (-999999998000000001 ≤ x.n * y.d ∧ x.n * y.d ≤ 999999998000000001) ∧ (-999999998000000001 ≤ x.d * y.n ∧ x.d * y.n ≤ 999999998000000001)) :
    Calls Try.prog 148 #[.agg #[.int .i64 x.n, .int .i64 x.d, .string x.t], .agg #[.int .i64 y.n, .int .i64 y.d, .string y.t]] w fun e w' => e = .returned (.tuple #[.int .i64 (flip1 x y), .int .i64 (flip2 x y)]) ∧ Below w.heap.size w w' := by
  have e : x.d * y.n = y.n * x.d := Int.mul_comm ..
  rw [e] at P
  have a0 := P.1.1
  have a1 := P.1.2
  have b0 := P.2.1
  have b1 := P.2.2
  clear P e
  by_cases c : y.n < 0
  · have X1 := Lib.hid (show flip1 x y = -(x.n * y.d) by unfold flip1; rw [if_pos c])
    have X2 := Lib.hid (show flip2 x y = -(y.n * x.d) by unfold flip2; rw [if_pos c, Int.mul_comm])
    have c' : y.n * x.d < 0 := Int.mul_neg_of_neg_of_pos c (by omega)
    clear c
    go_enter Try.func148, Try.ntmps148
    go_wp2
    go_ret2
    exact ⟨ret_ii X1.out.symm X2.out.symm, below2 w _ _⟩
  · have X1 := Lib.hid (show flip1 x y = x.n * y.d by unfold flip1; rw [if_neg c])
    have X2 := Lib.hid (show flip2 x y = y.n * x.d by unfold flip2; rw [if_neg c, Int.mul_comm])
    have c' : 0 ≤ y.n * x.d := Int.mul_nonneg (by omega) (by omega)
    clear c
    go_enter Try.func148, Try.ntmps148
    go_wp2
    go_ret2
    exact ⟨ret_ii X1.out.symm X2.out.symm, below2 w _ _⟩
/-- What the two parts say. -/
theorem flip_facts {x y : It} (h : both x y = true) (h0 : y.n ≠ 0) : ∃ p s : Int, flip1 x y = p ∧ flip2 x y = s ∧ (-999999998000000001 ≤ p ∧ p ≤ 999999998000000001) ∧ 0 < s ∧ s ≤ 999999998000000001 ∧
    mkI (p.fdiv s) 1 = quoI x y ∧ (y.n < 0 → mkI (-(p - s * p.fdiv s)) (x.d * y.d) = remI x y) ∧ (¬ y.n < 0 → mkI (p - s * p.fdiv s) (x.d * y.d) = remI x y) ∧ (-1000000000000000000 ≤ p.fdiv s ∧ p.fdiv s ≤ 1000000000000000000) ∧
    (-999999998000000001 ≤ s * p.fdiv s - p ∧ s * p.fdiv s - p ≤ 999999998000000001) := by
  obtain ⟨hx, hy⟩ := both_iff.1 h
  have P := parts_in hx hy
  have a := isN_iff.1 hx
  have b := isN_iff.1 hy
  have hz : x.d * y.n ≠ 0 := Int.mul_ne_zero (by omega) h0
  have q := quo_mk h h0
  have r := rem_mk h h0
  have e := Int.fmod_add_mul_fdiv (x.n * y.d) (x.d * y.n)
  have fm := fmod_in (n := x.n * y.d) (d := x.d * y.n) (A := 999999998000000001) (by omega) (by omega) hz
  have fd := fdiv_in (n := x.n * y.d) (d := x.d * y.n) (A := 999999998000000001) hz (by omega) (by omega)
  refine ⟨_, _, rfl, rfl, ?_⟩
  unfold flip1 flip2
  by_cases c : y.n < 0
  · have s0 : x.d * y.n < 0 := Int.mul_neg_of_pos_of_neg (by omega) c
    rw [if_pos c, if_pos c, Int.neg_fdiv_neg, Int.neg_mul]
    refine ⟨by omega, by omega, by omega, q, fun _ => ?_, fun k => absurd c k, by omega, by omega⟩
    rw [← r]; congr 1; omega
  · have s0 : 0 < x.d * y.n := Int.mul_pos (by omega) (by omega)
    rw [if_neg c, if_neg c]
    refine ⟨by omega, by omega, by omega, q, fun k => absurd k c, fun _ => ?_, by omega, by omega⟩
    rw [← r]; congr 1; omega

set_option maxHeartbeats 2000000 in
theorem specQuo (x y : It) (w : World) (hx : x.t.size ≤ 9223372036854775807) (hy : y.t.size ≤ 9223372036854775807) :
    Calls Try.prog 124 #[.agg #[.int .i64 x.n, .int .i64 x.d, .string x.t], .agg #[.int .i64 y.n, .int .i64 y.d, .string y.t]] w fun e w' => e = .returned (.agg #[.int .i64 (quoI x y).n, .int .i64 (quoI x y).d, .string (quoI x y).t]) ∧ Below w.heap.size w w' := by
  cases h : isN x
  · have X := Lib.hid (quo_no (y := y) (not_both1 h))
    have NX := Lib.hid (show isN ⟨x.n, x.d, x.t⟩ = false from h)
    clear h
    go_enter Try.func124, Try.ntmps124
    go_wp2_with fail
    refine (specNumNo x.n x.d x.t _ hx NX.out).mono ?_
    rintro e w1 ⟨rfl, hb⟩
    obtain ⟨hc, hf⟩ := bcell hb
    have W1 := Lib.hid hb
    have B1 := Lib.hid (below_then (below3 w _ _ _) hb)
    have G1 := Lib.hid (blk_below (g := w.heap.size + 2) hb (blk_new _ _ (by simp)))
    have hz : w.heap.size + 2 < w1.heap.size := by have := hb.size; simp at this; omega
    clear hb
    go_wp2
    rw [X.out]
    exact item_ret rfl rfl rfl G1.out ⟨rfl, below_three B1.out (by omega) _ _ _⟩
  · cases k : isN y
    · have X := Lib.hid (quo_no (x := x) (not_both2 k))
      have NX := Lib.hid (show isN ⟨x.n, x.d, x.t⟩ = true from h)
      have NY := Lib.hid (show isN ⟨y.n, y.d, y.t⟩ = false from k)
      clear h k
      go_enter Try.func124, Try.ntmps124
      go_wp2_with fail
      refine (specNumYes x.n x.d x.t _ hx NX.out).mono ?_
      rintro e w1 ⟨rfl, hb⟩
      obtain ⟨hc, hf⟩ := bcell hb
      have W1 := Lib.hid hb
      have B1 := Lib.hid (below_then (below3 w _ _ _) hb)
      have G1 := Lib.hid (blk_below (g := w.heap.size + 2) hb (blk_new _ _ (by simp)))
      have hz : w.heap.size + 2 < w1.heap.size := by have := hb.size; simp at this; omega
      clear hb
      go_wp2_with fail
      refine (specNumNo y.n y.d y.t _ hy NY.out).mono ?_
      rintro e w2 ⟨rfl, hb⟩
      have W2 := Lib.hid (W1.out.trans (hb.mono W1.out.size))
      clear hc hf
      obtain ⟨hc2, hf2⟩ := bcell W2.out
      have B2 := Lib.hid (below_then B1.out hb)
      have G2 := Lib.hid (blk_below hb G1.out)
      have hz2 : w.heap.size + 2 < w2.heap.size := by have := hb.size; omega
      clear hb
      go_wp2
      rw [X.out]
      exact item_ret rfl rfl rfl G2.out ⟨rfl, below_three B2.out (by omega) _ _ _⟩
    · have hB : both x y = true := both_iff.2 ⟨h, k⟩
      have P := parts_in h k
      have NX := Lib.hid (show isN ⟨x.n, x.d, x.t⟩ = true from h)
      have NY := Lib.hid (show isN ⟨y.n, y.d, y.t⟩ = true from k)
      by_cases h0 : y.n = 0
      · have X := Lib.hid (quo_no0 (x := x) h0)
        have h0' : (y.n == 0) = true := by simp [h0]
        clear h k hB P h0
        go_enter Try.func124, Try.ntmps124
        go_wp2_with fail
        refine (specNumYes x.n x.d x.t _ hx NX.out).mono ?_
        rintro e w1 ⟨rfl, hb⟩
        obtain ⟨hc, hf⟩ := bcell hb
        have W1 := Lib.hid hb
        have B1 := Lib.hid (below_then (below3 w _ _ _) hb)
        have G1 := Lib.hid (blk_below (g := w.heap.size + 2) hb (blk_new _ _ (by simp)))
        have hz : w.heap.size + 2 < w1.heap.size := by have := hb.size; simp at this; omega
        clear hb
        go_wp2_with fail
        refine (specNumYes y.n y.d y.t _ hy NY.out).mono ?_
        rintro e w2 ⟨rfl, hb⟩
        have W2 := Lib.hid (W1.out.trans (hb.mono W1.out.size))
        clear hc hf
        obtain ⟨hc2, hf2⟩ := bcell W2.out
        have B2 := Lib.hid (below_then B1.out hb)
        have G2 := Lib.hid (blk_below hb G1.out)
        have hz2 : w.heap.size + 2 < w2.heap.size := by have := hb.size; omega
        clear hb
        go_wp2
        rw [X.out]
        exact item_ret rfl rfl rfl G2.out ⟨rfl, below_three B2.out (by omega) _ _ _⟩
      · have h0' : (y.n == 0) = false := by simp [h0]
        have dx := (isN_iff.1 h).2.1
        have C := Lib.hid (fun W => specParts x y W dx ⟨by omega, by omega⟩)
        obtain ⟨p, s, e1, e2, ⟨p0, p1⟩, s0, s1, q1, r1, r2, ⟨f0, f1⟩, ⟨g0, g1⟩⟩ := flip_facts hB h0
        rw [e1, e2] at C
        have XT := Lib.hid (quoS_t x y)
        have X := Lib.hid q1
        clear h k hB P h0 e1 e2 q1 r1 r2
        go_enter Try.func124, Try.ntmps124
        go_wp2_with fail
        refine (specNumYes x.n x.d x.t _ hx NX.out).mono ?_
        rintro e w1 ⟨rfl, hb⟩
        obtain ⟨hc, hf⟩ := bcell hb
        have W1 := Lib.hid hb
        have B1 := Lib.hid (below_then (below3 w _ _ _) hb)
        have G1 := Lib.hid (blk_below (g := w.heap.size + 2) hb (blk_new _ _ (by simp)))
        have hz : w.heap.size + 2 < w1.heap.size := by have := hb.size; simp at this; omega
        clear hb
        go_wp2_with fail
        refine (specNumYes y.n y.d y.t _ hy NY.out).mono ?_
        rintro e w2 ⟨rfl, hb⟩
        have W2 := Lib.hid (W1.out.trans (hb.mono W1.out.size))
        clear hc hf
        obtain ⟨hc2, hf2⟩ := bcell W2.out
        have B2 := Lib.hid (below_then B1.out hb)
        have G2 := Lib.hid (blk_below hb G1.out)
        have hz2 : w.heap.size + 2 < w2.heap.size := by have := hb.size; omega
        clear hb
        go_wp2_with fail
        refine (C.out _).mono ?_
        rintro e w3 ⟨rfl, hb⟩
        have W3 := Lib.hid (W2.out.trans (hb.mono W2.out.size))
        clear hc2 hf2
        obtain ⟨hc3, hf3⟩ := bcell W3.out
        have B3 := Lib.hid (below_then B2.out hb)
        have G3 := Lib.hid (blk_below hb G2.out)
        have hz3 : w.heap.size + 2 < w3.heap.size := by have := hb.size; omega
        clear hb
        go_wp2_with fail
        refine (specFl p s _ (by omega) (by omega) s0 (by omega)).mono ?_
        rintro e w' ⟨rfl, rfl⟩
        go_wp2_with fail
        refine (specMake (p.fdiv s) 1 _ ⟨by omega, by omega⟩ ⟨by omega, by omega⟩).mono ?_
        rintro e w4 ⟨rfl, hb⟩
        have W4 := Lib.hid (W3.out.trans (hb.mono W3.out.size))
        clear hc3 hf3
        obtain ⟨hc4, hf4⟩ := bcell W4.out
        have B4 := Lib.hid (below_then B3.out hb)
        have G4 := Lib.hid (blk_below hb G3.out)
        clear hb
        rw [X.out]
        go_wp2
        rw [XT.out]
        exact item_ret rfl rfl rfl G4.out ⟨rfl, below_three B4.out (by omega) _ _ _⟩

set_option maxHeartbeats 2000000 in
theorem specRem (x y : It) (w : World) (hx : x.t.size ≤ 9223372036854775807) (hy : y.t.size ≤ 9223372036854775807) :
    Calls Try.prog 123 #[.agg #[.int .i64 x.n, .int .i64 x.d, .string x.t], .agg #[.int .i64 y.n, .int .i64 y.d, .string y.t]] w fun e w' => e = .returned (.agg #[.int .i64 (remI x y).n, .int .i64 (remI x y).d, .string (remI x y).t]) ∧ Below w.heap.size w w' := by
  cases h : isN x
  · have X := Lib.hid (rem_no (y := y) (not_both1 h))
    have NX := Lib.hid (show isN ⟨x.n, x.d, x.t⟩ = false from h)
    clear h
    go_enter Try.func123, Try.ntmps123
    go_wp2_with fail
    refine (specNumNo x.n x.d x.t _ hx NX.out).mono ?_
    rintro e w1 ⟨rfl, hb⟩
    obtain ⟨hc, hf⟩ := bcell hb
    have W1 := Lib.hid hb
    have B1 := Lib.hid (below_then (below3 w _ _ _) hb)
    have G1 := Lib.hid (blk_below (g := w.heap.size + 2) hb (blk_new _ _ (by simp)))
    have hz : w.heap.size + 2 < w1.heap.size := by have := hb.size; simp at this; omega
    clear hb
    go_wp2
    rw [X.out]
    exact item_ret rfl rfl rfl G1.out ⟨rfl, below_three B1.out (by omega) _ _ _⟩
  · cases k : isN y
    · have X := Lib.hid (rem_no (x := x) (not_both2 k))
      have NX := Lib.hid (show isN ⟨x.n, x.d, x.t⟩ = true from h)
      have NY := Lib.hid (show isN ⟨y.n, y.d, y.t⟩ = false from k)
      clear h k
      go_enter Try.func123, Try.ntmps123
      go_wp2_with fail
      refine (specNumYes x.n x.d x.t _ hx NX.out).mono ?_
      rintro e w1 ⟨rfl, hb⟩
      obtain ⟨hc, hf⟩ := bcell hb
      have W1 := Lib.hid hb
      have B1 := Lib.hid (below_then (below3 w _ _ _) hb)
      have G1 := Lib.hid (blk_below (g := w.heap.size + 2) hb (blk_new _ _ (by simp)))
      have hz : w.heap.size + 2 < w1.heap.size := by have := hb.size; simp at this; omega
      clear hb
      go_wp2_with fail
      refine (specNumNo y.n y.d y.t _ hy NY.out).mono ?_
      rintro e w2 ⟨rfl, hb⟩
      have W2 := Lib.hid (W1.out.trans (hb.mono W1.out.size))
      clear hc hf
      obtain ⟨hc2, hf2⟩ := bcell W2.out
      have B2 := Lib.hid (below_then B1.out hb)
      have G2 := Lib.hid (blk_below hb G1.out)
      have hz2 : w.heap.size + 2 < w2.heap.size := by have := hb.size; omega
      clear hb
      go_wp2
      rw [X.out]
      exact item_ret rfl rfl rfl G2.out ⟨rfl, below_three B2.out (by omega) _ _ _⟩
    · have hB : both x y = true := both_iff.2 ⟨h, k⟩
      have P := parts_in h k
      have NX := Lib.hid (show isN ⟨x.n, x.d, x.t⟩ = true from h)
      have NY := Lib.hid (show isN ⟨y.n, y.d, y.t⟩ = true from k)
      by_cases h0 : y.n = 0
      · have X := Lib.hid (rem_no0 (x := x) h0)
        have h0' : (y.n == 0) = true := by simp [h0]
        clear h k hB P h0
        go_enter Try.func123, Try.ntmps123
        go_wp2_with fail
        refine (specNumYes x.n x.d x.t _ hx NX.out).mono ?_
        rintro e w1 ⟨rfl, hb⟩
        obtain ⟨hc, hf⟩ := bcell hb
        have W1 := Lib.hid hb
        have B1 := Lib.hid (below_then (below3 w _ _ _) hb)
        have G1 := Lib.hid (blk_below (g := w.heap.size + 2) hb (blk_new _ _ (by simp)))
        have hz : w.heap.size + 2 < w1.heap.size := by have := hb.size; simp at this; omega
        clear hb
        go_wp2_with fail
        refine (specNumYes y.n y.d y.t _ hy NY.out).mono ?_
        rintro e w2 ⟨rfl, hb⟩
        have W2 := Lib.hid (W1.out.trans (hb.mono W1.out.size))
        clear hc hf
        obtain ⟨hc2, hf2⟩ := bcell W2.out
        have B2 := Lib.hid (below_then B1.out hb)
        have G2 := Lib.hid (blk_below hb G1.out)
        have hz2 : w.heap.size + 2 < w2.heap.size := by have := hb.size; omega
        clear hb
        go_wp2
        rw [X.out]
        exact item_ret rfl rfl rfl G2.out ⟨rfl, below_three B2.out (by omega) _ _ _⟩
      · have h0' : (y.n == 0) = false := by simp [h0]
        have dx := (isN_iff.1 h).2.1
        have C := Lib.hid (fun W => specParts x y W dx ⟨by omega, by omega⟩)
        obtain ⟨p, s, e1, e2, ⟨p0, p1⟩, s0, s1, q1, r1, r2, ⟨f0, f1⟩, ⟨g0, g1⟩⟩ := flip_facts hB h0
        rw [e1, e2] at C
        have XT := Lib.hid (remS_t x y)
        have c0 : 1 ≤ x.d * y.d := by omega
        have c1 : x.d * y.d ≤ 999999998000000001 := by omega
        have t0 : -1999999996000000002 ≤ s * p.fdiv s := by omega
        have t1 : s * p.fdiv s ≤ 1999999996000000002 := by omega
        by_cases c : y.n < 0
        · have X := Lib.hid (r1 c)
          clear h k hB P h0 e1 e2 q1 r1 r2
          go_enter Try.func123, Try.ntmps123
          go_wp2_with fail
          refine (specNumYes x.n x.d x.t _ hx NX.out).mono ?_
          rintro e w1 ⟨rfl, hb⟩
          obtain ⟨hc, hf⟩ := bcell hb
          have W1 := Lib.hid hb
          have B1 := Lib.hid (below_then (below3 w _ _ _) hb)
          have G1 := Lib.hid (blk_below (g := w.heap.size + 2) hb (blk_new _ _ (by simp)))
          have hz : w.heap.size + 2 < w1.heap.size := by have := hb.size; simp at this; omega
          clear hb
          go_wp2_with fail
          refine (specNumYes y.n y.d y.t _ hy NY.out).mono ?_
          rintro e w2 ⟨rfl, hb⟩
          have W2 := Lib.hid (W1.out.trans (hb.mono W1.out.size))
          clear hc hf
          obtain ⟨hc2, hf2⟩ := bcell W2.out
          have B2 := Lib.hid (below_then B1.out hb)
          have G2 := Lib.hid (blk_below hb G1.out)
          have hz2 : w.heap.size + 2 < w2.heap.size := by have := hb.size; omega
          clear hb
          go_wp2_with fail
          refine (C.out _).mono ?_
          rintro e w3 ⟨rfl, hb⟩
          have W3 := Lib.hid (W2.out.trans (hb.mono W2.out.size))
          clear hc2 hf2
          obtain ⟨hc3, hf3⟩ := bcell W3.out
          have B3 := Lib.hid (below_then B2.out hb)
          have G3 := Lib.hid (blk_below hb G2.out)
          have hz3 : w.heap.size + 2 < w3.heap.size := by have := hb.size; omega
          clear hb
          go_wp2_with fail
          refine (specFl p s _ (by omega) (by omega) s0 (by omega)).mono ?_
          rintro e w' ⟨rfl, rfl⟩
          go_wp2_with fail
          refine (specMake (-(p - s * p.fdiv s)) (x.d * y.d) _ ⟨by omega, by omega⟩ ⟨by omega, by omega⟩).mono ?_
          rintro e w4 ⟨rfl, hb⟩
          have W4 := Lib.hid (W3.out.trans (hb.mono W3.out.size))
          clear hc3 hf3
          obtain ⟨hc4, hf4⟩ := bcell W4.out
          have B4 := Lib.hid (below_then B3.out hb)
          have G4 := Lib.hid (blk_below hb G3.out)
          clear hb
          rw [X.out]
          go_wp2
          rw [XT.out]
          exact item_ret rfl rfl rfl G4.out ⟨rfl, below_three B4.out (by omega) _ _ _⟩
        · have X := Lib.hid (r2 c)
          clear h k hB P h0 e1 e2 q1 r1 r2
          go_enter Try.func123, Try.ntmps123
          go_wp2_with fail
          refine (specNumYes x.n x.d x.t _ hx NX.out).mono ?_
          rintro e w1 ⟨rfl, hb⟩
          obtain ⟨hc, hf⟩ := bcell hb
          have W1 := Lib.hid hb
          have B1 := Lib.hid (below_then (below3 w _ _ _) hb)
          have G1 := Lib.hid (blk_below (g := w.heap.size + 2) hb (blk_new _ _ (by simp)))
          have hz : w.heap.size + 2 < w1.heap.size := by have := hb.size; simp at this; omega
          clear hb
          go_wp2_with fail
          refine (specNumYes y.n y.d y.t _ hy NY.out).mono ?_
          rintro e w2 ⟨rfl, hb⟩
          have W2 := Lib.hid (W1.out.trans (hb.mono W1.out.size))
          clear hc hf
          obtain ⟨hc2, hf2⟩ := bcell W2.out
          have B2 := Lib.hid (below_then B1.out hb)
          have G2 := Lib.hid (blk_below hb G1.out)
          have hz2 : w.heap.size + 2 < w2.heap.size := by have := hb.size; omega
          clear hb
          go_wp2_with fail
          refine (C.out _).mono ?_
          rintro e w3 ⟨rfl, hb⟩
          have W3 := Lib.hid (W2.out.trans (hb.mono W2.out.size))
          clear hc2 hf2
          obtain ⟨hc3, hf3⟩ := bcell W3.out
          have B3 := Lib.hid (below_then B2.out hb)
          have G3 := Lib.hid (blk_below hb G2.out)
          have hz3 : w.heap.size + 2 < w3.heap.size := by have := hb.size; omega
          clear hb
          go_wp2_with fail
          refine (specFl p s _ (by omega) (by omega) s0 (by omega)).mono ?_
          rintro e w' ⟨rfl, rfl⟩
          go_wp2_with fail
          refine (specMake (p - s * p.fdiv s) (x.d * y.d) _ ⟨by omega, by omega⟩ ⟨by omega, by omega⟩).mono ?_
          rintro e w4 ⟨rfl, hb⟩
          have W4 := Lib.hid (W3.out.trans (hb.mono W3.out.size))
          clear hc3 hf3
          obtain ⟨hc4, hf4⟩ := bcell W4.out
          have B4 := Lib.hid (below_then B3.out hb)
          have G4 := Lib.hid (blk_below hb G3.out)
          clear hb
          rw [X.out]
          go_wp2
          rw [XT.out]
          exact item_ret rfl rfl rfl G4.out ⟨rfl, below_three B4.out (by omega) _ _ _⟩
end Go.Proofs.Ytlnjjjoeblopeaa

/- Chapter 6 of the reference: the elements that are taken, their sum, the answer. -/
namespace Go.Proofs.Ytlnjjjoeblopeaa
open Go.RowKit
set_option maxRecDepth 100000
set_option linter.unusedVariables false

theorem keep_drop {x : It} {drop : Bool} (hd : ¬ x.d = 0) : keepI drop x = true := by unfold keepI; simp [hd]
theorem keep_all (x : It) : keepI false x = true := rfl
theorem keep_none {x : It} (hd : x.d = 0) : keepI true x = false := by unfold keepI; simp [hd]
/-- What l6Take answers. -/
def TakenS (drop : Bool) (v : Vec) (w : World) (e : Ending) (w' : World) : Prop := ∃ sv, e = .returned (.tuple #[sv, .string (smyS nonNumB v)]) ∧ ItR w w' (smyL drop v) sv
theorem ItR.none {w w1 : World} (hb : Below w.heap.size w w1) : ItR w (w1.alloc (.cells #[] 66)) [] (.slice (some ⟨w1.heap.size, 0, none⟩) 0 0) :=
  ⟨⟨rfl, .inr ⟨w1.heap.size, 0, #[], rfl, hb.size, blk_new w1 _ rfl, Nat.le_refl _, Nat.zero_le _, rfl, rfl⟩⟩, hb.alloc hb.size _⟩
set_option maxHeartbeats 4000000 in
theorem specTake (d : Nat) (v : Vec) (val : Value) (drop : Bool) (lo hi : Nat) (w : World) (hv : VecAt lo hi w d v val) (hhi : hi ≤ w.heap.size) (hsm : Small d v) :
    Calls Try.prog 80 #[val, .bool drop] w (TakenS drop v w) := by
  have C1 := Lib.hid (fun (w1 : World) (hb : Below w.heap.size w w1) => specIsVector d v val lo hi w1 (hv.below hb hhi) (Nat.le_trans hhi hb.size) hsm)
  obtain ⟨VV, hVV⟩ : ∃ V, v = V := ⟨_, rfl⟩
  rw [hVV] at C1 ⊢
  obtain ⟨kk, items, parts, names, cls, levels, code, env⟩ := v
  obtain ⟨d', ai, ci, ap, cp, an, cn, ac, cc, al, cl, ed, rfl, hI, hN, hC, hL, hP⟩ := vecAt_open hv
  have li : items.length ≤ 1048576 := by subst ed; exact hsm.1
  have XC : Counts VV ↔ (kk ≤ 2 ∧ levels.length = 0) := by rw [← hVV]; exact Iff.rfl
  have XE := Lib.hid (show itemsV VV = items by rw [← hVV]; rfl)
  have AI := Lib.hid (fun (k : Nat) (w1 : World) (hk : k < items.length) (hb : Below w.heap.size w w1) => (hI.below hb hhi).at_ hk)
  clear hv hI hN hC hL hP hsm ed hVV
  go_enter Try.func80, Try.ntmps80
  go_wp2_with fail
  obtain ⟨w1, hw1⟩ : ∃ W, w.alloc (.cells #[.int .i64 kk, .slice ai items.length ci, .slice ap parts.length cp, .slice an names.length cn, .slice ac cls.length cc, .slice al levels.length cl, .int .i64 code, .int .i64 env] 31) = W := ⟨_, rfl⟩
  have B1 := Lib.hid (show Below w.heap.size w w1 from hw1 ▸ below1 w _)
  have KA := Lib.hid (show w1.heap[w.heap.size]? = some (.cells #[.int .i64 kk, .slice ai items.length ci, .slice ap parts.length cp, .slice an names.length cn, .slice ac cls.length cc, .slice al levels.length cl, .int .i64 code, .int .i64 env] 31 (0, 0)) from hw1 ▸ blk_new w _ rfl)
  rw [hw1]
  clear hw1
  with_reducible refine (C1.out _ B1.out).mono ?_
  rintro e w2 ⟨rfl, b⟩
  have B2 := Lib.hid (below_then B1.out b)
  have KA2 := Lib.hid (blk_below b KA.out)
  clear b
  obtain ⟨k0, k1, k2, k3, k4, k5, k6, k7⟩ := vec8 KA2.out
  by_cases q : ValidV VV
  · rw [bB_yes q]
    by_cases hc : Counts VV
    · have XX := Lib.hid (smy_yes q hc (fun _ => noI) drop nonNumB)
      have HC := XC.1 hc
      have CO := Lib.hid (fun W => specNumsY kk ai ap an ac al items.length ci parts.length cp names.length cn cls.length cc levels.length cl code env W HC.1 HC.2)
      clear q hc HC XC
      go_wp2_with fail
      with_reducible refine (CO.out _).mono ?_
      rintro e w3 ⟨rfl, b⟩
      have B3 := Lib.hid (below_then B2.out b)
      clear k0 k1 k2 k3 k4 k5 k6 k7
      clear b
      have TY := Lib.hid (fun k (hk : k < items.length) h => pickL_yes (drop := drop) hk h)
      have TS := Lib.hid (fun k (hk : k < items.length) h => pickL_skip (drop := drop) hk h)
      have TF := Lib.hid (show pickL drop (items.take items.length) = smyL drop VV by rw [List.take_length, XX.out.1, XE.out])
      have XS := Lib.hid XX.out.2.1
      have ST := Lib.hid (show ItR w (w3.alloc (.cells #[] 66)) (pickL drop (items.take 0)) (.slice (some ⟨w3.heap.size, 0, none⟩) 0 0) from by rw [pickL_zero]; exact ItR.none B3.out)
      obtain ⟨n, hn'⟩ : ∃ n, items.length = n := ⟨_, rfl⟩
      rw [hn'] at AI TY TS TF li ⊢
      clear hn'
      go_wp2
      go_loopw [8, 9] (fun v i wr => ∃ k : Nat, k ≤ n ∧ i = .int .i64 k ∧ ItR w wr (pickL drop (items.take k)) v) (fun _ i _ => n - (intOf i).toNat)
      case atStart => exact ⟨0, Nat.zero_le _, rfl, ST.out⟩
      case round =>
        obtain ⟨k, hk, rfl, hir⟩ := hrel
        have IR := Lib.hid hir
        clear hir
        by_cases hlt : k < n
        · obtain ⟨ba, off, rfl, hbB, c0, c1, c2⟩ := AI.out _ _ hlt IR.out.below
          have hbw : ba < wr.heap.size := Nat.lt_of_lt_of_le (Nat.lt_of_lt_of_le hbB hhi) IR.out.below.size
          have LN := Lib.hid (show (pickL drop (items.take k)).length ≤ 1048576 by have := pickL_kept drop items k; omega)
          obtain ⟨⟨xn, xd, xt⟩, hx⟩ : ∃ x : It, items.getD k noI = x := ⟨_, rfl⟩
          have ht : txtI items k = xt := by unfold txtI; rw [hx]
          rw [ht] at c2
          simp only [hx] at c0 c1
          by_cases hd : xd = 0
          · cases drop with
            | true =>
              have NX := Lib.hid (TS.out k hlt (by rw [hx]; exact keep_none hd))
              have IN := Lib.hid (NX.out ▸ IR.out)
              subst hd
              clear hx ht
              go_wp2
              go_roundw
              case rel => exact ⟨k + 1, by omega, by go_num, IN.out⟩
              case measure => simp [intOf]; omega
            | false =>
              have NX := Lib.hid (TY.out k hlt (keep_all _))
              rw [hx] at NX
              subst hd
              clear hx ht
              go_wp2_with (at_builtin; refine wpList_appIt rfl _ _ rfl ⟨xn, 0, xt⟩ (pickL false (items.take k)) _ _ rfl rfl (IR.out.keep (below1 wr _)) (blk_new wr _ rfl) LN.out ?_)
              intro v' w4 hir
              have IN := Lib.hid (NX.out ▸ hir)
              clear hir
              go_wp2
              go_roundw
              case rel => exact ⟨k + 1, by omega, by go_num, IN.out⟩
              case measure => simp [intOf]; omega
          · have NX := Lib.hid (TY.out k hlt (by rw [hx]; exact keep_drop hd))
            rw [hx] at NX
            clear hx ht
            go_wp2_with (at_builtin; go_loud (refine wpList_appIt rfl _ _ rfl ⟨xn, xd, xt⟩ (pickL drop (items.take k)) _ _ rfl rfl (IR.out.keep (below1 wr _)) (blk_new wr _ rfl) LN.out ?_))
            intro v' w4 hir
            have IN := Lib.hid (NX.out ▸ hir)
            clear hir
            go_wp2
            go_roundw
            case rel => exact ⟨k + 1, by omega, by go_num, IN.out⟩
            case measure => simp [intOf]; omega
        · obtain rfl : k = n := by omega
          have IN := Lib.hid (TF.out ▸ IR.out)
          go_wp2
          go_ret2
          exact ⟨_, by rw [XS.out]; rfl, IN.out⟩
    · have XX := Lib.hid (smy_non q hc (fun _ => noI) drop nonNumB)
      have CO := Lib.hid (fun W => specNumsN kk ai ap an ac al items.length ci parts.length cp names.length cn cls.length cc levels.length cl code env W (fun h => hc (XC.2 h)))
      clear q hc XC
      go_wp2_with fail
      with_reducible refine (CO.out _).mono ?_
      rintro e w3 ⟨⟨sa, c, rfl⟩, b⟩
      have B3 := Lib.hid (below_then B2.out b)
      clear k0 k1 k2 k3 k4 k5 k6 k7
      clear b
      go_wp2
      go_ret2
      exact ⟨_, by rw [XX.out.2.1]; rfl, by rw [XX.out.1]; exact ItR.none B3.out⟩
  · rw [bB_no q]
    have XX := Lib.hid (smy_bad q (fun _ => noI) drop nonNumB)
    clear q XC
    go_wp2
    go_ret2
    exact ⟨_, by rw [XX.out.2.1]; rfl, by rw [XX.out.1]; exact ItR.none B2.out⟩
set_option maxHeartbeats 2000000 in
theorem specSum6 (l : List It) (sa : Option Addr) (c lo hi : Nat) (w : World) (hI : ItemsAt lo hi w sa l) (hhi : hi ≤ w.heap.size) (hn : l.length ≤ 1048576) (ht : ∀ i, i < l.length → (l.getD i noI).t.size ≤ 9223372036854775807) :
    Calls Try.prog 82 #[.slice sa l.length c] w fun e w' => e = .returned (.agg #[.int .i64 (sumL l).n, .int .i64 (sumL l).d, .string (sumL l).t]) ∧ Below w.heap.size w w' := by
  have AI := Lib.hid (fun (k : Nat) (hk : k < l.length) => hI.at_ hk)
  have TI := Lib.hid ht
  have E0 := Lib.hid (show sumL (l.take 0) = ⟨0, 1, ⟨#[]⟩⟩ by rw [sumL_zero]; exact mkI_int (by decide) (by decide))
  have FS := Lib.hid (fun k (hk : k < l.length) => sumL_one hk)
  have FF := Lib.hid (sumL_full l)
  have GT := Lib.hid (fun k => (good_sumL (l.take k)).t0)
  obtain ⟨n, hn'⟩ : ∃ n, l.length = n := ⟨_, rfl⟩
  rw [hn'] at AI TI FS FF hn ⊢
  obtain ⟨Z, hZ⟩ : ∃ Z, sumL l = Z := ⟨_, rfl⟩
  rw [hZ] at FF ⊢
  obtain ⟨f, hf⟩ : ∃ f : Nat → It, (fun k => sumL (l.take k)) = f := ⟨_, rfl⟩
  have hfk : ∀ k, sumL (l.take k) = f k := fun k => by rw [← hf]
  rw [hfk] at E0 FF
  have FS := Lib.hid (fun k (hk : k < n) => (by rw [← hfk, ← hfk]; exact FS.out k hk : f (k + 1) = addI (f k) (l.getD k noI)))
  have GT := Lib.hid (fun k => (by rw [← hfk]; exact GT.out k : (f k).t.size ≤ 9223372036854775807))
  clear hn' hI ht hZ hf hfk
  go_enter Try.func82, Try.ntmps82
  go_wp2_with fail
  with_reducible refine (specNum2 0 _).mono ?_
  rintro e w1 ⟨rfl, b⟩
  have B1 := Lib.hid (below_then (below1 w _) b)
  have KZ1 := Lib.hid (blk_below b (blk_new w _ rfl))
  clear b
  have h01 : w.heap.size < w1.heap.size := (Array.getElem?_eq_some_iff.1 KZ1.out).1
  go_wp2
  obtain ⟨g, hg⟩ : ∃ g, w1.heap.size = g := ⟨_, rfl⟩
  have ST := Lib.hid (show Below w.heap.size w (w1.alloc (.cells #[.int .i64 (f 0).n, .int .i64 (f 0).d, .string (f 0).t] 66)) ∧ (w1.alloc (.cells #[.int .i64 (f 0).n, .int .i64 (f 0).d, .string (f 0).t] 66)).heap[w.heap.size]? = some (.cells #[.int .i64 0, .int .i64 0, .string ⟨#[]⟩] 66 (0, 0)) ∧ (w1.alloc (.cells #[.int .i64 (f 0).n, .int .i64 (f 0).d, .string (f 0).t] 66)).heap[g]? = some (.cells #[.int .i64 (f 0).n, .int .i64 (f 0).d, .string (f 0).t] 66 (0, 0)) from ⟨B1.out.alloc B1.out.size _, blk_old KZ1.out, blk_new w1 _ hg.symm⟩)
  rw [E0.out] at ST
  rw [hg] at h01 ⊢
  clear hg
  go_loopw [4] (fun i wr => ∃ k : Nat, k ≤ n ∧ i = .int .i64 k ∧ Below w.heap.size w wr ∧ wr.heap[w.heap.size]? = some (.cells #[.int .i64 0, .int .i64 0, .string ⟨#[]⟩] 66 (0, 0)) ∧ wr.heap[g]? = some (.cells #[.int .i64 (f k).n, .int .i64 (f k).d, .string (f k).t] 66 (0, 0))) (fun i _ => n - (intOf i).toNat)
  case atStart => exact ⟨0, Nat.zero_le _, rfl, by rw [E0.out]; exact ST.out⟩
  case round =>
    obtain ⟨k, hk, rfl, hb, hz, hf⟩ := hrel
    have BB := Lib.hid hb
    have KZ := Lib.hid hz
    have KF := Lib.hid hf
    clear hb hz hf
    have hgr := (Array.getElem?_eq_some_iff.1 KF.out).1
    have hwr : w.heap.size < wr.heap.size := by omega
    by_cases hlt : k < n
    · obtain ⟨ba, off, rfl, hbB, c0, c1, c2⟩ := AI.out _ hlt
      have hbw : ba < w.heap.size := Nat.lt_of_lt_of_le hbB hhi
      have CX2 := Lib.hid (show w.cell? ⟨ba, off + k * 3 + 2, none⟩ = some (.string (l.getD k noI).t) from c2)
      have CX0 := Lib.hid c0
      have CX1 := Lib.hid c1
      have CO := Lib.hid (fun W => specAdd (f k) (l.getD k noI) W (GT.out k) (TI.out k hlt))
      have NX := Lib.hid (FS.out k hlt)
      obtain ⟨x, hx⟩ : ∃ x, l.getD k noI = x := ⟨_, rfl⟩
      rw [hx] at CX0 CX1 CX2 CO NX
      clear hx c0 c1 c2
      go_upto_region 5 with (fail)
      have H := Lib.hid (show HeldC w wr ([(g, 66, #[.int .i64 ((f k).n), .int .i64 ((f k).d), .string (f k).t]), (w.heap.size, 66, #[.int .i64 0, .int .i64 0, .string ⟨#[]⟩])]) from heldC_cons (heldC_cons ⟨BB.out, (fun _ h => by cases h)⟩ KZ.out) KF.out)
      refine run_region (ops := (opsOf Try.f82 5)) (S := fun w' => HeldC w w' ([(g, 66, #[.int .i64 ((f k).n), .int .i64 ((f k).d), .string (f k).t]), (w.heap.size, 66, #[.int .i64 0, .int .i64 0, .string ⟨#[]⟩])])) [(0, true), (1, true), (2, true), (3, true), (4, true), (5, false), (6, false)] (by kernel_rfl) (by kernel_rfl) (by kernel_rfl) (by kernel_rfl) (by kernel_rfl) (fun _ _ _ _ _ h => h) (heldC_drew H.out) ?_
      have H := Lib.hid (heldC_drew H.out)
      refine runC_itm (b := g) (show opAt (opsOf Try.f82 5) 0 = some (some 12, .load 66 (.tmp 3), none) from by kernel_rfl) (by kernel_rfl) (by kernel_rfl) (by kernel_rfl) (List.Mem.head _) ?_
      refine run_mov (v := .slice (some ⟨ba, off, none⟩) n c) (show opAt (opsOf Try.f82 5) 1 = some (some 13, .move (.tmp 0), none) from by kernel_rfl) (by kernel_rfl) (by kernel_rfl) (by kernel_rfl) ?_
      refine run_mov (v := .int .i64 ((k : Int))) (show opAt (opsOf Try.f82 5) 2 = some (some 14, .move (.tmp 4), none) from by kernel_rfl) (by kernel_rfl) (by kernel_rfl) (by kernel_rfl) ?_
      refine run_idx3 (n := n) (c := c) (b := ba) (off := off) (k := k) (show opAt (opsOf Try.f82 5) 3 = some (some 15, .indexAddr 28 (.tmp 13) (.tmp 14), none) from by kernel_rfl) (by kernel_rfl) (by kernel_rfl) (by kernel_rfl) (by kernel_rfl) hlt ?_
      refine runC_oldI (b := ba) (j := off + k * 3) (z := x) (show opAt (opsOf Try.f82 5) 4 = some (some 16, .load 66 (.tmp 15), none) from by kernel_rfl) (by kernel_rfl) (by kernel_rfl) (by kernel_rfl) hbw CX0.out CX1.out CX2.out ?_
      refine run_call (args := [.agg #[.int .i64 ((f k).n), .int .i64 ((f k).d), .string (f k).t], .agg #[.int .i64 x.n, .int .i64 x.d, .string x.t]]) (show opAt (opsOf Try.f82 5) 5 = some (some 17, .call { callee := .value (.func 91), args := [(.tmp 12), (.tmp 16)].toArray, argTypes := [66, 66].toArray }, none) from by kernel_rfl) (by kernel_rfl) (by kernel_rfl) (by kernel_rfl) (by kernel_rfl) ?_
      refine (CO.out _).mono ?_
      rintro en rw1 ⟨rfl, hb⟩
      refine ⟨_, rfl, heldC_call H.out hb, ?_⟩
      have H := Lib.hid (heldC_call H.out hb)
      clear hb
      refine run_last (by kernel_rfl) (show opAt (opsOf Try.f82 5) 6 = some (none, .store 66 (.tmp 3) (.tmp 17), none) from by kernel_rfl) (by kernel_rfl) (by kernel_rfl) (by kernel_rfl) (store_item (u := .int .i64 (addI (f k) x).n) (v := .int .i64 (addI (f k) x).d) (q := .string (addI (f k) x).t) (heldC_at H.out (List.Mem.head _)) rfl rfl rfl) ?_
      refine run_done ?_
      simp only [putAll, Act.put, List.setIfInBounds_toArray, List.set_cons_zero, List.set_cons_succ]
      have HZ := Lib.hid (heldC_at H.out (List.Mem.tail _ (List.Mem.head _)))
      have HF := Lib.hid (heldC_at H.out (List.Mem.head _))
      have HB := Lib.hid H.out.1
      go_wp2
      go_roundw
      case rel => exact ⟨k + 1, by omega, by go_num, below_row HB.out (show w.heap.size ≤ g by omega) _, row_old HZ.out (by omega), by rw [NX.out]; exact row_set HF.out⟩
      case measure => simp [intOf]; omega
    · obtain rfl : k = n := by omega
      have KF := Lib.hid (FF.out ▸ KF.out)
      obtain ⟨⟨z0, z1, z2⟩, f0, f1, f2⟩ := three KZ.out
      obtain ⟨⟨y0, y1, y2⟩, _⟩ := three KF.out
      go_wp2
      exact item_ret rfl rfl rfl KZ.out ⟨rfl, below_three BB.out (by omega) _ _ _⟩
end Go.Proofs.Ytlnjjjoeblopeaa

/- An answer of one number, in the reference. -/
namespace Go.Proofs.Ytlnjjjoeblopeaa
open Go.RowKit
set_option maxRecDepth 100000
set_option linter.unusedVariables false

set_option maxHeartbeats 1000000 in
theorem specOne6 (z : It) (w : World) : Calls Try.prog 81 #[.agg #[.int .i64 z.n, .int .i64 z.d, .string z.t]] w (ResV 1 (vecOf 2 [z]) w) := by
  obtain ⟨w3, hw3⟩ : ∃ W, ((w.alloc (.cells #[.int .i64 z.n, .int .i64 z.d, .string z.t] 66)).alloc (.cells #[.int .i64 2, .slice (some ⟨w.heap.size + 1 + 1, 0, none⟩) 1 1, .slice none 0 0, .slice none 0 0, .slice none 0 0, .slice none 0 0, .int .i64 0, .int .i64 0] 31)).alloc (.cells #[.int .i64 z.n, .int .i64 z.d, .string z.t] 66) = W := ⟨_, rfl⟩
  have hsz1 : (w.alloc (.cells #[.int .i64 z.n, .int .i64 z.d, .string z.t] 66)).heap.size = w.heap.size + 1 := by simp
  have hsz2 : ((w.alloc (.cells #[.int .i64 z.n, .int .i64 z.d, .string z.t] 66)).alloc (.cells #[.int .i64 2, .slice (some ⟨w.heap.size + 1 + 1, 0, none⟩) 1 1, .slice none 0 0, .slice none 0 0, .slice none 0 0, .slice none 0 0, .int .i64 0, .int .i64 0] 31)).heap.size = w.heap.size + 1 + 1 := by simp
  have B3 := Lib.hid (show Below w.heap.size w w3 from hw3 ▸ below3 w _ _ _)
  have KR := Lib.hid (show w3.heap[w.heap.size + 1]? = some (.cells #[.int .i64 2, .slice (some ⟨w.heap.size + 1 + 1, 0, none⟩) 1 1, .slice none 0 0, .slice none 0 0, .slice none 0 0, .slice none 0 0, .int .i64 0, .int .i64 0] 31 (0, 0)) from by rw [← hw3]; exact blk_old (blk_new _ _ hsz1.symm))
  have KZ := Lib.hid (show w3.heap[w.heap.size + 1 + 1]? = some (.cells #[.int .i64 z.n, .int .i64 z.d, .string z.t] 66 (0, 0)) from by rw [← hw3]; exact blk_new _ _ hsz2.symm)
  have EW := Lib.hid hw3
  clear hsz1 hsz2 hw3
  go_enter Try.func81, Try.ntmps81
  go_wp2
  rw [EW.out]
  have hz3 := (Array.getElem?_eq_some_iff.1 KZ.out).1
  exact vec_ret0 rfl rfl rfl KR.out ⟨_, rfl, (own_one (k := 2) KZ.out).wide (by omega) (by omega), B3.out⟩
end Go.Proofs.Ytlnjjjoeblopeaa

/- The closure of LogicOf in the program. -/
namespace Go.Proofs.Ytlnjjjoeblopeaa
open Go.RowKit
set_option maxRecDepth 100000
set_option linter.unusedVariables false

theorem load_fn {w' : World} {p : Addr} {v : Value} (h : w'.cell? p = some v) : (Instr.loadAt 60 (.pointer (some p))).run Try.prog w' = .ok v w' := by
  simp [Instr.loadAt, go_sem, h]
theorem item_row_ret {fn : Func} {R : Ending → World → Prop} {act : Act} {w : World} {g : Nat} {p : Tmp} {a b c : Value} {t : TypeId} {fr : Nat × Nat}
    (hfn : fn.results = #[.cell p 66]) (hp : act.tmps.getD p undef = .pointer (some ⟨g, 0, none⟩)) (hd : act.defers = []) (hg : w.heap[g]? = some (.cells #[a, b, c] t fr))
    (hR : R (.returned (.agg #[a, b, c])) w) : bodyPost Try.prog fn R .ret act w :=
  bodyPost_ret (results_cell_row hfn _ _ g t #[a, b, c] fr _ hp hg Try.underlying66 rfl infoItem) hd hR
set_option maxHeartbeats 1000000 in
theorem implClo (fo : FuncId) (cn : Int → Int → Int) (x y : It) (g : Nat) (w : World) (hgo : callsGo Try.prog fo = true)
    (hc : ∀ W, Calls Try.prog fo (#[] ++ #[.int .i64 (truthI x), .int .i64 (truthI y)] ++ #[]) W fun e w' => e = .returned (.int .i64 (cn (truthI x) (truthI y))) ∧ Below W.heap.size W w') (h3 : L3 (cn (truthI x) (truthI y)))
    (hx : NumIt x) (hy : NumIt y) (hg : w.heap[g]? = some (.cells #[.func (.func fo) #[] #[]] 60 (0, 0))) :
    Calls Try.prog 58 #[.agg #[.int .i64 x.n, .int .i64 x.d, .string x.t], .agg #[.int .i64 y.n, .int .i64 y.d, .string y.t], .pointer (some ⟨g, 0, none⟩)] w fun e w' => e = .returned (.agg #[.int .i64 (logI (cn (truthI x) (truthI y))).n, .int .i64 (logI (cn (truthI x) (truthI y))).d, .string (logI (cn (truthI x) (truthI y))).t]) ∧ Below w.heap.size w w' := by
  have CX := Lib.hid (fun W => implTruth x W hx)
  have CY := Lib.hid (fun W => implTruth y W hy)
  have CF := Lib.hid hc
  have GO := Lib.hid hgo
  have CI := Lib.hid (fun W => implLogItem (cn (truthI x) (truthI y)) W h3)
  have KG0 := Lib.hid hg
  have hgw := (Array.getElem?_eq_some_iff.1 hg).1
  clear hc hgo hx hy hg h3
  go_enter Try.func58, Try.ntmps58
  go_upto_region 1 with (fail)
  obtain ⟨w1, hw1⟩ : ∃ W, ((w.alloc (.cells #[.int .i64 x.n, .int .i64 x.d, .string x.t] 66)).alloc (.cells #[.int .i64 y.n, .int .i64 y.d, .string y.t] 66)).alloc (.cells #[.int .i64 0, .int .i64 0, .string ⟨#[]⟩] 66) = W := ⟨_, rfl⟩
  have hsz1 : (w.alloc (.cells #[.int .i64 x.n, .int .i64 x.d, .string x.t] 66)).heap.size = w.heap.size + 1 := by simp
  have hsz2 : ((w.alloc (.cells #[.int .i64 x.n, .int .i64 x.d, .string x.t] 66)).alloc (.cells #[.int .i64 y.n, .int .i64 y.d, .string y.t] 66)).heap.size = w.heap.size + 1 + 1 := by simp
  have B1 := Lib.hid (show Below w.heap.size w w1 from hw1 ▸ (below2 w _ _).alloc (by simp; omega) _)
  have K0 := Lib.hid (show w1.heap[w.heap.size]? = some (.cells #[.int .i64 x.n, .int .i64 x.d, .string x.t] 66 (0, 0)) from hw1 ▸ blk_old (blk_old (blk_new w _ rfl)))
  have K1 := Lib.hid (show w1.heap[w.heap.size + 1]? = some (.cells #[.int .i64 y.n, .int .i64 y.d, .string y.t] 66 (0, 0)) from hw1 ▸ blk_old (hsz1 ▸ blk_new (w.alloc (.cells #[.int .i64 x.n, .int .i64 x.d, .string x.t] 66)) (.cells #[.int .i64 y.n, .int .i64 y.d, .string y.t] 66) rfl))
  have K2 := Lib.hid (show w1.heap[w.heap.size + 1 + 1]? = some (.cells #[.int .i64 0, .int .i64 0, .string ⟨#[]⟩] 66 (0, 0)) from hw1 ▸ hsz2 ▸ blk_new ((w.alloc (.cells #[.int .i64 x.n, .int .i64 x.d, .string x.t] 66)).alloc (.cells #[.int .i64 y.n, .int .i64 y.d, .string y.t] 66)) (.cells #[.int .i64 0, .int .i64 0, .string ⟨#[]⟩] 66) rfl)
  rw [hw1]
  clear hw1 hsz1 hsz2
  have H := Lib.hid (show HeldC w w1 ([(g, 60, #[.func (.func fo) #[] #[]]), (w.heap.size, 66, #[.int .i64 x.n, .int .i64 x.d, .string x.t]), ((w.heap.size + 1), 66, #[.int .i64 y.n, .int .i64 y.d, .string y.t]), ((w.heap.size + 1 + 1), 66, #[.int .i64 0, .int .i64 0, .string ⟨#[]⟩])]) from heldC_cons (heldC_cons (heldC_cons (heldC_cons ⟨B1.out, (fun _ h => by cases h)⟩ K2.out) K1.out) K0.out) ((B1.out.block g hgw).trans KG0.out))
  refine run_region (ops := (opsOf Try.f58 1)) (S := fun w' => HeldC w w' ([(g, 60, #[.func (.func fo) #[] #[]]), (w.heap.size, 66, #[.int .i64 x.n, .int .i64 x.d, .string x.t]), ((w.heap.size + 1), 66, #[.int .i64 y.n, .int .i64 y.d, .string y.t]), ((w.heap.size + 1 + 1), 66, #[.int .i64 0, .int .i64 0, .string ⟨#[]⟩])])) [(0, true), (1, true), (3, true), (2, false), (4, false), (5, false), (6, false), (7, false)] (by kernel_rfl) (by kernel_rfl) (by kernel_rfl) (by kernel_rfl) (by kernel_rfl) (fun _ _ _ _ _ h => h) (heldC_drew H.out) ?_
  have H := Lib.hid (heldC_drew H.out)
  refine runC_cell (b := g) (j := 0) (v := .func (.func fo) #[] #[]) load_fn (show opAt (opsOf Try.f58 1) 0 = some (some 6, .load 60 (.tmp 2), none) from by kernel_rfl) (by kernel_rfl) (by kernel_rfl) (by kernel_rfl) (List.Mem.head _) rfl ?_
  refine runC_itm (b := w.heap.size) (show opAt (opsOf Try.f58 1) 1 = some (some 7, .load 66 (.tmp 3), none) from by kernel_rfl) (by kernel_rfl) (by kernel_rfl) (by kernel_rfl) (List.Mem.tail _ (List.Mem.head _)) ?_
  refine runC_itm (b := (w.heap.size + 1)) (show opAt (opsOf Try.f58 1) 3 = some (some 9, .load 66 (.tmp 4), none) from by kernel_rfl) (by kernel_rfl) (by kernel_rfl) (by kernel_rfl) (List.Mem.tail _ (List.Mem.tail _ (List.Mem.head _))) ?_
  refine run_call (args := [.agg #[.int .i64 x.n, .int .i64 x.d, .string x.t]]) (show opAt (opsOf Try.f58 1) 2 = some (some 8, .call { callee := .value (.func 60), args := [(.tmp 7)].toArray, argTypes := [66].toArray }, none) from by kernel_rfl) (by kernel_rfl) (by kernel_rfl) (by kernel_rfl) (by kernel_rfl) ?_
  refine (CX.out _).mono ?_
  rintro en rw1 ⟨rfl, hb⟩
  refine ⟨_, rfl, heldC_call H.out hb, ?_⟩
  have H := Lib.hid (heldC_call H.out hb)
  clear hb
  refine run_call (args := [.agg #[.int .i64 y.n, .int .i64 y.d, .string y.t]]) (show opAt (opsOf Try.f58 1) 4 = some (some 10, .call { callee := .value (.func 60), args := [(.tmp 9)].toArray, argTypes := [66].toArray }, none) from by kernel_rfl) (by kernel_rfl) (by kernel_rfl) (by kernel_rfl) (by kernel_rfl) ?_
  refine (CY.out _).mono ?_
  rintro en rw2 ⟨rfl, hb⟩
  refine ⟨_, rfl, heldC_call H.out hb, ?_⟩
  have H := Lib.hid (heldC_call H.out hb)
  clear hb
  refine run_callv (f := fo) (first := #[]) (cap := #[]) (args := [.int .i64 ((truthI x)), .int .i64 ((truthI y))]) (show opAt (opsOf Try.f58 1) 5 = some (some 11, .call { callee := .value (.tmp 6), args := [(.tmp 8), (.tmp 10)].toArray, argTypes := [68, 68].toArray }, none) from by kernel_rfl) (by kernel_rfl) (by kernel_rfl) (by kernel_rfl) GO.out (by kernel_rfl) ?_
  refine (CF.out _).mono ?_
  rintro en rw3 ⟨rfl, hb⟩
  refine ⟨_, rfl, heldC_call H.out hb, ?_⟩
  have H := Lib.hid (heldC_call H.out hb)
  clear hb
  refine run_call (args := [.int .i64 ((cn (truthI x) (truthI y)))]) (show opAt (opsOf Try.f58 1) 6 = some (some 12, .call { callee := .value (.func 59), args := [(.tmp 11)].toArray, argTypes := [68].toArray }, none) from by kernel_rfl) (by kernel_rfl) (by kernel_rfl) (by kernel_rfl) (by kernel_rfl) ?_
  refine (CI.out _).mono ?_
  rintro en rw4 ⟨rfl, hb⟩
  refine ⟨_, rfl, heldC_call H.out hb, ?_⟩
  have H := Lib.hid (heldC_call H.out hb)
  clear hb
  refine run_last (by kernel_rfl) (show opAt (opsOf Try.f58 1) 7 = some (none, .store 66 (.tmp 5) (.tmp 12), none) from by kernel_rfl) (by kernel_rfl) (by kernel_rfl) (by kernel_rfl) (store_item (u := .int .i64 (logI (cn (truthI x) (truthI y))).n) (v := .int .i64 (logI (cn (truthI x) (truthI y))).d) (q := .string (logI (cn (truthI x) (truthI y))).t) (heldC_at H.out (List.Mem.tail _ (List.Mem.tail _ (List.Mem.tail _ (List.Mem.head _))))) rfl rfl rfl) ?_
  refine run_done ?_
  simp only [putAll, Act.put, List.setIfInBounds_toArray, List.set_cons_zero, List.set_cons_succ]
  have KZ := Lib.hid (heldC_at H.out (List.Mem.tail _ (List.Mem.tail _ (List.Mem.tail _ (List.Mem.head _)))))
  go_wp2
  exact item_row_ret rfl rfl rfl (row_set KZ.out) ⟨rfl, below_row H.out.1 (show w.heap.size ≤ w.heap.size + 1 + 1 by omega) _⟩
end Go.Proofs.Ytlnjjjoeblopeaa

/- Chapter 6 in the program: what a summary is made of, folds. -/
namespace Go.Proofs.Ytlnjjjoeblopeaa
open Go.RowKit
set_option maxRecDepth 100000
set_option linter.unusedVariables false

theorem keep_no {x : It} (h : NumIt x) (hd : x.d = 0) : keepI true x = false := by unfold keepI; simp [hd]
theorem keep_yes {x : It} (hd : ¬ x.d = 0) : keepI true x = true := by unfold keepI; simp [hd]
set_option maxHeartbeats 2000000 in
theorem implKnown (l : List It) (sa : Option Addr) (c lo hi : Nat) (w : World) (hI : ItemsAt lo hi w sa l) (hhi : hi ≤ w.heap.size) (hn : l.length ≤ 1048576) (hx : ∀ i, i < l.length → NumIt (l.getD i noI)) :
    Calls Try.prog 138 #[.slice sa l.length c] w fun e w' => ∃ v, e = .returned v ∧ ItR w w' (pickL true l) v := by
  have AI := Lib.hid (fun (k : Nat) (w1 : World) (hk : k < l.length) (hb : Below w.heap.size w w1) => (hI.below hb hhi).at_ hk)
  have XI := Lib.hid hx
  have TY := Lib.hid (fun k (hk : k < l.length) h => pickL_yes (drop := true) hk h)
  have TS := Lib.hid (fun k (hk : k < l.length) h => pickL_skip (drop := true) hk h)
  have TF := Lib.hid (show pickL true (l.take l.length) = pickL true l by rw [List.take_length])
  obtain ⟨n, hn'⟩ : ∃ n, l.length = n := ⟨_, rfl⟩
  rw [hn'] at AI XI TY TS TF hn ⊢
  have ST := Lib.hid (show ItR w w (pickL true (l.take 0)) (.slice none 0 0) from by rw [pickL_zero]; exact ⟨⟨rfl, .inl ⟨rfl, rfl⟩⟩, Below.refl _ _⟩)
  clear hn' hI hx
  go_enter Try.func138, Try.ntmps138
  go_wp2
  go_loopw [3, 8] (fun v i wr => ∃ k : Nat, k ≤ n ∧ i = .int .i64 k ∧ ItR w wr (pickL true (l.take k)) v) (fun _ i _ => n - (intOf i).toNat)
  case atStart => exact ⟨0, Nat.zero_le _, rfl, ST.out⟩
  case round =>
    obtain ⟨k, hk, rfl, hir⟩ := hrel
    have IR := Lib.hid hir
    clear hir
    by_cases hlt : k < n
    · obtain ⟨ba, off, rfl, hbB, c0, c1, c2⟩ := AI.out _ _ hlt IR.out.below
      have hbw : ba < wr.heap.size := Nat.lt_of_lt_of_le (Nat.lt_of_lt_of_le hbB hhi) IR.out.below.size
      have hxn := XI.out k hlt
      have hxt : txtI l k = ⟨#[]⟩ := hxn.t
      rw [hxt] at c2
      obtain ⟨⟨xn, xd, xt⟩, hx⟩ : ∃ x : It, l.getD k noI = x := ⟨_, rfl⟩
      rw [hx] at hxn
      obtain rfl : xt = ⟨#[]⟩ := hxn.t
      simp only [hx] at c0 c1
      by_cases hd : xd = 0
      · have NX := Lib.hid (TS.out k hlt (by rw [hx]; exact keep_no hxn hd))
        obtain ⟨rfl, rfl⟩ : xn = 0 ∧ xd = 0 := by have := hxn.z hd; exact ⟨congrArg It.n this, hd⟩
        have IN := Lib.hid (NX.out ▸ IR.out.keep (below1 wr (.cells #[.int .i64 0, .int .i64 0, .string ⟨#[]⟩] 66)))
        clear hx hd hxn hxt
        go_wp2
        go_roundw
        case rel => exact ⟨k + 1, by omega, by go_num, IN.out⟩
        case measure => simp [intOf]; omega
      · have NX := Lib.hid (TY.out k hlt (by rw [hx]; exact keep_yes hd))
        have hdb : (xd == 0) = false := beq_eq_false_iff_ne.2 hd
        have LN := Lib.hid (show (pickL true (l.take k)).length ≤ 1048576 by have := pickL_kept true l k; omega)
        rw [hx] at NX
        obtain ⟨w2, hw2⟩ : ∃ W, wr.alloc (.cells #[.int .i64 xn, .int .i64 xd, .string ⟨#[]⟩] 66) = W := ⟨_, rfl⟩
        have IR2 := Lib.hid (show ItR w w2 (pickL true (l.take k)) _ from hw2 ▸ IR.out.keep (below1 wr (.cells #[.int .i64 xn, .int .i64 xd, .string ⟨#[]⟩] 66)))
        have ES := Lib.hid (show wr.heap.size + 1 = w2.heap.size from hw2 ▸ (by simp))
        have EW := Lib.hid hw2
        clear hx hd hxn hxt hw2
        go_wp2_with (at_builtin; go_loud (rw [EW.out]; refine wpList_appIt rfl _ _ rfl ⟨xn, xd, ⟨#[]⟩⟩ (pickL true (l.take k)) _ _ rfl rfl (IR2.out.keep (below1 w2 _)) (blk_new w2 _ ES.out) LN.out ?_))
        intro v' w3 hir
        have IN := Lib.hid (NX.out ▸ hir)
        clear hir
        go_wp2
        go_roundw
        case rel => exact ⟨k + 1, by omega, by go_num, IN.out⟩
        case measure => simp [intOf]; omega
    · obtain rfl : k = n := by omega
      have IN := Lib.hid (TF.out ▸ IR.out)
      go_wp2
      go_ret
      exact ⟨_, rfl, IN.out⟩
/-- The elements of which a summary is made, as summarizedItems answers them. -/
def TakenI (drop : Bool) (u : ByteArray) (v : Vec) (w : World) (e : Ending) (w' : World) : Prop :=
  ∃ (sa : Option Addr) (n c : Nat), e = .returned (.tuple #[.slice sa n c, .string (smyS u v)]) ∧ n = (smyL drop v).length ∧ ItemsAt 0 w'.heap.size w' sa (smyL drop v) ∧ Below w.heap.size w w'
theorem items_nil (lo hi : Nat) (w : World) (a : Option Addr) : ItemsAt lo hi w a [] := fun i x h => by cases h
theorem ItR.items {w wr : World} {l : List It} {v : Value} (h : ItR w wr l v) : ∃ sa c, v = .slice sa l.length c ∧ ItemsAt w.heap.size wr.heap.size wr sa l := by
  obtain ⟨a, c, Fi, rfl, ho, hn, hr, hc⟩ := own_of_its h.row
  exact ⟨a, c, rfl, ho.at_ (fun b hb => hr b hb)⟩
set_option maxHeartbeats 2000000 in
theorem implTaken (d : Nat) (v : Vec) (val : Value) (drop : Bool) (u : ByteArray) (hu : ¬ u = ⟨#[]⟩) (lo hi : Nat) (w : World) (hv : VecAt lo hi w d v val) (hhi : hi ≤ w.heap.size) (hsm : Small d v) :
    Calls Try.prog 93 #[val, .bool drop, .string u] w (TakenI drop u v w) := by
  have CP := Lib.hid (fun (w1 : World) (hb : Below w.heap.size w w1) => implPrb1 d v val u lo hi w1 (hv.below hb hhi) (Nat.le_trans hhi hb.size) hsm)
  obtain ⟨VV, hVV⟩ : ∃ V, v = V := ⟨_, rfl⟩
  rw [hVV] at CP ⊢
  obtain ⟨kk, items, parts, names, cls, levels, code, env⟩ := v
  obtain ⟨d', ai, ci, ap, cp, an, cn, ac, cc, al, cl, ed, rfl, hI, hN, hC, hL, hP⟩ := vecAt_open hv
  have li : items.length ≤ 1048576 := by subst ed; exact hsm.1
  have XN := Lib.hid (fun (h : ValidV VV) (hc : Counts VV) (i : Nat) (hi : i < items.length) => (by rw [← hVV] at h hc; exact num_at h hc hi : NumIt (items.getD i noI)))
  have XE := Lib.hid (show itemsV VV = items by rw [← hVV]; rfl)
  have AT := Lib.hid (fun (w1 : World) (hb : Below w.heap.size w w1) => hI.below hb hhi)
  clear hv hI hN hC hL hP hsm ed hVV
  go_enter Try.func93, Try.ntmps93
  go_wp2_with fail
  obtain ⟨w1, hw1⟩ : ∃ W, w.alloc (.cells #[.int .i64 kk, .slice ai items.length ci, .slice ap parts.length cp, .slice an names.length cn, .slice ac cls.length cc, .slice al levels.length cl, .int .i64 code, .int .i64 env] 31) = W := ⟨_, rfl⟩
  have B1 := Lib.hid (show Below w.heap.size w w1 from hw1 ▸ below1 w _)
  have KA := Lib.hid (show w1.heap[w.heap.size]? = some (.cells #[.int .i64 kk, .slice ai items.length ci, .slice ap parts.length cp, .slice an names.length cn, .slice ac cls.length cc, .slice al levels.length cl, .int .i64 code, .int .i64 env] 31 (0, 0)) from hw1 ▸ blk_new w _ rfl)
  rw [hw1]
  clear hw1
  with_reducible refine (CP.out _ B1.out).mono ?_
  rintro e w2 ⟨rfl, b⟩
  have B2 := Lib.hid (below_then B1.out b)
  have KA2 := Lib.hid (blk_below b KA.out)
  clear b
  obtain ⟨k0, k1, k2, k3, k4, k5, k6, k7⟩ := vec8 KA2.out
  by_cases hs : smyS u VV = ⟨#[]⟩
  · have HV : ValidV VV ∧ Counts VV := by
      by_cases q : ValidV VV
      · by_cases hc : Counts VV
        · exact ⟨q, hc⟩
        · rw [(smy_non q hc (fun _ => noI) drop u).2.1] at hs; exact absurd hs hu
      · rw [(smy_bad q (fun _ => noI) drop u).2.1] at hs; exact absurd hs (by decide)
    have XL := Lib.hid (show smyL drop VV = pickL drop items by rw [(smy_yes HV.1 HV.2 (fun _ => noI) drop u).1, XE.out])
    have XI := Lib.hid (XN.out HV.1 HV.2)
    have XS := Lib.hid hs
    rw [hs]
    clear HV hs XN
    cases drop with
    | true =>
      have CK := Lib.hid (fun (w1 : World) (hb : Below w.heap.size w w1) => implKnown items ai ci lo hi w1 (AT.out w1 hb) (Nat.le_trans hhi hb.size) li XI.out)
      go_wp2_with fail
      with_reducible refine (CK.out _ B2.out).mono ?_
      rintro e w3 ⟨v, rfl, hir⟩
      obtain ⟨sa, c, rfl, hit⟩ := hir.items
      have B3 := Lib.hid (below_then B2.out hir.below)
      have IT := Lib.hid hit
      clear hir hit
      go_wp2
      go_ret2
      exact ⟨sa, _, c, by rw [XS.out]; rfl, by rw [XL.out], by rw [XL.out]; exact IT.out.wide (Nat.zero_le _) (Nat.le_refl _), B3.out⟩
    | false =>
      have IT := Lib.hid (AT.out w2 B2.out)
      rw [pickL_no] at XL
      have B2s := B2.out.size
      go_wp2
      go_ret2
      exact ⟨ai, _, ci, by rw [XS.out]; rfl, by rw [XL.out], by rw [XL.out]; exact IT.out.wide (Nat.zero_le _) (by omega), B2.out⟩
  · have XL := Lib.hid (show smyL drop VV = [] by
      by_cases q : ValidV VV
      · by_cases hc : Counts VV
        · exact absurd (smy_yes q hc (fun _ => noI) drop u).2.1 hs
        · exact (smy_non q hc (fun _ => noI) drop u).1
      · exact (smy_bad q (fun _ => noI) drop u).1)
    obtain ⟨R, hR⟩ : ∃ R, smyS u VV = R := ⟨_, rfl⟩
    have XS := Lib.hid hR
    rw [hR] at hs ⊢
    have hRb : (R.toList == []) = false := by have h := str_not hs; rw [ByteArray.toList_eq ⟨#[]⟩] at h; exact h
    clear hs hR
    go_wp2
    go_ret2
    exact ⟨none, 0, 0, by rw [XS.out]; rfl, by rw [XL.out]; rfl, by rw [XL.out]; exact items_nil _ _ _ _, B2.out⟩
set_option maxHeartbeats 2000000 in
/-- A fold of items, for any function's value. -/
theorem implFold (fid : FuncId) (cap : Array Value) (G : It → It → It) (P : It → Prop) (l : List It) (s : It) (sa : Option Addr) (c lo hi : Nat) (w : World) (hI : ItemsAt lo hi w sa l) (hhi : hi ≤ w.heap.size) (hn : l.length ≤ 1048576) (hgo : callsGo Try.prog fid = true)
    (hG : ∀ x i W, P x → i < l.length → Below w.heap.size w W → Calls Try.prog fid (#[] ++ #[.agg #[.int .i64 x.n, .int .i64 x.d, .string x.t], .agg #[.int .i64 (l.getD i noI).n, .int .i64 (l.getD i noI).d, .string (l.getD i noI).t]] ++ cap) W fun e w' => e = .returned (.agg #[.int .i64 (G x (l.getD i noI)).n, .int .i64 (G x (l.getD i noI)).d, .string (G x (l.getD i noI)).t]) ∧ Below W.heap.size W w')
    (hs : P s) (hP : ∀ x i, P x → i < l.length → P (G x (l.getD i noI))) :
    Calls Try.prog 132 #[.slice sa l.length c, .agg #[.int .i64 s.n, .int .i64 s.d, .string s.t], .func (.func fid) #[] cap] w fun e w' => e = .returned (.agg #[.int .i64 (l.foldl G s).n, .int .i64 (l.foldl G s).d, .string (l.foldl G s).t]) ∧ Below w.heap.size w w' := by
  have AI := Lib.hid (fun (k : Nat) (w1 : World) (hk : k < l.length) (hb : Below w.heap.size w w1) => (hI.below hb hhi).at_ hk)
  have CG := Lib.hid hG
  have PG := Lib.hid hP
  have F0 := Lib.hid (show P ((l.take 0).foldl G s) by rw [fold_zero]; exact hs)
  have E0 := Lib.hid (fold_zero G s l)
  have FS := Lib.hid (fun k (hk : k < l.length) => fold_one G s hk)
  have FF := Lib.hid (fold_full G s l)
  have GO := Lib.hid hgo
  obtain ⟨n, hn'⟩ : ∃ n, l.length = n := ⟨_, rfl⟩
  rw [hn'] at AI CG PG FS FF hn ⊢
  obtain ⟨Z, hZ⟩ : ∃ Z, l.foldl G s = Z := ⟨_, rfl⟩
  rw [hZ] at FF ⊢
  obtain ⟨f, hf⟩ : ∃ f : Nat → It, (fun k => (l.take k).foldl G s) = f := ⟨_, rfl⟩
  have hfk : ∀ k, (l.take k).foldl G s = f k := fun k => by rw [← hf]
  rw [hfk] at F0 E0 FF
  have FS := Lib.hid (fun k (hk : k < n) => (by rw [← hfk, ← hfk]; exact FS.out k hk : f (k + 1) = G (f k) (l.getD k noI)))
  clear hn' hI hG hP hs hgo hZ hf hfk
  go_enter Try.func132, Try.ntmps132
  go_wp2
  go_loopw [13] (fun i wr => ∃ k : Nat, k ≤ n ∧ i = .int .i64 k ∧ P (f k) ∧ Below w.heap.size w wr ∧ wr.heap[w.heap.size + 1]? = some (.cells #[.int .i64 0, .int .i64 0, .string ⟨#[]⟩] 66 (0, 0)) ∧ wr.heap[w.heap.size + 1 + 1]? = some (.cells #[.int .i64 (f k).n, .int .i64 (f k).d, .string (f k).t] 66 (0, 0))) (fun i _ => n - (intOf i).toNat)
  case atStart =>
    refine ⟨0, Nat.zero_le _, rfl, F0.out, below3 w _ _ _, ?_, ?_⟩
    · exact blk_old (blk_new _ _ (by simp))
    · rw [E0.out]; exact blk_new _ _ (by simp)
  case round =>
    obtain ⟨k, hk, rfl, hp, hb, hz, hf⟩ := hrel
    have BB := Lib.hid hb
    have PK := Lib.hid hp
    have KZ := Lib.hid hz
    have KF := Lib.hid hf
    clear hb hp hz hf
    by_cases hlt : k < n
    · obtain ⟨ba, off, rfl, hbB, c0, c1, c2'⟩ := AI.out _ _ hlt BB.out
      have hbw : ba < wr.heap.size := Nat.lt_of_lt_of_le (Nat.lt_of_lt_of_le hbB hhi) BB.out.size
      have c2 : wr.cell? ⟨ba, off + k * 3 + 2, none⟩ = some (.string (l.getD k noI).t) := c2'
      clear c2'
      have CO := Lib.hid (fun W hB => CG.out (f k) k W PK.out hlt hB)
      have PN := Lib.hid (by rw [FS.out k hlt]; exact PG.out (f k) k PK.out hlt : P (f (k + 1)))
      have NX := Lib.hid (FS.out k hlt)
      obtain ⟨x, hx⟩ : ∃ x, l.getD k noI = x := ⟨_, rfl⟩
      rw [hx] at c0 c1 c2 CO NX
      clear hx
      have hzr := (Array.getElem?_eq_some_iff.1 KF.out).1
      go_upto_region 5 with (fail)
      obtain ⟨w5, hw5⟩ : ∃ W, wr.alloc (.cells #[.int .i64 x.n, .int .i64 x.d, .string x.t] 66) = W := ⟨_, rfl⟩
      have B5 := Lib.hid (show Below w.heap.size w w5 from hw5 ▸ BB.out.alloc BB.out.size _)
      have KX := Lib.hid (show w5.heap[wr.heap.size]? = some (.cells #[.int .i64 x.n, .int .i64 x.d, .string x.t] 66 (0, 0)) from hw5 ▸ blk_new wr _ rfl)
      have KZ := Lib.hid (show w5.heap[w.heap.size + 1]? = some (.cells #[.int .i64 0, .int .i64 0, .string ⟨#[]⟩] 66 (0, 0)) from hw5 ▸ blk_old KZ.out)
      have KF := Lib.hid (show w5.heap[w.heap.size + 1 + 1]? = some (.cells #[.int .i64 (f k).n, .int .i64 (f k).d, .string (f k).t] 66 (0, 0)) from hw5 ▸ blk_old KF.out)
      rw [hw5]
      clear hw5
      obtain ⟨gx, hgx⟩ : ∃ g, wr.heap.size = g := ⟨_, rfl⟩
      rw [hgx] at KX hzr ⊢
      clear hgx
      have H := Lib.hid (show HeldC w w5 ([(gx, 66, #[.int .i64 x.n, .int .i64 x.d, .string x.t]), ((w.heap.size + 1 + 1), 66, #[.int .i64 ((f k).n), .int .i64 ((f k).d), .string (f k).t]), ((w.heap.size + 1), 66, #[.int .i64 0, .int .i64 0, .string ⟨#[]⟩])]) from heldC_cons (heldC_cons (heldC_cons ⟨B5.out, (fun _ h => by cases h)⟩ KZ.out) KF.out) KX.out)
      refine run_region_seq (ops := (opsOf Try.f132 5)) (S := fun w' => HeldC w w' ([(gx, 66, #[.int .i64 x.n, .int .i64 x.d, .string x.t]), ((w.heap.size + 1 + 1), 66, #[.int .i64 ((f k).n), .int .i64 ((f k).d), .string (f k).t]), ((w.heap.size + 1), 66, #[.int .i64 0, .int .i64 0, .string ⟨#[]⟩])])) [(0, true), (1, true), (2, true), (3, false), (4, false)] (by kernel_rfl) (by kernel_rfl) (by kernel_rfl) H.out ?_
      refine run_mov (v := .func (.func fid) #[] cap) (show opAt (opsOf Try.f132 5) 0 = some (some 17, .move (.tmp 2), none) from by kernel_rfl) (by kernel_rfl) (by kernel_rfl) (by kernel_rfl) ?_
      refine runC_itm (b := (w.heap.size + 1 + 1)) (show opAt (opsOf Try.f132 5) 1 = some (some 18, .load 66 (.tmp 7), none) from by kernel_rfl) (by kernel_rfl) (by kernel_rfl) (by kernel_rfl) (List.Mem.tail _ (List.Mem.head _)) ?_
      refine runC_itm (b := gx) (show opAt (opsOf Try.f132 5) 2 = some (some 19, .load 66 (.tmp 9), none) from by kernel_rfl) (by kernel_rfl) (by kernel_rfl) (by kernel_rfl) (List.Mem.head _) ?_
      refine run_callv (f := fid) (first := #[]) (cap := cap) (args := [.agg #[.int .i64 ((f k).n), .int .i64 ((f k).d), .string (f k).t], .agg #[.int .i64 x.n, .int .i64 x.d, .string x.t]]) (show opAt (opsOf Try.f132 5) 3 = some (some 20, .call { callee := .value (.tmp 17), args := [(.tmp 18), (.tmp 19)].toArray, argTypes := [66, 66].toArray }, none) from by kernel_rfl) (by kernel_rfl) (by kernel_rfl) (by kernel_rfl) GO.out (by kernel_rfl) ?_
      refine (CO.out _ H.out.1).mono ?_
      rintro en rw1 ⟨rfl, hb⟩
      refine ⟨_, rfl, heldC_call H.out hb, ?_⟩
      have H := Lib.hid (heldC_call H.out hb)
      clear hb
      refine run_last (by kernel_rfl) (show opAt (opsOf Try.f132 5) 4 = some (none, .store 66 (.tmp 7) (.tmp 20), none) from by kernel_rfl) (by kernel_rfl) (by kernel_rfl) (by kernel_rfl) (store_item (u := .int .i64 (G (f k) x).n) (v := .int .i64 (G (f k) x).d) (q := .string (G (f k) x).t) (heldC_at H.out (List.Mem.tail _ (List.Mem.head _))) rfl rfl rfl) ?_
      refine run_done ?_
      simp only [putAll, Act.put, List.setIfInBounds_toArray, List.set_cons_zero, List.set_cons_succ]
      have HZ := Lib.hid (heldC_at H.out (List.Mem.tail _ (List.Mem.tail _ (List.Mem.head _))))
      have HF := Lib.hid (heldC_at H.out (List.Mem.tail _ (List.Mem.head _)))
      have HB := Lib.hid H.out.1
      go_wp2
      go_roundw
      case rel => exact ⟨k + 1, by omega, by go_num, PN.out, below_row HB.out (show w.heap.size ≤ w.heap.size + 1 + 1 by omega) _, row_old HZ.out (by omega), by rw [NX.out]; exact row_set HF.out⟩
      case measure => simp [intOf]; omega
    · obtain rfl : k = n := by omega
      have KF := Lib.hid (FF.out ▸ KF.out)
      obtain ⟨⟨z0, z1, z2⟩, f0, f1, f2⟩ := three KZ.out
      obtain ⟨⟨y0, y1, y2⟩, _⟩ := three KF.out
      go_wp2
      exact item_ret rfl rfl rfl KZ.out ⟨rfl, below_three BB.out (by omega) _ _ _⟩
end Go.Proofs.Ytlnjjjoeblopeaa

/- The program's arithmetic, each function against its plain one. -/
namespace Go.Proofs.Ytlnjjjoeblopeaa
set_option maxRecDepth 100000
open Go.RowKit
set_option linter.unusedVariables false

set_option maxHeartbeats 1000000 in
theorem areAny (x y : It) (w : World) (hx : x.t.size ≤ 9223372036854775807) (hy : y.t.size ≤ 9223372036854775807) :
    Calls Try.prog 150 #[.agg #[.int .i64 x.n, .int .i64 x.d, .string x.t], .agg #[.int .i64 y.n, .int .i64 y.d, .string y.t]] w fun e w' => e = .returned (.bool (both x y)) ∧ Below w.heap.size w w' := by
  cases h : isN x
  · have X := Lib.hid (show both x y = false by unfold both; rw [h]; rfl)
    have C := Lib.hid (implNumNo x.n x.d x.t)
    have h' : isN ⟨x.n, x.d, x.t⟩ = false := h
    have N := Lib.hid h'
    clear h h'
    go_enter Try.func150, Try.ntmps150
    go_wp2_with fail
    refine (C.out _ hx N.out).mono ?_
    rintro e w1 ⟨rfl, hb⟩
    have B1 := Lib.hid (below_then (below2 w _ _) hb)
    clear hb
    go_wp2
    go_ret
    exact ⟨ret_b X.out.symm, B1.out⟩
  · have X := Lib.hid (show both x y = isN y by unfold both; rw [h]; rfl)
    have C := Lib.hid (implNumYes x.n x.d x.t)
    have h' : isN ⟨x.n, x.d, x.t⟩ = true := h
    have N := Lib.hid h'
    clear h h'
    go_enter Try.func150, Try.ntmps150
    go_wp2_with fail
    refine (C.out _ hx N.out).mono ?_
    rintro e w1 ⟨rfl, hb⟩
    obtain ⟨hc, hf⟩ := bcell hb
    have B1 := Lib.hid (below_then (below2 w _ _) hb)
    clear hb
    go_wp2_with fail
    refine (implIsNum y.n y.d y.t _ hy).mono ?_
    rintro e w2 ⟨rfl, hb⟩
    have B2 := Lib.hid (below_then B1.out hb)
    clear hb
    go_wp2
    go_ret
    exact ⟨ret_b X.out.symm, B2.out⟩
theorem areYes (x y : It) (w : World) (hx : x.t.size ≤ 9223372036854775807) (hy : y.t.size ≤ 9223372036854775807) (h : both x y = true) :
    Calls Try.prog 150 #[.agg #[.int .i64 x.n, .int .i64 x.d, .string x.t], .agg #[.int .i64 y.n, .int .i64 y.d, .string y.t]] w fun e w' => e = .returned (.bool true) ∧ Below w.heap.size w w' := by
  have := areAny x y w hx hy
  rwa [h] at this
theorem areNo (x y : It) (w : World) (hx : x.t.size ≤ 9223372036854775807) (hy : y.t.size ≤ 9223372036854775807) (h : both x y = false) :
    Calls Try.prog 150 #[.agg #[.int .i64 x.n, .int .i64 x.d, .string x.t], .agg #[.int .i64 y.n, .int .i64 y.d, .string y.t]] w fun e w' => e = .returned (.bool false) ∧ Below w.heap.size w w' := by
  have := areAny x y w hx hy
  rwa [h] at this

set_option maxHeartbeats 1000000 in
theorem fracNumber (p q : Int) (w : World) (h : -9223372036854775808 ≤ p ∧ p ≤ 9223372036854775807) (h' : -9223372036854775808 ≤ q ∧ q ≤ 9223372036854775807) :
    Calls Try.prog 151 #[.agg #[.int .i64 p, .int .i64 q]] w fun e w' => e = .returned (.agg #[.int .i64 (mkI p q).n, .int .i64 (mkI p q).d, .string ⟨#[]⟩]) ∧ Below w.heap.size w w' := by
  go_enter Try.func151, Try.ntmps151
  go_wp2_with fail
  refine (implMake p q _ h h').mono ?_
  rintro e w1 ⟨rfl, hb⟩
  obtain ⟨hc, hf⟩ := bcell hb
  have B1 := Lib.hid (below_then (below2 w _ _) hb)
  have G := Lib.hid (blk_below (g := w.heap.size + 1) hb (blk_new _ _ (by simp)))
  clear hb
  go_wp2
  exact item_ret rfl rfl rfl G.out ⟨rfl, below_three B1.out (by omega) _ _ _⟩

set_option maxHeartbeats 1000000 in
theorem implAdd (x y : It) (w : World) (hx : x.t.size ≤ 9223372036854775807) (hy : y.t.size ≤ 9223372036854775807) :
    Calls Try.prog 125 #[.agg #[.int .i64 x.n, .int .i64 x.d, .string x.t], .agg #[.int .i64 y.n, .int .i64 y.d, .string y.t]] w fun e w' => e = .returned (.agg #[.int .i64 (addI x y).n, .int .i64 (addI x y).d, .string (addI x y).t]) ∧ Below w.heap.size w w' := by
  cases h : both x y
  · have X := Lib.hid (show addI x y = noI by unfold addI; simp [h])
    have N := Lib.hid h
    clear h
    go_enter Try.func125, Try.ntmps125
    go_wp2_with fail
    refine (areNo x y _ hx hy N.out).mono ?_
    rintro e w1 ⟨rfl, hb⟩
    obtain ⟨hc, hf⟩ := bcell hb
    have B1 := Lib.hid (below_then (below3 w _ _ _) hb)
    have G := Lib.hid (blk_below (g := w.heap.size + 2) hb (blk_new _ _ (by simp)))
    clear hb
    go_wp2
    rw [X.out]
    exact item_ret rfl rfl rfl G.out ⟨rfl, below_three B1.out (by omega) _ _ _⟩
  · have P := Lib.hid (parts_in (both_iff.1 h).1 (both_iff.1 h).2)
    have X := Lib.hid (add_mk h)
    have XT := Lib.hid (addI_t x y)
    have N := Lib.hid h
    have X1 := isN_iff.1 (both_iff.1 h).1
    have Y1 := isN_iff.1 (both_iff.1 h).2
    clear h
    have a0 : -999999998000000001 ≤ x.n * y.d := by have := P.out; omega
    have a1 : x.n * y.d ≤ 999999998000000001 := by have := P.out; omega
    have b0 : -999999998000000001 ≤ y.n * x.d := by have := P.out; omega
    have b1 : y.n * x.d ≤ 999999998000000001 := by have := P.out; omega
    have c0 : -999999998000000001 ≤ x.d * y.d := by have := P.out; omega
    have c1 : x.d * y.d ≤ 999999998000000001 := by have := P.out; omega

    clear X1 Y1
    go_enter Try.func125, Try.ntmps125
    go_wp2_with fail
    refine (areYes x y _ hx hy N.out).mono ?_
    rintro e w1 ⟨rfl, hb⟩
    obtain ⟨hc, hf⟩ := bcell hb
    have B1 := Lib.hid (below_then (below3 w _ _ _) hb)
    have G := Lib.hid (blk_below (g := w.heap.size + 2) hb (blk_new _ _ (by simp)))
    have hz : w.heap.size + 2 < w1.heap.size := by have := hb.size; simp at this; omega
    clear hb
    go_wp2_with fail
    refine (fracNumber (x.n * y.d + y.n * x.d) (x.d * y.d) _ ⟨by omega, by omega⟩ ⟨by omega, by omega⟩).mono ?_
    rintro e w2 ⟨rfl, hb⟩
    obtain ⟨hc2, hf2⟩ := bcell hb
    have B2 := Lib.hid (below_then B1.out hb)
    have G2 := Lib.hid (blk_below hb G.out)
    clear hb
    rw [X.out]
    go_wp2
    rw [XT.out]
    exact item_ret rfl rfl rfl G2.out ⟨rfl, below_three B2.out (by omega) _ _ _⟩

set_option maxHeartbeats 1000000 in
theorem implMul (x y : It) (w : World) (hx : x.t.size ≤ 9223372036854775807) (hy : y.t.size ≤ 9223372036854775807) :
    Calls Try.prog 127 #[.agg #[.int .i64 x.n, .int .i64 x.d, .string x.t], .agg #[.int .i64 y.n, .int .i64 y.d, .string y.t]] w fun e w' => e = .returned (.agg #[.int .i64 (mulI x y).n, .int .i64 (mulI x y).d, .string (mulI x y).t]) ∧ Below w.heap.size w w' := by
  cases h : both x y
  · have X := Lib.hid (show mulI x y = noI by unfold mulI; simp [h])
    have N := Lib.hid h
    clear h
    go_enter Try.func127, Try.ntmps127
    go_wp2_with fail
    refine (areNo x y _ hx hy N.out).mono ?_
    rintro e w1 ⟨rfl, hb⟩
    obtain ⟨hc, hf⟩ := bcell hb
    have B1 := Lib.hid (below_then (below3 w _ _ _) hb)
    have G := Lib.hid (blk_below (g := w.heap.size + 2) hb (blk_new _ _ (by simp)))
    clear hb
    go_wp2
    rw [X.out]
    exact item_ret rfl rfl rfl G.out ⟨rfl, below_three B1.out (by omega) _ _ _⟩
  · have P := Lib.hid (parts_in (both_iff.1 h).1 (both_iff.1 h).2)
    have X := Lib.hid (mul_mk h)
    have XT := Lib.hid (mulI_t x y)
    have N := Lib.hid h
    have X1 := isN_iff.1 (both_iff.1 h).1
    have Y1 := isN_iff.1 (both_iff.1 h).2
    clear h
    have a0 : -999999998000000001 ≤ x.n * y.n := by have := P.out; omega
    have a1 : x.n * y.n ≤ 999999998000000001 := by have := P.out; omega
    have c0 : -999999998000000001 ≤ x.d * y.d := by have := P.out; omega
    have c1 : x.d * y.d ≤ 999999998000000001 := by have := P.out; omega

    clear X1 Y1
    go_enter Try.func127, Try.ntmps127
    go_wp2_with fail
    refine (areYes x y _ hx hy N.out).mono ?_
    rintro e w1 ⟨rfl, hb⟩
    obtain ⟨hc, hf⟩ := bcell hb
    have B1 := Lib.hid (below_then (below3 w _ _ _) hb)
    have G := Lib.hid (blk_below (g := w.heap.size + 2) hb (blk_new _ _ (by simp)))
    have hz : w.heap.size + 2 < w1.heap.size := by have := hb.size; simp at this; omega
    clear hb
    go_wp2_with fail
    refine (fracNumber (x.n * y.n) (x.d * y.d) _ ⟨by omega, by omega⟩ ⟨by omega, by omega⟩).mono ?_
    rintro e w2 ⟨rfl, hb⟩
    obtain ⟨hc2, hf2⟩ := bcell hb
    have B2 := Lib.hid (below_then B1.out hb)
    have G2 := Lib.hid (blk_below hb G.out)
    clear hb
    rw [X.out]
    go_wp2
    rw [XT.out]
    exact item_ret rfl rfl rfl G2.out ⟨rfl, below_three B2.out (by omega) _ _ _⟩
end Go.Proofs.Ytlnjjjoeblopeaa

/- The program's arithmetic, continued: differences, quotients, floors. -/
namespace Go.Proofs.Ytlnjjjoeblopeaa
set_option maxRecDepth 100000
open Go.RowKit
set_option linter.unusedVariables false

theorem infoFrac : (Try.prog.info? 128).map (·.size) = some 2 := by kernel_rfl
theorem frac_ret0 {fn : Func} {R : Ending → World → Prop} {act : Act} {w : World} {g : Nat} {p : Tmp} {a b : Value} {t : TypeId} {fr : Nat × Nat}
    (hfn : fn.results = #[.cell p 128]) (hp : act.tmps.getD p undef = .pointer (some ⟨g, 0, none⟩)) (hd : act.defers = []) (hg : w.heap[g]? = some (.cells #[a, b] t fr))
    (hR : R (.returned (.agg #[a, b])) w) : bodyPost Try.prog fn R .ret act w :=
  bodyPost_ret (results_cell_row hfn _ _ g t #[a, b] fr _ hp hg Try.underlying128 rfl infoFrac) hd hR

set_option maxHeartbeats 1000000 in
theorem implRatio (x y : It) (w : World) (P : (-999999998000000001 ≤ x.n * y.d ∧ x.n * y.d ≤ 999999998000000001) ∧ (-999999998000000001 ≤ x.d * y.n ∧ x.d * y.n ≤ 999999998000000001)) :
    Calls Try.prog 153 #[.agg #[.int .i64 x.n, .int .i64 x.d, .string x.t], .agg #[.int .i64 y.n, .int .i64 y.d, .string y.t]] w fun e w' => e = .returned (.agg #[.int .i64 (x.n * y.d), .int .i64 (x.d * y.n)]) ∧ Below w.heap.size w w' := by
  have a0 := P.1.1
  have a1 := P.1.2
  have b0 := P.2.1
  have b1 := P.2.2
  clear P
  go_enter Try.func153, Try.ntmps153
  go_wp2
  exact frac_ret0 rfl rfl rfl (blk_new _ _ (by simp)) ⟨rfl, below3 w _ _ _⟩

set_option maxHeartbeats 1000000 in
theorem implDiv (x y : It) (w : World) (hx : x.t.size ≤ 9223372036854775807) (hy : y.t.size ≤ 9223372036854775807) :
    Calls Try.prog 128 #[.agg #[.int .i64 x.n, .int .i64 x.d, .string x.t], .agg #[.int .i64 y.n, .int .i64 y.d, .string y.t]] w fun e w' => e = .returned (.agg #[.int .i64 (divI x y).n, .int .i64 (divI x y).d, .string (divI x y).t]) ∧ Below w.heap.size w w' := by
  cases h : both x y
  · have X := Lib.hid (show divI x y = noI by unfold divI; simp [h])
    have N := Lib.hid h
    clear h
    go_enter Try.func128, Try.ntmps128
    go_wp2_with fail
    refine (areNo x y _ hx hy N.out).mono ?_
    rintro e w1 ⟨rfl, hb⟩
    obtain ⟨hc, hf⟩ := bcell hb
    have B1 := Lib.hid (below_then (below3 w _ _ _) hb)
    have G := Lib.hid (blk_below (g := w.heap.size + 2) hb (blk_new _ _ (by simp)))
    clear hb
    go_wp2
    rw [X.out]
    exact item_ret rfl rfl rfl G.out ⟨rfl, below_three B1.out (by omega) _ _ _⟩
  · have P := parts_in (both_iff.1 h).1 (both_iff.1 h).2
    have R := Lib.hid (implRatio x y)
    have K := Lib.hid (show (-9223372036854775808 ≤ x.n * y.d ∧ x.n * y.d ≤ 9223372036854775807) ∧ (-9223372036854775808 ≤ x.d * y.n ∧ x.d * y.n ≤ 9223372036854775807) by omega)
    have PP := Lib.hid (show (-999999998000000001 ≤ x.n * y.d ∧ x.n * y.d ≤ 999999998000000001) ∧ (-999999998000000001 ≤ x.d * y.n ∧ x.d * y.n ≤ 999999998000000001) by omega)
    have X := Lib.hid (div_mk h)
    have XT := Lib.hid (divI_t x y)
    have N := Lib.hid h
    clear h P
    go_enter Try.func128, Try.ntmps128
    go_wp2_with fail
    refine (areYes x y _ hx hy N.out).mono ?_
    rintro e w1 ⟨rfl, hb⟩
    obtain ⟨hc, hf⟩ := bcell hb
    have B1 := Lib.hid (below_then (below3 w _ _ _) hb)
    have G := Lib.hid (blk_below (g := w.heap.size + 2) hb (blk_new _ _ (by simp)))
    have hz : w.heap.size + 2 < w1.heap.size := by have := hb.size; simp at this; omega
    clear hb
    go_wp2_with fail
    refine (R.out _ PP.out).mono ?_
    rintro e w2 ⟨rfl, hb⟩
    obtain ⟨hc2, hf2⟩ := bcell hb
    have B2 := Lib.hid (below_then B1.out hb)
    have G2 := Lib.hid (blk_below hb G.out)
    have hz2 : w.heap.size + 2 < w2.heap.size := by have := hb.size; omega
    clear hb
    go_wp2_with fail
    refine (fracNumber (x.n * y.d) (x.d * y.n) _ K.out.1 K.out.2).mono ?_
    rintro e w3 ⟨rfl, hb⟩
    obtain ⟨hc3, hf3⟩ := bcell hb
    have B3 := Lib.hid (below_then B2.out hb)
    have G3 := Lib.hid (blk_below hb G2.out)
    clear hb
    rw [X.out]
    go_wp2
    rw [XT.out]
    exact item_ret rfl rfl rfl G3.out ⟨rfl, below_three B3.out (by omega) _ _ _⟩

set_option maxHeartbeats 1000000 in
theorem implNeg (x : It) (w : World) (hx : x.t.size ≤ 9223372036854775807) :
    Calls Try.prog 152 #[.agg #[.int .i64 x.n, .int .i64 x.d, .string x.t]] w fun e w' => e = .returned (.agg #[.int .i64 (negI x).n, .int .i64 (negI x).d, .string (negI x).t]) ∧ Below w.heap.size w w' := by
  cases h : isN x
  · have X := Lib.hid (show negI x = noI by unfold negI; simp [h])
    have N := Lib.hid (show isN ⟨x.n, x.d, x.t⟩ = false from h)
    clear h
    go_enter Try.func152, Try.ntmps152
    go_wp2_with fail
    refine (implNumNo x.n x.d x.t _ hx N.out).mono ?_
    rintro e w1 ⟨rfl, hb⟩
    obtain ⟨hc, hf⟩ := bcell hb
    have B1 := Lib.hid (below_then (below2 w _ _) hb)
    have G := Lib.hid (blk_below (g := w.heap.size + 1) hb (blk_new _ _ (by simp)))
    clear hb
    go_wp2
    rw [X.out]
    exact item_ret rfl rfl rfl G.out ⟨rfl, below_three B1.out (by omega) _ _ _⟩
  · have X := Lib.hid (neg_mk h)
    have P := isN_iff.1 h
    have p0 : -999999999 ≤ x.n := P.2.2.2.1
    have p1 : x.n ≤ 999999999 := P.2.2.2.2.1
    have N := Lib.hid (show isN ⟨x.n, x.d, x.t⟩ = true from h)
    clear h P
    go_enter Try.func152, Try.ntmps152
    go_wp2_with fail
    refine (implNumYes x.n x.d x.t _ hx N.out).mono ?_
    rintro e w1 ⟨rfl, hb⟩
    obtain ⟨hc, hf⟩ := bcell hb
    have B1 := Lib.hid (below_then (below2 w _ _) hb)
    have G := Lib.hid (blk_below (g := w.heap.size + 1) hb (blk_new _ _ (by simp)))
    have hz : w.heap.size + 1 < w1.heap.size := by have := hb.size; simp at this; omega
    clear hb
    go_wp2
    rw [← X.out]
    exact item_ret rfl rfl rfl G.out ⟨rfl, below_three B1.out (by omega) _ _ _⟩

set_option maxHeartbeats 1000000 in
theorem implExcess (n d : Int) (w : World) (n0 : -4000000000000000000 ≤ n) (n1 : n ≤ 4000000000000000000) (d0 : -4000000000000000000 ≤ d) (d1 : d ≤ 4000000000000000000) (hd : d ≠ 0) :
    Calls Try.prog 154 #[.agg #[.int .i64 n, .int .i64 d]] w fun e w' => e = .returned (.int .i64 (n.fmod d)) ∧ Below w.heap.size w w' := by
  have X := exc_eq (n := n) hd
  unfold excF at X
  obtain ⟨r0, r1, _⟩ := tmod_in2 (x := n) hd d0 d1
  by_cases c : n.tmod d < 0
  · by_cases s : 0 < d
    · rw [if_pos (.inl ⟨c, s⟩)] at X
      have XX := Lib.hid X
      clear X hd
      go_enter Try.func154, Try.ntmps154
      go_wp2
      go_ret
      exact ⟨ret_i XX.out, below1 w _⟩
    · rw [if_neg (by omega)] at X
      have XX := Lib.hid X
      have s' : d < 0 := by omega
      clear X hd
      go_enter Try.func154, Try.ntmps154
      go_wp2
      go_ret
      exact ⟨ret_i XX.out, below1 w _⟩
  · by_cases c2 : 0 < n.tmod d
    · by_cases s : 0 < d
      · rw [if_neg (by omega)] at X
        have XX := Lib.hid X
        clear X hd
        go_enter Try.func154, Try.ntmps154
        go_wp2
        go_ret
        exact ⟨ret_i XX.out, below1 w _⟩
      · have s' : d < 0 := by omega
        rw [if_pos (.inr ⟨c2, s'⟩)] at X
        have XX := Lib.hid X
        clear X hd
        go_enter Try.func154, Try.ntmps154
        go_wp2
        go_ret
        exact ⟨ret_i XX.out, below1 w _⟩
    · rw [if_neg (by omega)] at X
      have XX := Lib.hid X
      by_cases s : 0 < d
      all_goals
        clear X
        go_enter Try.func154, Try.ntmps154
        go_wp2
        go_ret
        exact ⟨ret_i XX.out, below1 w _⟩
end Go.Proofs.Ytlnjjjoeblopeaa

/- Chapter 6 in the program: sums, products, means. -/
namespace Go.Proofs.Ytlnjjjoeblopeaa
open Go.RowKit
set_option maxRecDepth 100000
set_option linter.unusedVariables false

/-- A vector of one item that was stored into the result's cell, the item's block made last. -/
theorem vec_oneS {fn : Func} {act : Act} {w w3 : World} {g : Nat} {p q : Tmp} {k : Int} {z : It} {s : ByteArray} {z0 z1 z2 z3 z4 z5 z6 z7 : Value} (hfn : fn.results = #[.cell p 31, .tmp q]) (hp : act.tmps.getD p undef = .pointer (some ⟨g, 0, none⟩)) (hq : act.tmps.getD q undef = .string s) (hd : act.defers = [])
    (hK : w3.heap[g]? = some (.cells #[z0, z1, z2, z3, z4, z5, z6, z7] 31 (0, 0))) (hB : Below w.heap.size w w3) (hg : w.heap.size ≤ g) :
    bodyPost Try.prog fn (ResVS 1 (vecOf k [z]) s w) .ret act (((((((((w3.setCell ⟨g, 0, none⟩ (.int .i64 k)).setCell ⟨g, 1, none⟩ (.slice (some ⟨w3.heap.size, 0, none⟩) 1 1)).setCell ⟨g, 2, none⟩ (.slice none 0 0)).setCell ⟨g, 3, none⟩ (.slice none 0 0)).setCell ⟨g, 4, none⟩ (.slice none 0 0)).setCell ⟨g, 5, none⟩ (.slice none 0 0)).setCell ⟨g, 6, none⟩ (.int .i64 0)).setCell ⟨g, 7, none⟩ (.int .i64 0)).alloc (.cells #[.int .i64 z.n, .int .i64 z.d, .string z.t] 66)) := by
  show bodyPost Try.prog fn (ResVS 1 (vecOf k [z]) s w) .ret act ((put8 w3 g 0 (.int .i64 k) (.slice (some ⟨w3.heap.size, 0, none⟩) 1 1) (.slice none 0 0) (.slice none 0 0) (.slice none 0 0) (.slice none 0 0) (.int .i64 0) (.int .i64 0)).alloc (.cells #[.int .i64 z.n, .int .i64 z.d, .string z.t] 66))
  have hs : (put8 w3 g 0 (.int .i64 k) (.slice (some ⟨w3.heap.size, 0, none⟩) 1 1) (.slice none 0 0) (.slice none 0 0) (.slice none 0 0) (.slice none 0 0) (.int .i64 0) (.int .i64 0)).heap.size = w3.heap.size := put8_size
  have hb : Below w.heap.size w (put8 w3 g 0 (.int .i64 k) (.slice (some ⟨w3.heap.size, 0, none⟩) 1 1) (.slice none 0 0) (.slice none 0 0) (.slice none 0 0) (.slice none 0 0) (.int .i64 0) (.int .i64 0)) := put8_below hB hg
  have hk := put8_lit (c0 := .int .i64 k) (c1 := .slice (some ⟨w3.heap.size, 0, none⟩) 1 1) (c2 := .slice none 0 0) (c3 := .slice none 0 0) (c4 := .slice none 0 0) (c5 := .slice none 0 0) (c6 := .int .i64 0) (c7 := .int .i64 0) hK
  obtain ⟨P, hP⟩ : ∃ P, put8 w3 g 0 (.int .i64 k) (.slice (some ⟨w3.heap.size, 0, none⟩) 1 1) (.slice none 0 0) (.slice none 0 0) (.slice none 0 0) (.slice none 0 0) (.int .i64 0) (.int .i64 0) = P := ⟨_, rfl⟩
  rw [hP] at hs hb hk ⊢
  have h1 := hB.size
  have h2 : w3.heap.size < (P.alloc (.cells #[.int .i64 z.n, .int .i64 z.d, .string z.t] 66)).heap.size := by simp; omega
  exact vec_ret0S hfn hp hq hd (blk_old hk) ⟨_, rfl, (own_one (k := k) (blk_new P _ hs.symm)).wide h1 h2, hb.alloc hb.size _⟩
theorem implSumIt (l : List It) (sa : Option Addr) (c lo hi : Nat) (w : World) (hI : ItemsAt lo hi w sa l) (hhi : hi ≤ w.heap.size) (hn : l.length ≤ 1048576) (ht : ∀ i, i < l.length → (l.getD i noI).t.size ≤ 9223372036854775807) :
    Calls Try.prog 84 #[.slice sa l.length c] w fun e w' => e = .returned (.agg #[.int .i64 (sumL l).n, .int .i64 (sumL l).d, .string (sumL l).t]) ∧ Below w.heap.size w w' := by
  have MK := Lib.hid (fun W => (by have h := implMake 0 1 W ⟨by omega, by omega⟩ ⟨by decide, by decide⟩; rw [mkI_int (by omega) (by omega)] at h; exact h : Calls Try.prog 133 #[.int .i64 0, .int .i64 1] W (fun e w' => e = .returned (.agg #[.int .i64 0, .int .i64 1, .string ⟨#[]⟩]) ∧ Below W.heap.size W w')))
  have CF := Lib.hid (fun (W : World) (hb : Below w.heap.size w W) => (by
    have h := implFold 125 #[] addI GoodI l (mkI 0 1) sa c lo hi W (hI.below hb hhi) (Nat.le_trans hhi hb.size) hn (by kernel_rfl) (fun x i W' hx hi _ => implAdd x (l.getD i noI) W' hx.t0 (ht i hi)) (good_mkI 0 1) (fun x i _ _ => good_addI _ _)
    change Calls _ _ _ _ (fun e w' => e = .returned (.agg #[.int .i64 (sumL l).n, .int .i64 (sumL l).d, .string (sumL l).t]) ∧ _) at h
    obtain ⟨Z, hZ⟩ : ∃ Z, sumL l = Z := ⟨_, rfl⟩
    rw [hZ, mkI_int (by omega) (by omega)] at h
    rw [hZ]
    exact h : Calls Try.prog 132 #[.slice sa l.length c, .agg #[.int .i64 0, .int .i64 1, .string ⟨#[]⟩], .func (.func 125) #[] #[]] W (fun e w' => e = .returned (.agg #[.int .i64 (sumL l).n, .int .i64 (sumL l).d, .string (sumL l).t]) ∧ Below W.heap.size W w')))
  obtain ⟨Z, hZ⟩ : ∃ Z, sumL l = Z := ⟨_, rfl⟩
  rw [hZ] at CF ⊢
  clear hZ hI ht
  go_enter Try.func84, Try.ntmps84
  go_wp2_with fail
  with_reducible refine (MK.out _).mono ?_
  rintro e w1 ⟨rfl, b⟩
  have B1 := Lib.hid (below_then (below1 w _) b)
  have KZ := Lib.hid (blk_below b (blk_new w _ rfl))
  clear b
  go_wp2_with fail
  with_reducible refine (CF.out _ B1.out).mono ?_
  rintro e w2 ⟨rfl, b⟩
  have B2 := Lib.hid (below_then B1.out b)
  have KZ := Lib.hid (blk_below b KZ.out)
  clear b
  obtain ⟨⟨z0, z1, z2⟩, f0, f1, f2⟩ := three KZ.out
  go_wp2
  exact item_ret rfl rfl rfl KZ.out ⟨rfl, below_three B2.out (Nat.le_refl _) _ _ _⟩
theorem implProdIt (l : List It) (sa : Option Addr) (c lo hi : Nat) (w : World) (hI : ItemsAt lo hi w sa l) (hhi : hi ≤ w.heap.size) (hn : l.length ≤ 1048576) (ht : ∀ i, i < l.length → (l.getD i noI).t.size ≤ 9223372036854775807) :
    Calls Try.prog 87 #[.slice sa l.length c] w fun e w' => e = .returned (.agg #[.int .i64 (prodL l).n, .int .i64 (prodL l).d, .string (prodL l).t]) ∧ Below w.heap.size w w' := by
  have MK := Lib.hid (fun W => (by have h := implMake 1 1 W ⟨by omega, by omega⟩ ⟨by decide, by decide⟩; rw [mkI_int (by omega) (by omega)] at h; exact h : Calls Try.prog 133 #[.int .i64 1, .int .i64 1] W (fun e w' => e = .returned (.agg #[.int .i64 1, .int .i64 1, .string ⟨#[]⟩]) ∧ Below W.heap.size W w')))
  have CF := Lib.hid (fun (W : World) (hb : Below w.heap.size w W) => (by
    have h := implFold 127 #[] mulI GoodI l (mkI 1 1) sa c lo hi W (hI.below hb hhi) (Nat.le_trans hhi hb.size) hn (by kernel_rfl) (fun x i W' hx hi _ => implMul x (l.getD i noI) W' hx.t0 (ht i hi)) (good_mkI 1 1) (fun x i _ _ => good_mulI _ _)
    change Calls _ _ _ _ (fun e w' => e = .returned (.agg #[.int .i64 (prodL l).n, .int .i64 (prodL l).d, .string (prodL l).t]) ∧ _) at h
    obtain ⟨Z, hZ⟩ : ∃ Z, prodL l = Z := ⟨_, rfl⟩
    rw [hZ, mkI_int (by omega) (by omega)] at h
    rw [hZ]
    exact h : Calls Try.prog 132 #[.slice sa l.length c, .agg #[.int .i64 1, .int .i64 1, .string ⟨#[]⟩], .func (.func 127) #[] #[]] W (fun e w' => e = .returned (.agg #[.int .i64 (prodL l).n, .int .i64 (prodL l).d, .string (prodL l).t]) ∧ Below W.heap.size W w')))
  obtain ⟨Z, hZ⟩ : ∃ Z, prodL l = Z := ⟨_, rfl⟩
  rw [hZ] at CF ⊢
  clear hZ hI ht
  go_enter Try.func87, Try.ntmps87
  go_wp2_with fail
  with_reducible refine (MK.out _).mono ?_
  rintro e w1 ⟨rfl, b⟩
  have B1 := Lib.hid (below_then (below1 w _) b)
  have KZ := Lib.hid (blk_below b (blk_new w _ rfl))
  clear b
  go_wp2_with fail
  with_reducible refine (CF.out _ B1.out).mono ?_
  rintro e w2 ⟨rfl, b⟩
  have B2 := Lib.hid (below_then B1.out b)
  have KZ := Lib.hid (blk_below b KZ.out)
  clear b
  obtain ⟨⟨z0, z1, z2⟩, f0, f1, f2⟩ := three KZ.out
  go_wp2
  exact item_ret rfl rfl rfl KZ.out ⟨rfl, below_three B2.out (Nat.le_refl _) _ _ _⟩
theorem implMeanIt (l : List It) (sa : Option Addr) (c lo hi : Nat) (w : World) (hI : ItemsAt lo hi w sa l) (hhi : hi ≤ w.heap.size) (hn : l.length ≤ 1048576) (ht : ∀ i, i < l.length → (l.getD i noI).t.size ≤ 9223372036854775807) :
    Calls Try.prog 89 #[.slice sa l.length c] w fun e w' => e = .returned (.agg #[.int .i64 (meanL l).n, .int .i64 (meanL l).d, .string (meanL l).t]) ∧ Below w.heap.size w w' := by
  have CS := Lib.hid (fun (W : World) (hb : Below w.heap.size w W) => implSumIt l sa c lo hi W (hI.below hb hhi) (Nat.le_trans hhi hb.size) hn ht)
  have EM := Lib.hid (show meanL l = divI (sumL l) ⟨(l.length : Int), 1, ⟨#[]⟩⟩ by unfold meanL; rw [mkI_int (by omega) (by omega)])
  have CD := Lib.hid (fun W => implDiv (sumL l) ⟨(l.length : Int), 1, ⟨#[]⟩⟩ W (good_sumL l).t0 (Nat.zero_le _))
  rw [← EM.out] at CD
  have MK := Lib.hid (fun W => (by have h := implMake (l.length : Int) 1 W ⟨by omega, by omega⟩ ⟨by decide, by decide⟩; rw [mkI_int (by omega) (by omega)] at h; exact h : Calls Try.prog 133 #[.int .i64 (l.length : Int), .int .i64 1] W (fun e w' => e = .returned (.agg #[.int .i64 (l.length : Int), .int .i64 1, .string ⟨#[]⟩]) ∧ Below W.heap.size W w')))
  obtain ⟨n, hn'⟩ : ∃ n, l.length = n := ⟨_, rfl⟩
  rw [hn'] at MK CS CD hn ⊢
  obtain ⟨M, hM⟩ : ∃ Z, meanL l = Z := ⟨_, rfl⟩
  obtain ⟨Z, hZ⟩ : ∃ Z, sumL l = Z := ⟨_, rfl⟩
  rw [hZ] at CS CD
  rw [hM] at CD ⊢
  clear hM hZ hI ht EM hn'
  go_enter Try.func89, Try.ntmps89
  go_wp2_with fail
  with_reducible refine (CS.out _ (below1 w _)).mono ?_
  rintro e w1 ⟨rfl, b⟩
  have B1 := Lib.hid (below_then (below1 w _) b)
  have KZ := Lib.hid (blk_below b (blk_new w _ rfl))
  clear b
  go_wp2_with fail
  with_reducible refine (MK.out _).mono ?_
  rintro e w2 ⟨rfl, b⟩
  have B2 := Lib.hid (below_then B1.out b)
  have KZ := Lib.hid (blk_below b KZ.out)
  clear b
  go_wp2_with fail
  with_reducible refine (CD.out _).mono ?_
  rintro e w3 ⟨rfl, b⟩
  have B3 := Lib.hid (below_then B2.out b)
  have KZ := Lib.hid (blk_below b KZ.out)
  clear b
  obtain ⟨⟨z0, z1, z2⟩, f0, f1, f2⟩ := three KZ.out
  go_wp2
  exact item_ret rfl rfl rfl KZ.out ⟨rfl, below_three B3.out (Nat.le_refl _) _ _ _⟩
theorem nonNum_ne : ¬ nonNumB = ⟨#[]⟩ := by decide
set_option maxHeartbeats 2000000 in
theorem implSmySum (d : Nat) (v : Vec) (val : Value) (drop : Bool) (lo hi : Nat) (w : World) (hv : VecAt lo hi w d v val) (hhi : hi ≤ w.heap.size) (hsm : Small d v) :
    Calls Try.prog 83 #[val, .bool drop, .func (.func 84) #[] #[]] w (ResVS 1 (smyV sumL drop v) (smyS nonNumB v) w) := by
  have C1 := Lib.hid (fun (w1 : World) (hb : Below w.heap.size w w1) => implTaken d v val drop nonNumB nonNum_ne lo hi w1 (hv.below hb hhi) (Nat.le_trans hhi hb.size) hsm)
  obtain ⟨VV, hVV⟩ : ∃ V, v = V := ⟨_, rfl⟩
  rw [hVV] at C1 ⊢
  obtain ⟨kk, items, parts, names, cls, levels, code, env⟩ := v
  obtain ⟨d', ai, ci, ap, cp, an, cn, ac, cc, al, cl, ed, rfl, hI, hN, hC, hL, hP⟩ := vecAt_open hv
  clear hv hI hN hC hL hP hsm ed hVV
  go_enter Try.func83, Try.ntmps83
  go_wp2_with fail
  obtain ⟨w1, hw1⟩ : ∃ W, (w.alloc (.cells #[.int .i64 kk, .slice ai items.length ci, .slice ap parts.length cp, .slice an names.length cn, .slice ac cls.length cc, .slice al levels.length cl, .int .i64 code, .int .i64 env] 31)).alloc (.cells #[.int .i64 0, .slice none 0 0, .slice none 0 0, .slice none 0 0, .slice none 0 0, .slice none 0 0, .int .i64 0, .int .i64 0] 31) = W := ⟨_, rfl⟩
  have hsz : (w.alloc (.cells #[.int .i64 kk, .slice ai items.length ci, .slice ap parts.length cp, .slice an names.length cn, .slice ac cls.length cc, .slice al levels.length cl, .int .i64 code, .int .i64 env] 31)).heap.size = w.heap.size + 1 := by simp
  have B1 := Lib.hid (show Below w.heap.size w w1 from hw1 ▸ (below1 w _).alloc (by simp) _)
  have KA := Lib.hid (show w1.heap[w.heap.size]? = some (.cells #[.int .i64 kk, .slice ai items.length ci, .slice ap parts.length cp, .slice an names.length cn, .slice ac cls.length cc, .slice al levels.length cl, .int .i64 code, .int .i64 env] 31 (0, 0)) from hw1 ▸ blk_old (blk_new w _ rfl))
  have KR := Lib.hid (show w1.heap[w.heap.size + 1]? = some (.cells #[.int .i64 0, .slice none 0 0, .slice none 0 0, .slice none 0 0, .slice none 0 0, .slice none 0 0, .int .i64 0, .int .i64 0] 31 (0, 0)) from hw1 ▸ hsz ▸ blk_new (w.alloc (.cells #[.int .i64 kk, .slice ai items.length ci, .slice ap parts.length cp, .slice an names.length cn, .slice ac cls.length cc, .slice al levels.length cl, .int .i64 code, .int .i64 env] 31)) (.cells #[.int .i64 0, .slice none 0 0, .slice none 0 0, .slice none 0 0, .slice none 0 0, .slice none 0 0, .int .i64 0, .int .i64 0] 31) rfl)
  rw [hw1]
  clear hw1 hsz
  refine (C1.out _ B1.out).mono ?_
  rintro e w2 ⟨sa, n, c, rfl, hln, hit, b⟩
  have B2 := Lib.hid (below_then B1.out b)
  have KR := Lib.hid (blk_below b KR.out)
  clear b
  by_cases hs : smyS nonNumB VV = ⟨#[]⟩
  · have XV := Lib.hid (smy_val nonNum_ne hs sumL drop)
    have CS := Lib.hid (implSumIt (smyL drop VV) sa c 0 w2.heap.size w2 hit (Nat.le_refl _) (by have := smyL_len drop VV; omega) (fun i _ => (smyL_at drop VV i).t0))
    rw [← hln] at CS
    rw [hs]
    have hs' := hs
    obtain ⟨z, hz⟩ : ∃ z, sumL (smyL drop VV) = z := ⟨_, rfl⟩
    rw [hz] at XV CS
    clear hz hs hit hln
    go_wp2_with fail
    with_reducible refine CS.out.mono ?_
    rintro e w3 ⟨rfl, b⟩
    have B3 := Lib.hid (below_then B2.out b)
    have KR := Lib.hid (blk_below b KR.out)
    clear b
    have hr3 := (Array.getElem?_eq_some_iff.1 KR.out).1
    obtain ⟨z0, z1, z2, z3, z4, z5, z6, z7⟩ := vec8 KR.out
    obtain ⟨f0, f1, f2, f3, f4, f5, f6, f7⟩ := free8 KR.out
    have XS := Lib.hid hs'
    clear hs'
    go_wp2
    rw [XV.out, XS.out]
    exact vec_oneS rfl rfl rfl rfl KR.out B3.out (Nat.le_succ _)
  · have XV := Lib.hid (smy_not hs sumL drop).1
    obtain ⟨R, hR⟩ : ∃ R, smyS nonNumB VV = R := ⟨_, rfl⟩
    have XS := Lib.hid hR
    rw [hR] at hs ⊢
    have hRb : (R.toList == []) = false := by have h := str_not hs; rw [ByteArray.toList_eq ⟨#[]⟩] at h; exact h
    clear hs hR
    obtain ⟨z0, z1, z2, z3, z4, z5, z6, z7⟩ := vec8 KR.out
    obtain ⟨f0, f1, f2, f3, f4, f5, f6, f7⟩ := free8 KR.out
    go_wp2
    rw [XV.out, XS.out]
    exact vec_endS rfl rfl rfl rfl KR.out (zeroS _ w _ (put8_below B2.out (Nat.le_succ _)))
set_option maxHeartbeats 2000000 in
theorem implSmyProd (d : Nat) (v : Vec) (val : Value) (drop : Bool) (lo hi : Nat) (w : World) (hv : VecAt lo hi w d v val) (hhi : hi ≤ w.heap.size) (hsm : Small d v) :
    Calls Try.prog 83 #[val, .bool drop, .func (.func 87) #[] #[]] w (ResVS 1 (smyV prodL drop v) (smyS nonNumB v) w) := by
  have C1 := Lib.hid (fun (w1 : World) (hb : Below w.heap.size w w1) => implTaken d v val drop nonNumB nonNum_ne lo hi w1 (hv.below hb hhi) (Nat.le_trans hhi hb.size) hsm)
  obtain ⟨VV, hVV⟩ : ∃ V, v = V := ⟨_, rfl⟩
  rw [hVV] at C1 ⊢
  obtain ⟨kk, items, parts, names, cls, levels, code, env⟩ := v
  obtain ⟨d', ai, ci, ap, cp, an, cn, ac, cc, al, cl, ed, rfl, hI, hN, hC, hL, hP⟩ := vecAt_open hv
  clear hv hI hN hC hL hP hsm ed hVV
  go_enter Try.func83, Try.ntmps83
  go_wp2_with fail
  obtain ⟨w1, hw1⟩ : ∃ W, (w.alloc (.cells #[.int .i64 kk, .slice ai items.length ci, .slice ap parts.length cp, .slice an names.length cn, .slice ac cls.length cc, .slice al levels.length cl, .int .i64 code, .int .i64 env] 31)).alloc (.cells #[.int .i64 0, .slice none 0 0, .slice none 0 0, .slice none 0 0, .slice none 0 0, .slice none 0 0, .int .i64 0, .int .i64 0] 31) = W := ⟨_, rfl⟩
  have hsz : (w.alloc (.cells #[.int .i64 kk, .slice ai items.length ci, .slice ap parts.length cp, .slice an names.length cn, .slice ac cls.length cc, .slice al levels.length cl, .int .i64 code, .int .i64 env] 31)).heap.size = w.heap.size + 1 := by simp
  have B1 := Lib.hid (show Below w.heap.size w w1 from hw1 ▸ (below1 w _).alloc (by simp) _)
  have KA := Lib.hid (show w1.heap[w.heap.size]? = some (.cells #[.int .i64 kk, .slice ai items.length ci, .slice ap parts.length cp, .slice an names.length cn, .slice ac cls.length cc, .slice al levels.length cl, .int .i64 code, .int .i64 env] 31 (0, 0)) from hw1 ▸ blk_old (blk_new w _ rfl))
  have KR := Lib.hid (show w1.heap[w.heap.size + 1]? = some (.cells #[.int .i64 0, .slice none 0 0, .slice none 0 0, .slice none 0 0, .slice none 0 0, .slice none 0 0, .int .i64 0, .int .i64 0] 31 (0, 0)) from hw1 ▸ hsz ▸ blk_new (w.alloc (.cells #[.int .i64 kk, .slice ai items.length ci, .slice ap parts.length cp, .slice an names.length cn, .slice ac cls.length cc, .slice al levels.length cl, .int .i64 code, .int .i64 env] 31)) (.cells #[.int .i64 0, .slice none 0 0, .slice none 0 0, .slice none 0 0, .slice none 0 0, .slice none 0 0, .int .i64 0, .int .i64 0] 31) rfl)
  rw [hw1]
  clear hw1 hsz
  refine (C1.out _ B1.out).mono ?_
  rintro e w2 ⟨sa, n, c, rfl, hln, hit, b⟩
  have B2 := Lib.hid (below_then B1.out b)
  have KR := Lib.hid (blk_below b KR.out)
  clear b
  by_cases hs : smyS nonNumB VV = ⟨#[]⟩
  · have XV := Lib.hid (smy_val nonNum_ne hs prodL drop)
    have CS := Lib.hid (implProdIt (smyL drop VV) sa c 0 w2.heap.size w2 hit (Nat.le_refl _) (by have := smyL_len drop VV; omega) (fun i _ => (smyL_at drop VV i).t0))
    rw [← hln] at CS
    rw [hs]
    have hs' := hs
    obtain ⟨z, hz⟩ : ∃ z, prodL (smyL drop VV) = z := ⟨_, rfl⟩
    rw [hz] at XV CS
    clear hz hs hit hln
    go_wp2_with fail
    with_reducible refine CS.out.mono ?_
    rintro e w3 ⟨rfl, b⟩
    have B3 := Lib.hid (below_then B2.out b)
    have KR := Lib.hid (blk_below b KR.out)
    clear b
    have hr3 := (Array.getElem?_eq_some_iff.1 KR.out).1
    obtain ⟨z0, z1, z2, z3, z4, z5, z6, z7⟩ := vec8 KR.out
    obtain ⟨f0, f1, f2, f3, f4, f5, f6, f7⟩ := free8 KR.out
    have XS := Lib.hid hs'
    clear hs'
    go_wp2
    rw [XV.out, XS.out]
    exact vec_oneS rfl rfl rfl rfl KR.out B3.out (Nat.le_succ _)
  · have XV := Lib.hid (smy_not hs prodL drop).1
    obtain ⟨R, hR⟩ : ∃ R, smyS nonNumB VV = R := ⟨_, rfl⟩
    have XS := Lib.hid hR
    rw [hR] at hs ⊢
    have hRb : (R.toList == []) = false := by have h := str_not hs; rw [ByteArray.toList_eq ⟨#[]⟩] at h; exact h
    clear hs hR
    obtain ⟨z0, z1, z2, z3, z4, z5, z6, z7⟩ := vec8 KR.out
    obtain ⟨f0, f1, f2, f3, f4, f5, f6, f7⟩ := free8 KR.out
    go_wp2
    rw [XV.out, XS.out]
    exact vec_endS rfl rfl rfl rfl KR.out (zeroS _ w _ (put8_below B2.out (Nat.le_succ _)))
set_option maxHeartbeats 2000000 in
theorem implSmyMean (d : Nat) (v : Vec) (val : Value) (drop : Bool) (lo hi : Nat) (w : World) (hv : VecAt lo hi w d v val) (hhi : hi ≤ w.heap.size) (hsm : Small d v) :
    Calls Try.prog 83 #[val, .bool drop, .func (.func 89) #[] #[]] w (ResVS 1 (smyV meanL drop v) (smyS nonNumB v) w) := by
  have C1 := Lib.hid (fun (w1 : World) (hb : Below w.heap.size w w1) => implTaken d v val drop nonNumB nonNum_ne lo hi w1 (hv.below hb hhi) (Nat.le_trans hhi hb.size) hsm)
  obtain ⟨VV, hVV⟩ : ∃ V, v = V := ⟨_, rfl⟩
  rw [hVV] at C1 ⊢
  obtain ⟨kk, items, parts, names, cls, levels, code, env⟩ := v
  obtain ⟨d', ai, ci, ap, cp, an, cn, ac, cc, al, cl, ed, rfl, hI, hN, hC, hL, hP⟩ := vecAt_open hv
  clear hv hI hN hC hL hP hsm ed hVV
  go_enter Try.func83, Try.ntmps83
  go_wp2_with fail
  obtain ⟨w1, hw1⟩ : ∃ W, (w.alloc (.cells #[.int .i64 kk, .slice ai items.length ci, .slice ap parts.length cp, .slice an names.length cn, .slice ac cls.length cc, .slice al levels.length cl, .int .i64 code, .int .i64 env] 31)).alloc (.cells #[.int .i64 0, .slice none 0 0, .slice none 0 0, .slice none 0 0, .slice none 0 0, .slice none 0 0, .int .i64 0, .int .i64 0] 31) = W := ⟨_, rfl⟩
  have hsz : (w.alloc (.cells #[.int .i64 kk, .slice ai items.length ci, .slice ap parts.length cp, .slice an names.length cn, .slice ac cls.length cc, .slice al levels.length cl, .int .i64 code, .int .i64 env] 31)).heap.size = w.heap.size + 1 := by simp
  have B1 := Lib.hid (show Below w.heap.size w w1 from hw1 ▸ (below1 w _).alloc (by simp) _)
  have KA := Lib.hid (show w1.heap[w.heap.size]? = some (.cells #[.int .i64 kk, .slice ai items.length ci, .slice ap parts.length cp, .slice an names.length cn, .slice ac cls.length cc, .slice al levels.length cl, .int .i64 code, .int .i64 env] 31 (0, 0)) from hw1 ▸ blk_old (blk_new w _ rfl))
  have KR := Lib.hid (show w1.heap[w.heap.size + 1]? = some (.cells #[.int .i64 0, .slice none 0 0, .slice none 0 0, .slice none 0 0, .slice none 0 0, .slice none 0 0, .int .i64 0, .int .i64 0] 31 (0, 0)) from hw1 ▸ hsz ▸ blk_new (w.alloc (.cells #[.int .i64 kk, .slice ai items.length ci, .slice ap parts.length cp, .slice an names.length cn, .slice ac cls.length cc, .slice al levels.length cl, .int .i64 code, .int .i64 env] 31)) (.cells #[.int .i64 0, .slice none 0 0, .slice none 0 0, .slice none 0 0, .slice none 0 0, .slice none 0 0, .int .i64 0, .int .i64 0] 31) rfl)
  rw [hw1]
  clear hw1 hsz
  refine (C1.out _ B1.out).mono ?_
  rintro e w2 ⟨sa, n, c, rfl, hln, hit, b⟩
  have B2 := Lib.hid (below_then B1.out b)
  have KR := Lib.hid (blk_below b KR.out)
  clear b
  by_cases hs : smyS nonNumB VV = ⟨#[]⟩
  · have XV := Lib.hid (smy_val nonNum_ne hs meanL drop)
    have CS := Lib.hid (implMeanIt (smyL drop VV) sa c 0 w2.heap.size w2 hit (Nat.le_refl _) (by have := smyL_len drop VV; omega) (fun i _ => (smyL_at drop VV i).t0))
    rw [← hln] at CS
    rw [hs]
    have hs' := hs
    obtain ⟨z, hz⟩ : ∃ z, meanL (smyL drop VV) = z := ⟨_, rfl⟩
    rw [hz] at XV CS
    clear hz hs hit hln
    go_wp2_with fail
    with_reducible refine CS.out.mono ?_
    rintro e w3 ⟨rfl, b⟩
    have B3 := Lib.hid (below_then B2.out b)
    have KR := Lib.hid (blk_below b KR.out)
    clear b
    have hr3 := (Array.getElem?_eq_some_iff.1 KR.out).1
    obtain ⟨z0, z1, z2, z3, z4, z5, z6, z7⟩ := vec8 KR.out
    obtain ⟨f0, f1, f2, f3, f4, f5, f6, f7⟩ := free8 KR.out
    have XS := Lib.hid hs'
    clear hs'
    go_wp2
    rw [XV.out, XS.out]
    exact vec_oneS rfl rfl rfl rfl KR.out B3.out (Nat.le_succ _)
  · have XV := Lib.hid (smy_not hs meanL drop).1
    obtain ⟨R, hR⟩ : ∃ R, smyS nonNumB VV = R := ⟨_, rfl⟩
    have XS := Lib.hid hR
    rw [hR] at hs ⊢
    have hRb : (R.toList == []) = false := by have h := str_not hs; rw [ByteArray.toList_eq ⟨#[]⟩] at h; exact h
    clear hs hR
    obtain ⟨z0, z1, z2, z3, z4, z5, z6, z7⟩ := vec8 KR.out
    obtain ⟨f0, f1, f2, f3, f4, f5, f6, f7⟩ := free8 KR.out
    go_wp2
    rw [XV.out, XS.out]
    exact vec_endS rfl rfl rfl rfl KR.out (zeroS _ w _ (put8_below B2.out (Nat.le_succ _)))
set_option maxHeartbeats 1000000 in
theorem implSumOf (d : Nat) (v : Vec) (val : Value) (drop : Bool) (lo hi : Nat) (w : World) (hv : VecAt lo hi w d v val) (hhi : hi ≤ w.heap.size) (hsm : Small d v) :
    Calls Try.prog 26 #[val, .bool drop] w (ResVS 1 (smyV sumL drop v) (smyS nonNumB v) w) := by
  have C1 := Lib.hid (fun (w1 : World) (hb : Below w.heap.size w w1) => implSmySum d v val drop lo hi w1 (hv.below hb hhi) (Nat.le_trans hhi hb.size) hsm)
  obtain ⟨VV, hVV⟩ : ∃ V, v = V := ⟨_, rfl⟩
  rw [hVV] at C1 ⊢
  obtain ⟨kk, items, parts, names, cls, levels, code, env⟩ := v
  obtain ⟨d', ai, ci, ap, cp, an, cn, ac, cc, al, cl, ed, rfl, hI, hN, hC, hL, hP⟩ := vecAt_open hv
  clear hv hI hN hC hL hP hsm ed hVV
  go_enter Try.func26, Try.ntmps26
  go_wp2_with fail
  obtain ⟨w1, hw1⟩ : ∃ W, (w.alloc (.cells #[.int .i64 kk, .slice ai items.length ci, .slice ap parts.length cp, .slice an names.length cn, .slice ac cls.length cc, .slice al levels.length cl, .int .i64 code, .int .i64 env] 31)).alloc (.cells #[.int .i64 0, .slice none 0 0, .slice none 0 0, .slice none 0 0, .slice none 0 0, .slice none 0 0, .int .i64 0, .int .i64 0] 31) = W := ⟨_, rfl⟩
  have hsz : (w.alloc (.cells #[.int .i64 kk, .slice ai items.length ci, .slice ap parts.length cp, .slice an names.length cn, .slice ac cls.length cc, .slice al levels.length cl, .int .i64 code, .int .i64 env] 31)).heap.size = w.heap.size + 1 := by simp
  have B1 := Lib.hid (show Below w.heap.size w w1 from hw1 ▸ (below1 w _).alloc (by simp) _)
  have KA := Lib.hid (show w1.heap[w.heap.size]? = some (.cells #[.int .i64 kk, .slice ai items.length ci, .slice ap parts.length cp, .slice an names.length cn, .slice ac cls.length cc, .slice al levels.length cl, .int .i64 code, .int .i64 env] 31 (0, 0)) from hw1 ▸ blk_old (blk_new w _ rfl))
  have KR := Lib.hid (show w1.heap[w.heap.size + 1]? = some (.cells #[.int .i64 0, .slice none 0 0, .slice none 0 0, .slice none 0 0, .slice none 0 0, .slice none 0 0, .int .i64 0, .int .i64 0] 31 (0, 0)) from hw1 ▸ hsz ▸ blk_new (w.alloc (.cells #[.int .i64 kk, .slice ai items.length ci, .slice ap parts.length cp, .slice an names.length cn, .slice ac cls.length cc, .slice al levels.length cl, .int .i64 code, .int .i64 env] 31)) (.cells #[.int .i64 0, .slice none 0 0, .slice none 0 0, .slice none 0 0, .slice none 0 0, .slice none 0 0, .int .i64 0, .int .i64 0] 31) rfl)
  rw [hw1]
  clear hw1 hsz
  with_reducible refine (C1.out _ B1.out).mono ?_
  rintro e w2 ⟨y, rfl, ho, b⟩
  obtain ⟨yk, ya1, yn1, ym1, ya2, yn2, ym2, ya3, yn3, ym3, ya4, yn4, ym4, ya5, yn5, ym5, yc, ye, rfl⟩ := ho.agg
  have B2 := Lib.hid (below_then B1.out b)
  have KR1 := Lib.hid KR.out
  have hr1 := (Array.getElem?_eq_some_iff.1 KR.out).1
  have KR := Lib.hid (blk_below b KR.out)
  have HO := Lib.hid ho
  clear ho b
  obtain ⟨z0, z1, z2, z3, z4, z5, z6, z7⟩ := vec8 KR.out
  obtain ⟨f0, f1, f2, f3, f4, f5, f6, f7⟩ := free8 KR.out
  go_wp2
  exact vec_endS rfl rfl rfl rfl KR.out ⟨_, rfl, (HO.out.put8 hr1 _ _ _ _ _ _ _ _).wide (by omega) (by rw [put8_size]; exact Nat.le_refl _), put8_below B2.out (Nat.le_succ _)⟩
set_option maxHeartbeats 1000000 in
theorem implProductOf (d : Nat) (v : Vec) (val : Value) (drop : Bool) (lo hi : Nat) (w : World) (hv : VecAt lo hi w d v val) (hhi : hi ≤ w.heap.size) (hsm : Small d v) :
    Calls Try.prog 28 #[val, .bool drop] w (ResVS 1 (smyV prodL drop v) (smyS nonNumB v) w) := by
  have C1 := Lib.hid (fun (w1 : World) (hb : Below w.heap.size w w1) => implSmyProd d v val drop lo hi w1 (hv.below hb hhi) (Nat.le_trans hhi hb.size) hsm)
  obtain ⟨VV, hVV⟩ : ∃ V, v = V := ⟨_, rfl⟩
  rw [hVV] at C1 ⊢
  obtain ⟨kk, items, parts, names, cls, levels, code, env⟩ := v
  obtain ⟨d', ai, ci, ap, cp, an, cn, ac, cc, al, cl, ed, rfl, hI, hN, hC, hL, hP⟩ := vecAt_open hv
  clear hv hI hN hC hL hP hsm ed hVV
  go_enter Try.func28, Try.ntmps28
  go_wp2_with fail
  obtain ⟨w1, hw1⟩ : ∃ W, (w.alloc (.cells #[.int .i64 kk, .slice ai items.length ci, .slice ap parts.length cp, .slice an names.length cn, .slice ac cls.length cc, .slice al levels.length cl, .int .i64 code, .int .i64 env] 31)).alloc (.cells #[.int .i64 0, .slice none 0 0, .slice none 0 0, .slice none 0 0, .slice none 0 0, .slice none 0 0, .int .i64 0, .int .i64 0] 31) = W := ⟨_, rfl⟩
  have hsz : (w.alloc (.cells #[.int .i64 kk, .slice ai items.length ci, .slice ap parts.length cp, .slice an names.length cn, .slice ac cls.length cc, .slice al levels.length cl, .int .i64 code, .int .i64 env] 31)).heap.size = w.heap.size + 1 := by simp
  have B1 := Lib.hid (show Below w.heap.size w w1 from hw1 ▸ (below1 w _).alloc (by simp) _)
  have KA := Lib.hid (show w1.heap[w.heap.size]? = some (.cells #[.int .i64 kk, .slice ai items.length ci, .slice ap parts.length cp, .slice an names.length cn, .slice ac cls.length cc, .slice al levels.length cl, .int .i64 code, .int .i64 env] 31 (0, 0)) from hw1 ▸ blk_old (blk_new w _ rfl))
  have KR := Lib.hid (show w1.heap[w.heap.size + 1]? = some (.cells #[.int .i64 0, .slice none 0 0, .slice none 0 0, .slice none 0 0, .slice none 0 0, .slice none 0 0, .int .i64 0, .int .i64 0] 31 (0, 0)) from hw1 ▸ hsz ▸ blk_new (w.alloc (.cells #[.int .i64 kk, .slice ai items.length ci, .slice ap parts.length cp, .slice an names.length cn, .slice ac cls.length cc, .slice al levels.length cl, .int .i64 code, .int .i64 env] 31)) (.cells #[.int .i64 0, .slice none 0 0, .slice none 0 0, .slice none 0 0, .slice none 0 0, .slice none 0 0, .int .i64 0, .int .i64 0] 31) rfl)
  rw [hw1]
  clear hw1 hsz
  with_reducible refine (C1.out _ B1.out).mono ?_
  rintro e w2 ⟨y, rfl, ho, b⟩
  obtain ⟨yk, ya1, yn1, ym1, ya2, yn2, ym2, ya3, yn3, ym3, ya4, yn4, ym4, ya5, yn5, ym5, yc, ye, rfl⟩ := ho.agg
  have B2 := Lib.hid (below_then B1.out b)
  have KR1 := Lib.hid KR.out
  have hr1 := (Array.getElem?_eq_some_iff.1 KR.out).1
  have KR := Lib.hid (blk_below b KR.out)
  have HO := Lib.hid ho
  clear ho b
  obtain ⟨z0, z1, z2, z3, z4, z5, z6, z7⟩ := vec8 KR.out
  obtain ⟨f0, f1, f2, f3, f4, f5, f6, f7⟩ := free8 KR.out
  go_wp2
  exact vec_endS rfl rfl rfl rfl KR.out ⟨_, rfl, (HO.out.put8 hr1 _ _ _ _ _ _ _ _).wide (by omega) (by rw [put8_size]; exact Nat.le_refl _), put8_below B2.out (Nat.le_succ _)⟩
set_option maxHeartbeats 1000000 in
theorem implMeanOf (d : Nat) (v : Vec) (val : Value) (drop : Bool) (lo hi : Nat) (w : World) (hv : VecAt lo hi w d v val) (hhi : hi ≤ w.heap.size) (hsm : Small d v) :
    Calls Try.prog 30 #[val, .bool drop] w (ResVS 1 (smyV meanL drop v) (smyS nonNumB v) w) := by
  have C1 := Lib.hid (fun (w1 : World) (hb : Below w.heap.size w w1) => implSmyMean d v val drop lo hi w1 (hv.below hb hhi) (Nat.le_trans hhi hb.size) hsm)
  obtain ⟨VV, hVV⟩ : ∃ V, v = V := ⟨_, rfl⟩
  rw [hVV] at C1 ⊢
  obtain ⟨kk, items, parts, names, cls, levels, code, env⟩ := v
  obtain ⟨d', ai, ci, ap, cp, an, cn, ac, cc, al, cl, ed, rfl, hI, hN, hC, hL, hP⟩ := vecAt_open hv
  clear hv hI hN hC hL hP hsm ed hVV
  go_enter Try.func30, Try.ntmps30
  go_wp2_with fail
  obtain ⟨w1, hw1⟩ : ∃ W, (w.alloc (.cells #[.int .i64 kk, .slice ai items.length ci, .slice ap parts.length cp, .slice an names.length cn, .slice ac cls.length cc, .slice al levels.length cl, .int .i64 code, .int .i64 env] 31)).alloc (.cells #[.int .i64 0, .slice none 0 0, .slice none 0 0, .slice none 0 0, .slice none 0 0, .slice none 0 0, .int .i64 0, .int .i64 0] 31) = W := ⟨_, rfl⟩
  have hsz : (w.alloc (.cells #[.int .i64 kk, .slice ai items.length ci, .slice ap parts.length cp, .slice an names.length cn, .slice ac cls.length cc, .slice al levels.length cl, .int .i64 code, .int .i64 env] 31)).heap.size = w.heap.size + 1 := by simp
  have B1 := Lib.hid (show Below w.heap.size w w1 from hw1 ▸ (below1 w _).alloc (by simp) _)
  have KA := Lib.hid (show w1.heap[w.heap.size]? = some (.cells #[.int .i64 kk, .slice ai items.length ci, .slice ap parts.length cp, .slice an names.length cn, .slice ac cls.length cc, .slice al levels.length cl, .int .i64 code, .int .i64 env] 31 (0, 0)) from hw1 ▸ blk_old (blk_new w _ rfl))
  have KR := Lib.hid (show w1.heap[w.heap.size + 1]? = some (.cells #[.int .i64 0, .slice none 0 0, .slice none 0 0, .slice none 0 0, .slice none 0 0, .slice none 0 0, .int .i64 0, .int .i64 0] 31 (0, 0)) from hw1 ▸ hsz ▸ blk_new (w.alloc (.cells #[.int .i64 kk, .slice ai items.length ci, .slice ap parts.length cp, .slice an names.length cn, .slice ac cls.length cc, .slice al levels.length cl, .int .i64 code, .int .i64 env] 31)) (.cells #[.int .i64 0, .slice none 0 0, .slice none 0 0, .slice none 0 0, .slice none 0 0, .slice none 0 0, .int .i64 0, .int .i64 0] 31) rfl)
  rw [hw1]
  clear hw1 hsz
  with_reducible refine (C1.out _ B1.out).mono ?_
  rintro e w2 ⟨y, rfl, ho, b⟩
  obtain ⟨yk, ya1, yn1, ym1, ya2, yn2, ym2, ya3, yn3, ym3, ya4, yn4, ym4, ya5, yn5, ym5, yc, ye, rfl⟩ := ho.agg
  have B2 := Lib.hid (below_then B1.out b)
  have KR1 := Lib.hid KR.out
  have hr1 := (Array.getElem?_eq_some_iff.1 KR.out).1
  have KR := Lib.hid (blk_below b KR.out)
  have HO := Lib.hid ho
  clear ho b
  obtain ⟨z0, z1, z2, z3, z4, z5, z6, z7⟩ := vec8 KR.out
  obtain ⟨f0, f1, f2, f3, f4, f5, f6, f7⟩ := free8 KR.out
  go_wp2
  exact vec_endS rfl rfl rfl rfl KR.out ⟨_, rfl, (HO.out.put8 hr1 _ _ _ _ _ _ _ _).wide (by omega) (by rw [put8_size]; exact Nat.le_refl _), put8_below B2.out (Nat.le_succ _)⟩
end Go.Proofs.Ytlnjjjoeblopeaa

/- Chapter 6 of the reference: sums, means. -/
namespace Go.Proofs.Ytlnjjjoeblopeaa
open Go.RowKit
set_option maxRecDepth 100000
set_option linter.unusedVariables false

set_option maxHeartbeats 2000000 in
theorem specSumOf (d : Nat) (v : Vec) (val : Value) (drop : Bool) (lo hi : Nat) (w : World) (hv : VecAt lo hi w d v val) (hhi : hi ≤ w.heap.size) (hsm : Small d v) :
    Calls Try.prog 25 #[val, .bool drop] w (ResVS 1 (smyV sumL drop v) (smyS nonNumB v) w) := by
  have C1 := Lib.hid (fun (w1 : World) (hb : Below w.heap.size w w1) => specTake d v val drop lo hi w1 (hv.below hb hhi) (Nat.le_trans hhi hb.size) hsm)
  obtain ⟨VV, hVV⟩ : ∃ V, v = V := ⟨_, rfl⟩
  rw [hVV] at C1 ⊢
  obtain ⟨kk, items, parts, names, cls, levels, code, env⟩ := v
  obtain ⟨d', ai, ci, ap, cp, an, cn, ac, cc, al, cl, ed, rfl, hI, hN, hC, hL, hP⟩ := vecAt_open hv
  clear hv hI hN hC hL hP hsm ed hVV
  go_enter Try.func25, Try.ntmps25
  go_wp2_with fail
  obtain ⟨w1, hw1⟩ : ∃ W, (w.alloc (.cells #[.int .i64 kk, .slice ai items.length ci, .slice ap parts.length cp, .slice an names.length cn, .slice ac cls.length cc, .slice al levels.length cl, .int .i64 code, .int .i64 env] 31)).alloc (.cells #[.int .i64 0, .slice none 0 0, .slice none 0 0, .slice none 0 0, .slice none 0 0, .slice none 0 0, .int .i64 0, .int .i64 0] 31) = W := ⟨_, rfl⟩
  have hsz : (w.alloc (.cells #[.int .i64 kk, .slice ai items.length ci, .slice ap parts.length cp, .slice an names.length cn, .slice ac cls.length cc, .slice al levels.length cl, .int .i64 code, .int .i64 env] 31)).heap.size = w.heap.size + 1 := by simp
  have B1 := Lib.hid (show Below w.heap.size w w1 from hw1 ▸ (below1 w _).alloc (by simp) _)
  have KA := Lib.hid (show w1.heap[w.heap.size]? = some (.cells #[.int .i64 kk, .slice ai items.length ci, .slice ap parts.length cp, .slice an names.length cn, .slice ac cls.length cc, .slice al levels.length cl, .int .i64 code, .int .i64 env] 31 (0, 0)) from hw1 ▸ blk_old (blk_new w _ rfl))
  have KR := Lib.hid (show w1.heap[w.heap.size + 1]? = some (.cells #[.int .i64 0, .slice none 0 0, .slice none 0 0, .slice none 0 0, .slice none 0 0, .slice none 0 0, .int .i64 0, .int .i64 0] 31 (0, 0)) from hw1 ▸ hsz ▸ blk_new (w.alloc (.cells #[.int .i64 kk, .slice ai items.length ci, .slice ap parts.length cp, .slice an names.length cn, .slice ac cls.length cc, .slice al levels.length cl, .int .i64 code, .int .i64 env] 31)) (.cells #[.int .i64 0, .slice none 0 0, .slice none 0 0, .slice none 0 0, .slice none 0 0, .slice none 0 0, .int .i64 0, .int .i64 0] 31) rfl)
  rw [hw1]
  clear hw1 hsz
  with_reducible refine (C1.out _ B1.out).mono ?_
  rintro e w2 ⟨sv, rfl, hir⟩
  obtain ⟨sa, c, rfl, hit⟩ := hir.items
  have B2 := Lib.hid (below_then B1.out hir.below)
  have KR := Lib.hid (blk_below hir.below KR.out)
  clear hir
  by_cases hs : smyS nonNumB VV = ⟨#[]⟩
  · have XV := Lib.hid (smy_val nonNum_ne hs sumL drop)
    have XS := Lib.hid hs
    have IL := Lib.hid hit
    have hlen : (smyL drop VV).length ≤ 40 := smyL_len drop VV
    have TX := Lib.hid (fun i => (smyL_at drop VV i).t0)
    rw [hs]
    obtain ⟨L, hL⟩ : ∃ L, smyL drop VV = L := ⟨_, rfl⟩
    rw [hL] at XV IL hlen TX ⊢
    clear hL hs hit
    have CS := Lib.hid (specSum6 L sa c w1.heap.size w2.heap.size w2 IL.out (Nat.le_refl _) (by omega) (fun i _ => TX.out i))
    obtain ⟨Z, hZ⟩ : ∃ Z, sumL L = Z := ⟨_, rfl⟩
    rw [hZ] at CS XV
    clear hZ IL TX
    go_wp2_with fail
    with_reducible refine (CS.out).mono ?_
    rintro e w3 ⟨rfl, b⟩
    have B3 := Lib.hid (below_then B2.out b)
    have KR := Lib.hid (blk_below b KR.out)
    clear b
    go_wp2_with fail
    with_reducible refine ((specOne6 Z _)).mono ?_
    rintro e w4 ⟨y, rfl, ho, b⟩
    obtain ⟨yk, ya1, yn1, ym1, ya2, yn2, ym2, ya3, yn3, ym3, ya4, yn4, ym4, ya5, yn5, ym5, yc, ye, rfl⟩ := ho.agg
    have B4 := Lib.hid (below_then B3.out b)
    have hr1 := (Array.getElem?_eq_some_iff.1 KR.out).1
    have KR := Lib.hid (blk_below b KR.out)
    have HO := Lib.hid ho
    have hwz := B3.out.size
    clear ho b
    obtain ⟨z0, z1, z2, z3, z4, z5, z6, z7⟩ := vec8 KR.out
    obtain ⟨f0, f1, f2, f3, f4, f5, f6, f7⟩ := free8 KR.out
    go_wp2
    rw [XV.out, XS.out]
    exact vec_endS rfl rfl rfl rfl KR.out ⟨_, rfl, (HO.out.put8 hr1 _ _ _ _ _ _ _ _).wide (by omega) (by rw [put8_size]; exact Nat.le_refl _), put8_below B4.out (Nat.le_succ _)⟩
  · have XV := Lib.hid (smy_not hs sumL drop).1
    obtain ⟨R, hR⟩ : ∃ R, smyS nonNumB VV = R := ⟨_, rfl⟩
    have XS := Lib.hid hR
    rw [hR] at hs ⊢
    have hRb : (R.toList == []) = false := by have h := str_not hs; rw [ByteArray.toList_eq ⟨#[]⟩] at h; exact h
    clear hs hR
    obtain ⟨z0, z1, z2, z3, z4, z5, z6, z7⟩ := vec8 KR.out
    obtain ⟨f0, f1, f2, f3, f4, f5, f6, f7⟩ := free8 KR.out
    go_wp2
    rw [XV.out, XS.out]
    exact vec_endS rfl rfl rfl rfl KR.out (zeroS _ w _ (put8_below B2.out (Nat.le_succ _)))
set_option maxHeartbeats 2000000 in
theorem specMeanOf (d : Nat) (v : Vec) (val : Value) (drop : Bool) (lo hi : Nat) (w : World) (hv : VecAt lo hi w d v val) (hhi : hi ≤ w.heap.size) (hsm : Small d v) :
    Calls Try.prog 29 #[val, .bool drop] w (ResVS 1 (smyV meanL drop v) (smyS nonNumB v) w) := by
  have C1 := Lib.hid (fun (w1 : World) (hb : Below w.heap.size w w1) => specTake d v val drop lo hi w1 (hv.below hb hhi) (Nat.le_trans hhi hb.size) hsm)
  obtain ⟨VV, hVV⟩ : ∃ V, v = V := ⟨_, rfl⟩
  rw [hVV] at C1 ⊢
  obtain ⟨kk, items, parts, names, cls, levels, code, env⟩ := v
  obtain ⟨d', ai, ci, ap, cp, an, cn, ac, cc, al, cl, ed, rfl, hI, hN, hC, hL, hP⟩ := vecAt_open hv
  clear hv hI hN hC hL hP hsm ed hVV
  go_enter Try.func29, Try.ntmps29
  go_wp2_with fail
  obtain ⟨w1, hw1⟩ : ∃ W, (w.alloc (.cells #[.int .i64 kk, .slice ai items.length ci, .slice ap parts.length cp, .slice an names.length cn, .slice ac cls.length cc, .slice al levels.length cl, .int .i64 code, .int .i64 env] 31)).alloc (.cells #[.int .i64 0, .slice none 0 0, .slice none 0 0, .slice none 0 0, .slice none 0 0, .slice none 0 0, .int .i64 0, .int .i64 0] 31) = W := ⟨_, rfl⟩
  have hsz : (w.alloc (.cells #[.int .i64 kk, .slice ai items.length ci, .slice ap parts.length cp, .slice an names.length cn, .slice ac cls.length cc, .slice al levels.length cl, .int .i64 code, .int .i64 env] 31)).heap.size = w.heap.size + 1 := by simp
  have B1 := Lib.hid (show Below w.heap.size w w1 from hw1 ▸ (below1 w _).alloc (by simp) _)
  have KA := Lib.hid (show w1.heap[w.heap.size]? = some (.cells #[.int .i64 kk, .slice ai items.length ci, .slice ap parts.length cp, .slice an names.length cn, .slice ac cls.length cc, .slice al levels.length cl, .int .i64 code, .int .i64 env] 31 (0, 0)) from hw1 ▸ blk_old (blk_new w _ rfl))
  have KR := Lib.hid (show w1.heap[w.heap.size + 1]? = some (.cells #[.int .i64 0, .slice none 0 0, .slice none 0 0, .slice none 0 0, .slice none 0 0, .slice none 0 0, .int .i64 0, .int .i64 0] 31 (0, 0)) from hw1 ▸ hsz ▸ blk_new (w.alloc (.cells #[.int .i64 kk, .slice ai items.length ci, .slice ap parts.length cp, .slice an names.length cn, .slice ac cls.length cc, .slice al levels.length cl, .int .i64 code, .int .i64 env] 31)) (.cells #[.int .i64 0, .slice none 0 0, .slice none 0 0, .slice none 0 0, .slice none 0 0, .slice none 0 0, .int .i64 0, .int .i64 0] 31) rfl)
  rw [hw1]
  clear hw1 hsz
  with_reducible refine (C1.out _ B1.out).mono ?_
  rintro e w2 ⟨sv, rfl, hir⟩
  obtain ⟨sa, c, rfl, hit⟩ := hir.items
  have B2 := Lib.hid (below_then B1.out hir.below)
  have KR := Lib.hid (blk_below hir.below KR.out)
  clear hir
  by_cases hs : smyS nonNumB VV = ⟨#[]⟩
  · have XV := Lib.hid (smy_val nonNum_ne hs meanL drop)
    have XS := Lib.hid hs
    have IL := Lib.hid hit
    have hlen : (smyL drop VV).length ≤ 40 := smyL_len drop VV
    have TX := Lib.hid (fun i => (smyL_at drop VV i).t0)
    rw [hs]
    obtain ⟨L, hL⟩ : ∃ L, smyL drop VV = L := ⟨_, rfl⟩
    rw [hL] at XV IL hlen TX ⊢
    clear hL hs hit
    have CS := Lib.hid (specSum6 L sa c w1.heap.size w2.heap.size w2 IL.out (Nat.le_refl _) (by omega) (fun i _ => TX.out i))
    have EM := Lib.hid (show meanL L = divI (sumL L) ⟨(L.length : Int), 1, ⟨#[]⟩⟩ by unfold meanL; rw [mkI_int (by omega) (by omega)])
    have CD := Lib.hid (fun W => specDiv (sumL L) ⟨(L.length : Int), 1, ⟨#[]⟩⟩ W (good_sumL L).t0 (Nat.zero_le _))
    rw [← EM.out] at CD
    obtain ⟨n, hn⟩ : ∃ n, L.length = n := ⟨_, rfl⟩
    have CN := Lib.hid (fun W => specNum2 (n : Int) W)
    rw [hn] at CS CD hlen ⊢
    obtain ⟨M, hM⟩ : ∃ Z, meanL L = Z := ⟨_, rfl⟩
    obtain ⟨Z, hZ⟩ : ∃ Z, sumL L = Z := ⟨_, rfl⟩
    rw [hZ] at CS CD
    rw [hM] at CD XV
    clear hZ hM IL TX EM hn
    go_wp2_with fail
    with_reducible refine (CS.out).mono ?_
    rintro e w3 ⟨rfl, b⟩
    have B3 := Lib.hid (below_then B2.out b)
    have KR := Lib.hid (blk_below b KR.out)
    clear b
    go_wp2_with fail
    with_reducible refine (CN.out _).mono ?_
    rintro e w4 ⟨rfl, b⟩
    have B4 := Lib.hid (below_then B3.out b)
    have KR := Lib.hid (blk_below b KR.out)
    clear b
    go_wp2_with fail
    with_reducible refine (CD.out _).mono ?_
    rintro e w5 ⟨rfl, b⟩
    have B5 := Lib.hid (below_then B4.out b)
    have KR := Lib.hid (blk_below b KR.out)
    clear b
    go_wp2_with fail
    with_reducible refine ((specOne6 M _)).mono ?_
    rintro e w6 ⟨y, rfl, ho, b⟩
    obtain ⟨yk, ya1, yn1, ym1, ya2, yn2, ym2, ya3, yn3, ym3, ya4, yn4, ym4, ya5, yn5, ym5, yc, ye, rfl⟩ := ho.agg
    have B6 := Lib.hid (below_then B5.out b)
    have hr1 := (Array.getElem?_eq_some_iff.1 KR.out).1
    have KR := Lib.hid (blk_below b KR.out)
    have HO := Lib.hid ho
    have hwz := B5.out.size
    clear ho b
    obtain ⟨z0, z1, z2, z3, z4, z5, z6, z7⟩ := vec8 KR.out
    obtain ⟨f0, f1, f2, f3, f4, f5, f6, f7⟩ := free8 KR.out
    go_wp2
    rw [XV.out, XS.out]
    exact vec_endS rfl rfl rfl rfl KR.out ⟨_, rfl, (HO.out.put8 hr1 _ _ _ _ _ _ _ _).wide (by omega) (by rw [put8_size]; exact Nat.le_refl _), put8_below B6.out (Nat.le_succ _)⟩
  · have XV := Lib.hid (smy_not hs meanL drop).1
    obtain ⟨R, hR⟩ : ∃ R, smyS nonNumB VV = R := ⟨_, rfl⟩
    have XS := Lib.hid hR
    rw [hR] at hs ⊢
    have hRb : (R.toList == []) = false := by have h := str_not hs; rw [ByteArray.toList_eq ⟨#[]⟩] at h; exact h
    clear hs hR
    obtain ⟨z0, z1, z2, z3, z4, z5, z6, z7⟩ := vec8 KR.out
    obtain ⟨f0, f1, f2, f3, f4, f5, f6, f7⟩ := free8 KR.out
    go_wp2
    rw [XV.out, XS.out]
    exact vec_endS rfl rfl rfl rfl KR.out (zeroS _ w _ (put8_below B2.out (Nat.le_succ _)))
end Go.Proofs.Ytlnjjjoeblopeaa

/- A region that draws its order where two operations that change the world may come up at once: the orders as a tree. -/
namespace Go.Proofs.Ytlnjjjoeblopeaa
set_option maxRecDepth 100000
open Go.RowKit
set_option linter.unusedVariables false

/-- An order, or an order behind which either of two operations comes up. -/
inductive Plan where
  | leaf (r : List (Nat × Bool))
  | fork (r : List (Nat × Bool)) (i : Nat) (p : Plan) (j : Nat) (q : Plan)
def Plan.cons (i : Nat) : Plan → Plan
  | .leaf r => .leaf ((i, false) :: r)
  | .fork r j p k q => .fork ((i, false) :: r) j p k q
def Plan.len : Plan → Nat
  | .leaf r => r.length
  | .fork r _ p _ _ => r.length + (p.len + 1)
section
variable {P : Program} {ops : Array Oper} {Q : Exit → Act → World → Prop} {S : World → Prop}
theorem wp_weak {Q' : Exit → Act → World → Prop} {o : Oper} {a : Act} {w : World} {K : Act → World → Prop} (hP : ∀ c a w, Q' (.panic c) a w → Q (.panic c) a w) (hL : LetsOut Q' → LetsOut Q) (hh : o.wp P a w K Q') : o.wp P a w K Q := by
  unfold Oper.wp at *
  generalize (execOp a.eval o).run P w = r at *
  cases r with
  | ok n w' =>
    cases n <;> simp only [Oper.upon] at hh ⊢ <;>
      first
        | exact hh
        | exact Calls.mono hh (fun e w'' he => by cases e <;> first | exact he | exact hP _ _ _ he | exact hL he)
  | halt x w' => cases x <;> simp only [Oper.upon] at hh ⊢ <;> first | exact hP _ _ _ hh | exact hh
theorem wpOp_weak {Q' : Exit → Act → World → Prop} {i : Nat} {a : Act} {w : World} {K : Act → World → Prop} (hP : ∀ c a w, Q' (.panic c) a w → Q (.panic c) a w) (hL : LetsOut Q' → LetsOut Q) (hh : wpOp P ops Q' i K a w) : wpOp P ops Q i K a w := by
  unfold wpOp at *
  split
  · simpa [*] using hh
  · rename_i o ho
    simp only [ho] at hh
    split
    · rename_i hw; simp only [hw, if_true] at hh; exact hh.imp (wp_weak hP hL) (fun h => ⟨h.1, hL h.2⟩)
    · rename_i hw; simp only [hw] at hh; exact hh
/-- What a fork asks at its end, and Q for all other exits. -/
def forkQ (Q : Exit → Act → World → Prop) (F : Act → World → Prop) : Exit → Act → World → Prop := fun x a w => match x with | .normal => F a w | y => Q y a w
def preOK (ops : Array Oper) : List (Nat × Bool) → Array Bool → Bool
  | [], _ => true
  | (i, true) :: r, listed => Region.free .any ops listed i && (Region.ready .any ops listed).contains i && preOK ops r (listed.setIfInBounds i true)
  | (i, false) :: r, listed => (Region.ready .any ops listed == [i]) && preOK ops r (listed.setIfInBounds i true)
def behind : List (Nat × Bool) → Array Bool → Array Bool
  | [], l => l
  | (i, _) :: r, l => behind r (l.setIfInBounds i true)
def planOK (ops : Array Oper) : Plan → Array Bool → Bool
  | .leaf r, l => schedOK ops r l
  | .fork r i p j q, l => preOK ops r l && (Region.ready .any ops (behind r l) == [i, j]) && !lastK ops i && !lastK ops j && Nat.beq p.len q.len && planOK ops p ((behind r l).setIfInBounds i true) && planOK ops q ((behind r l).setIfInBounds j true)
def seqP (P : Program) (ops : Array Oper) (Q : Exit → Act → World → Prop) (S : World → Prop) : Plan → Act → World → Prop
  | .leaf r, a, w => seqH P ops Q S r a w
  | .fork r i p j q, a, w => seqH P ops (forkQ Q fun a' w' => S w' ∧ wpOp P ops Q i (fun b v => (lastK ops i = true ∨ S v) ∧ seqP P ops Q S p b v) a' w' ∧ wpOp P ops Q j (fun b v => (lastK ops j = true ∨ S v) ∧ seqP P ops Q S q b v) a' w') S r a w
theorem pre_nil {r : List (Nat × Bool)} {l : Array Bool} (h : preOK ops r l = true) (hr : Region.ready .any ops l = []) : r = [] := by
  match r, h with
  | [], _ => rfl
  | (i, true) :: r, h => simp [preOK, hr] at h
  | (i, false) :: r, h => simp [preOK, hr] at h
theorem pre_sound {Q' : Exit → Act → World → Prop} (hs : Region.noSelect ops = true) (hQ : ∀ c a d v w, Q (.panic c) (Act.put a (some d) v) w → Q (.panic c) a w) (hQQ : ∀ c a w, Q' (.panic c) a w → Q (.panic c) a w) (hLL : LetsOut Q' → LetsOut Q) (n : Nat) :
    ∀ (r : List (Nat × Bool)) (listed : Array Bool) (a : Act) (w : World), preOK ops r listed = true → (r = [] ∨ S w) → seqH P ops Q' S r a w → (∀ a' w', Q' .normal a' w' → wpAnyL P ops Q S n (behind r listed) a' w') → wpAnyL P ops Q S (r.length + n) listed a w
  | [], listed, a, w, h, _, hq, hn => by
    rw [show ([] : List (Nat × Bool)).length + n = n by simp]
    exact hn a w hq
  | (i, true) :: r, listed, a, w, h, hS, hq, hn => by
    simp only [preOK, Bool.and_eq_true] at h
    obtain ⟨o, v, d, ho, hd, hy, hq⟩ := hq
    have hS := hS.resolve_left (by simp)
    have := pre_sound hs hQ hQQ hLL n r _ _ _ h.2 (.inr hS) hq hn
    rw [show ((i, true) :: r).length + n = (r.length + n) + 1 by simp; omega]
    exact takeL ho hs (fun c a w => by rw [hd]; exact hQ c a _ _ w) _ _ _ _ h.1.1 (by simpa using h.1.2) hy hS (by rw [hd]; exact this)
  | (i, false) :: r, listed, a, w, h, hS, hq, hn => by
    simp only [preOK, Bool.and_eq_true, beq_iff_eq] at h
    rw [show ((i, false) :: r).length + n = (r.length + n) + 1 by simp; omega]
    refine ⟨fun h0 => absurd (h.1.symm.trans h0) (by simp), fun j hj => ?_⟩
    have hji := hj
    rw [h.1] at hji
    obtain rfl : j = i := by simpa using hji
    change wpOp P ops Q' j (fun a' w' => (lastK ops j = true ∨ S w') ∧ seqH P ops Q' S r a' w') a w at hq
    have hq := wpOp_weak hQQ hLL hq
    refine wpOp_mono (fun a' w' ⟨h1, h2⟩ => ⟨h1, pre_sound hs hQ hQQ hLL n r _ _ _ h.2 ?_ h2 hn⟩) hq
    exact h1.imp (fun hl => pre_nil h.2 (lastK_none hl hj)) id
theorem plan_sound (hs : Region.noSelect ops = true) (hQ : ∀ c a d v w, Q (.panic c) (Act.put a (some d) v) w → Q (.panic c) a w) :
    ∀ (p : Plan) (listed : Array Bool) (a : Act) (w : World), planOK ops p listed = true → S w → seqP P ops Q S p a w → wpAnyL P ops Q S p.len listed a w
  | .leaf r, listed, a, w, h, hS, hq => seq_sound hs hQ r listed a w h (.inr hS) hq
  | .fork r i p j q, listed, a, w, h, hS, hq => by
    simp only [planOK, Bool.and_eq_true, beq_iff_eq, Bool.not_eq_true'] at h
    obtain ⟨⟨⟨⟨⟨⟨h1, h2⟩, h3⟩, h4⟩, h5⟩, h6⟩, h7⟩ := h
    have h5 := Nat.eq_of_beq_eq_true h5
    refine pre_sound (Q' := forkQ Q _) hs hQ (fun c a w h => h) (fun h => h) (p.len + 1) r listed a w h1 (.inr hS) hq (fun a' w' hf => ?_)
    obtain ⟨g1, g2, g3⟩ := hf
    refine ⟨fun h0 => absurd (h2.symm.trans h0) (by simp), fun k hk => ?_⟩
    rw [h2] at hk
    simp only [List.mem_cons, List.not_mem_nil, or_false] at hk
    rcases hk with rfl | rfl
    · exact wpOp_mono (fun b v hv => ⟨hv.1, plan_sound hs hQ p _ _ _ h6 (hv.1.resolve_left (by rw [h3]; simp)) hv.2⟩) g2
    · rw [h5]
      exact wpOp_mono (fun b v hv => ⟨hv.1, plan_sound hs hQ q _ _ _ h7 (hv.1.resolve_left (by rw [h4]; simp)) hv.2⟩) g3
/-- RunE over a plan. -/
def RunT (P : Program) (ops : Array Oper) (Q : Exit → Act → World → Prop) (S : World → Prop) : Plan → Act → List (Nat × Value) → World → Prop
  | .leaf r, a, e, w => RunE P ops Q S r a e w
  | .fork r i p j q, a, e, w => RunE P ops (forkQ Q fun a' w' => S w' ∧ wpOp P ops Q i (fun b v => (lastK ops i = true ∨ S v) ∧ seqP P ops Q S p b v) a' w' ∧ wpOp P ops Q j (fun b v => (lastK ops j = true ∨ S v) ∧ seqP P ops Q S q b v) a' w') S r a e w
theorem RunT.out {p : Plan} {a : Act} {e : List (Nat × Value)} {w : World} (h : RunT P ops Q S p a e w) (hk : keysIn a.tmps.size e) : seqP P ops Q S p (putAll a e) w := by
  cases p with
  | leaf r => exact RunE.out h hk
  | fork r i p j q => exact RunE.out h hk
/-- An operation ahead of a plan. -/
theorem cons_wp {i : Nat} {p : Plan} {a : Act} {w : World} (hl : lastK ops i = false) (h : seqP P ops Q S (p.cons i) a w) : wpOp P ops Q i (fun b v => (lastK ops i = true ∨ S v) ∧ seqP P ops Q S p b v) a w := by
  cases p with
  | leaf r => exact h
  | fork r j p k q => exact wpOp_weak (fun c a w h => h) (fun h => h) h
/-- The end of a fork's first part: both ways. -/
theorem run_fork {i j : Nat} {p q : Plan} {a : Act} {e : List (Nat × Value)} {w : World} (hS : S w) (hi : lastK ops i = false) (hj : lastK ops j = false) (h1 : RunT P ops Q S (p.cons i) a e w) (h2 : RunT P ops Q S (q.cons j) a e w) :
    RunE P ops (forkQ Q fun a' w' => S w' ∧ wpOp P ops Q i (fun b v => (lastK ops i = true ∨ S v) ∧ seqP P ops Q S p b v) a' w' ∧ wpOp P ops Q j (fun b v => (lastK ops j = true ∨ S v) ∧ seqP P ops Q S q b v) a' w') S [] a e w :=
  ⟨fun hk => ⟨hS, cons_wp hi (h1.out hk), cons_wp hj (h2.out hk)⟩⟩
theorem run_regionT {id : Nat} {ops' : Array Oper} {a : Act} {w : World} (p : Plan) (hops : ops' = ops) (hm : P.follows .mixedOrders = true) (hs : Region.noSelect ops = true) (hlen : Nat.beq p.len ops.size = true)
    (hsch : planOK ops p (Array.replicate ops.size false) = true) (hQ : ∀ c a d v w, Q (.panic c) (Act.put a (some d) v) w → Q (.panic c) a w) (hS : S w.drew)
    (h : RunT P ops Q S p a [] w.drew) : (Code.region id ops' true).wp P Q a w := by
  subst hops
  refine wp_region_any hm (wpAny_of_L (S := S) _ _ _ _ ?_)
  have hl := Nat.eq_of_beq_eq_true hlen
  show wpAnyL P ops' Q S ops'.size (Array.replicate ops'.size false) a w.drew
  generalize Array.replicate ops'.size false = L at hsch ⊢
  rw [← hl]
  exact plan_sound hs hQ p _ _ _ hsch hS (h.out (fun p hp => by cases hp))
end
/-- A new variable of type Vector, of type Item. -/
theorem new_vec (w : World) : (Instr.alloc 31 true (.tuple #[])).run Try.prog w = .ok (.pointer (some ⟨w.heap.size, 0, none⟩)) (w.alloc (.cells #[.int .i64 0, .slice none 0 0, .slice none 0 0, .slice none 0 0, .slice none 0 0, .slice none 0 0, .int .i64 0, .int .i64 0] 31)) := by
  kernel_rfl
theorem new_item (w : World) : (Instr.alloc 66 true (.tuple #[])).run Try.prog w = .ok (.pointer (some ⟨w.heap.size, 0, none⟩)) (w.alloc (.cells #[.int .i64 0, .int .i64 0, .string ⟨#[]⟩] 66)) := by
  kernel_rfl
section
variable {P : Program} {ops : Array Oper} {Q : Exit → Act → World → Prop} {S : World → Prop}
variable {r : List (Nat × Bool)} {a : Act} {e : List (Nat × Value)} {w : World} {i d : Nat} {g : Option (Nat × Bool)}
/-- A new variable, wherever it comes up. -/
theorem run_new {t : TypeId} {C : Array Value} (ho : opAt ops i = some (some d, .alloc t, g)) (hd : Nat.blt d a.tmps.size = true) (hw : wantE ops a e g = some true)
    (hn : ∀ v : World, (Instr.alloc t true (.tuple #[])).run P v = .ok (.pointer (some ⟨v.heap.size, 0, none⟩)) (v.alloc (.cells C t)))
    (h : ∀ W n, W = w.alloc (.cells C t) → n = w.heap.size → S W ∧ RunE P ops Q S r a ((d, .pointer (some ⟨n, 0, none⟩)) :: e) W) : RunE P ops Q S ((i, false) :: r) a e w := by
  obtain ⟨hS, hR⟩ := h _ _ rfl rfl
  exact run_eff (op := .alloc t) ho hd hw (fun o h1 => by unfold execOp; rw [h1]; exact run_v (hn w)) hS hR
end
section
variable {P : Program} {ops : Array Oper} {Q : Exit → Act → World → Prop} {S : World → Prop}
variable {r : List (Nat × Bool)} {a : Act} {e : List (Nat × Value)} {w : World} {i d : Nat} {g : Option (Nat × Bool)}
/-- The larger one of two ints. -/
theorem run_max2 {x y : Operand} {ats : Array TypeId} {p q z : Int} (ho : opAt ops i = some (some d, .call { callee := .builtin .max, args := [x, y].toArray, argTypes := ats }, g)) (hd : Nat.blt d a.tmps.size = true)
    (hw : wantE ops a e g = some true) (hx : lookO a e x = .int .i64 p) (hy : lookO a e y = .int .i64 q) (hz : (if q > p then q else p) = z)
    (h : RunE P ops Q S r a ((d, .int .i64 z) :: e) w) : RunE P ops Q S ((i, true) :: r) a e w :=
  run_yield ho hd hw (fun o w' h1 _ => by
    unfold execOp; rw [h1]
    have hx' : [x, y].toArray.map (lookO a e) = #[.int .i64 p, .int .i64 q] := by simp [hx, hy]
    have key : ∀ cs, (builtin .max ats o.type cs ([x, y].toArray.map (lookO a e))).run P w' = .ok (.value (.int .i64 z)) w' := fun cs => by
      rw [hx']
      show (do pure (.value (← Builtin.max_ ats o.type #[.int .i64 p, .int .i64 q])) : Sem Next).run P w' = _
      refine run_v ?_
      rw [run_max_int2, hz]
    exact key #[]) h
end
/-- A vector stored whole into a block that holds one. -/
theorem store_vec8 {w : World} {b : Nat} {z0 z1 z2 z3 z4 z5 z6 z7 c0 c1 c2 c3 c4 c5 c6 c7 : Value} (h : w.heap[b]? = some (.cells #[z0, z1, z2, z3, z4, z5, z6, z7] 31 (0, 0))) (h1 : (#[c0, c1, c2, c3, c4, c5, c6, c7] : Array Value).all (·.oneCell') = true) :
    (Instr.storeAt 31 (.pointer (some ⟨b, 0, none⟩)) (.agg #[c0, c1, c2, c3, c4, c5, c6, c7])).run Try.prog w = .ok () (w.setRow b #[c0, c1, c2, c3, c4, c5, c6, c7]) := by
  have e := run_storeVar_row (P := Try.prog) w b _ 31 #[z0, z1, z2, z3, z4, z5, z6, z7] #[c0, c1, c2, c3, c4, c5, c6, c7] h infoVec rfl h1
  simp only [Instr.storeAt, Instr.sureAddr, Sem.run_bind, Sem.run_pure, Result.andThen_ok, e]
theorem Own.row {d : Nat} {V : Vec} {y : Value} {lo hi g : Nat} {c : Array Value} {w : World} (h : Own d V y lo hi w) (hg : g < lo) : Own d V y lo hi (w.setRow g c) := by
  obtain ⟨F, q1, q2, q3⟩ := h.out
  exact ⟨F, q1.kept _ _ _ _ (fun b hb => row_old rfl (by have := (q3 b hb).1; omega)), q2, q3⟩
theorem row_size (w : World) (g : Nat) (c : Array Value) : w.heap.size ≤ (w.setRow g c).heap.size := (below_row (Below.refl 0 w) (Nat.zero_le _) c).size
/-- A block that was made in a region. -/
structure NewB (b : Nat) (t : TypeId) (C : Array Value) (w : World) : Prop where
  out : w.heap[b]? = some (.cells C t (0, 0))
theorem NewB.keep {b : Nat} {t : TypeId} {C : Array Value} {w w1 : World} (h : NewB b t C w) (hb : Below w.heap.size w w1) : NewB b t C w1 := ⟨blk_below hb h.out⟩
end Go.Proofs.Ytlnjjjoeblopeaa

/- The reference's differences (the region draws its order). -/
namespace Go.Proofs.Ytlnjjjoeblopeaa
set_option maxRecDepth 100000
open Go.RowKit
set_option linter.unusedVariables false

set_option maxHeartbeats 2000000 in
theorem specSub (x y : It) (w : World) (hx : x.t.size ≤ 9223372036854775807) (hy : y.t.size ≤ 9223372036854775807) :
    Calls Try.prog 90 #[.agg #[.int .i64 x.n, .int .i64 x.d, .string x.t], .agg #[.int .i64 y.n, .int .i64 y.d, .string y.t]] w fun e w' => e = .returned (.agg #[.int .i64 (subI x y).n, .int .i64 (subI x y).d, .string (subI x y).t]) ∧ Below w.heap.size w w' := by
  have X := Lib.hid (show subI x y = addI x (negI y) from rfl)
  have ht : (negI y).t.size ≤ 9223372036854775807 := by rw [negI_t]; decide
  obtain ⟨z, hz⟩ : ∃ z, negI y = z := ⟨_, rfl⟩
  have C := Lib.hid (hz ▸ specNeg y)
  rw [hz] at X ht
  clear hz
  have H := Lib.hid ht
  clear ht
  go_enter Try.func90, Try.ntmps90
  go_wp2
  go_region_with (first
    | (go_at_call 136; refine (C.out _ hy).mono ?_; rintro e w1 ⟨rfl, hb⟩; obtain ⟨hc, hf⟩ := bcell hb; have hz : w.heap.size + 2 < w1.heap.size := (by have := hb.size; simp at this; omega); have B1 := Lib.hid (below_then (below_drew' (below3 w _ _ _)) hb); have G := Lib.hid (blk_below (g := w.heap.size + 2) hb (blk_drew (blk_new _ _ (by simp)))); clear hb)
    | (go_at_call 91; refine (specAdd x z _ hx H.out).mono ?_; rintro e w2 ⟨rfl, hb⟩; obtain ⟨hc2, hf2⟩ := bcell hb; have B2 := Lib.hid (below_then B1.out hb); have G2 := Lib.hid (blk_below hb G.out); clear hb))
  all_goals
    go_wp2
    rw [X.out]
    exact item_ret rfl rfl rfl G2.out ⟨rfl, below_three B2.out (by omega) _ _ _⟩
end Go.Proofs.Ytlnjjjoeblopeaa

/- Chapter 6 of the reference: products, variances. -/
namespace Go.Proofs.Ytlnjjjoeblopeaa
open Go.RowKit
set_option maxRecDepth 100000
set_option linter.unusedVariables false

theorem good_sqI (m x y : It) : GoodI (sqI m x y) := good_addI _ _
set_option maxHeartbeats 2000000 in
theorem specProductOf (d : Nat) (v : Vec) (val : Value) (drop : Bool) (lo hi : Nat) (w : World) (hv : VecAt lo hi w d v val) (hhi : hi ≤ w.heap.size) (hsm : Small d v) :
    Calls Try.prog 27 #[val, .bool drop] w (ResVS 1 (smyV prodL drop v) (smyS nonNumB v) w) := by
  have C1 := Lib.hid (fun (w1 : World) (hb : Below w.heap.size w w1) => specTake d v val drop lo hi w1 (hv.below hb hhi) (Nat.le_trans hhi hb.size) hsm)
  obtain ⟨VV, hVV⟩ : ∃ V, v = V := ⟨_, rfl⟩
  rw [hVV] at C1 ⊢
  obtain ⟨kk, items, parts, names, cls, levels, code, env⟩ := v
  obtain ⟨d', ai, ci, ap, cp, an, cn, ac, cc, al, cl, ed, rfl, hI, hN, hC, hL, hP⟩ := vecAt_open hv
  clear hv hI hN hC hL hP hsm ed hVV
  go_enter Try.func27, Try.ntmps27
  go_wp2_with fail
  obtain ⟨w1, hw1⟩ : ∃ W, (w.alloc (.cells #[.int .i64 kk, .slice ai items.length ci, .slice ap parts.length cp, .slice an names.length cn, .slice ac cls.length cc, .slice al levels.length cl, .int .i64 code, .int .i64 env] 31)).alloc (.cells #[.int .i64 0, .slice none 0 0, .slice none 0 0, .slice none 0 0, .slice none 0 0, .slice none 0 0, .int .i64 0, .int .i64 0] 31) = W := ⟨_, rfl⟩
  have hsz : (w.alloc (.cells #[.int .i64 kk, .slice ai items.length ci, .slice ap parts.length cp, .slice an names.length cn, .slice ac cls.length cc, .slice al levels.length cl, .int .i64 code, .int .i64 env] 31)).heap.size = w.heap.size + 1 := by simp
  have B1 := Lib.hid (show Below w.heap.size w w1 from hw1 ▸ (below1 w _).alloc (by simp) _)
  have KA := Lib.hid (show w1.heap[w.heap.size]? = some (.cells #[.int .i64 kk, .slice ai items.length ci, .slice ap parts.length cp, .slice an names.length cn, .slice ac cls.length cc, .slice al levels.length cl, .int .i64 code, .int .i64 env] 31 (0, 0)) from hw1 ▸ blk_old (blk_new w _ rfl))
  have KR := Lib.hid (show w1.heap[w.heap.size + 1]? = some (.cells #[.int .i64 0, .slice none 0 0, .slice none 0 0, .slice none 0 0, .slice none 0 0, .slice none 0 0, .int .i64 0, .int .i64 0] 31 (0, 0)) from hw1 ▸ hsz ▸ blk_new (w.alloc (.cells #[.int .i64 kk, .slice ai items.length ci, .slice ap parts.length cp, .slice an names.length cn, .slice ac cls.length cc, .slice al levels.length cl, .int .i64 code, .int .i64 env] 31)) (.cells #[.int .i64 0, .slice none 0 0, .slice none 0 0, .slice none 0 0, .slice none 0 0, .slice none 0 0, .int .i64 0, .int .i64 0] 31) rfl)
  rw [hw1]
  clear hw1 hsz
  with_reducible refine (C1.out _ B1.out).mono ?_
  rintro e w2 ⟨sv, rfl, hir⟩
  obtain ⟨sa, c, rfl, hit⟩ := hir.items
  have B2 := Lib.hid (below_then B1.out hir.below)
  have KR := Lib.hid (blk_below hir.below KR.out)
  clear hir
  by_cases hs : smyS nonNumB VV = ⟨#[]⟩
  · have XV := Lib.hid (smy_val nonNum_ne hs prodL drop)
    have XS := Lib.hid hs
    have IL := Lib.hid hit
    have hlen : (smyL drop VV).length ≤ 40 := smyL_len drop VV
    have TX := Lib.hid (fun i => (smyL_at drop VV i).t0)
    rw [hs]
    obtain ⟨L, hL⟩ : ∃ L, smyL drop VV = L := ⟨_, rfl⟩
    rw [hL] at XV IL hlen TX ⊢
    clear hL hs hit
    have AI := Lib.hid (fun (k : Nat) (hk : k < L.length) => IL.out.at_ hk)
    have E0 := Lib.hid (show (L.take 0).foldl mulI (mkI 1 1) = ⟨1, 1, ⟨#[]⟩⟩ by rw [fold_zero]; exact mkI_int (by decide) (by decide))
    have FS := Lib.hid (fun k (hk : k < L.length) => fold_one mulI (mkI 1 1) hk)
    have FF := Lib.hid (fold_full mulI (mkI 1 1) L)
    have GT := Lib.hid (fun k => (good_fold good_mulI (good_mkI 1 1) (L.take k)).t0)
    obtain ⟨n, hn⟩ : ∃ n, L.length = n := ⟨_, rfl⟩
    rw [hn] at AI FS FF hlen ⊢
    obtain ⟨Z, hZ⟩ : ∃ Z, L.foldl mulI (mkI 1 1) = Z := ⟨_, rfl⟩
    rw [hZ] at FF
    have XV := Lib.hid (show smyV prodL drop VV = vecOf 2 [Z] by rw [XV.out, ← hZ]; rfl)
    clear hZ hn
    obtain ⟨f, hf⟩ : ∃ f : Nat → It, (fun k => (L.take k).foldl mulI (mkI 1 1)) = f := ⟨_, rfl⟩
    have hfk : ∀ k, (L.take k).foldl mulI (mkI 1 1) = f k := fun k => by rw [← hf]
    rw [hfk] at E0 FF
    have FS := Lib.hid (fun k (hk : k < n) => (by rw [← hfk, ← hfk]; exact FS.out k hk : f (k + 1) = mulI (f k) (L.getD k noI)))
    have GT := Lib.hid (fun k => (by rw [← hfk]; exact GT.out k : (f k).t.size ≤ 9223372036854775807))
    clear hf hfk IL
    go_wp2_with fail
    with_reducible refine (specNum2 1 _).mono ?_
    rintro e w3 ⟨rfl, b⟩
    have B3 := Lib.hid b
    clear b
    go_wp2
    obtain ⟨g, hg⟩ : ∃ g, w3.heap.size = g := ⟨_, rfl⟩
    have h23 : w2.heap.size ≤ g := hg ▸ B3.out.size
    have ST := Lib.hid (show Below w2.heap.size w2 (w3.alloc (.cells #[.int .i64 (f 0).n, .int .i64 (f 0).d, .string (f 0).t] 66)) ∧ (w3.alloc (.cells #[.int .i64 (f 0).n, .int .i64 (f 0).d, .string (f 0).t] 66)).heap[g]? = some (.cells #[.int .i64 (f 0).n, .int .i64 (f 0).d, .string (f 0).t] 66 (0, 0)) from ⟨B3.out.alloc B3.out.size _, blk_new w3 _ hg.symm⟩)
    rw [E0.out] at ST
    rw [hg]
    clear hg
    go_loopw [9] (fun i wr => ∃ k : Nat, k ≤ n ∧ i = .int .i64 k ∧ Below w2.heap.size w2 wr ∧ wr.heap[g]? = some (.cells #[.int .i64 (f k).n, .int .i64 (f k).d, .string (f k).t] 66 (0, 0))) (fun i _ => n - (intOf i).toNat)
    case atStart => exact ⟨0, Nat.zero_le _, rfl, by rw [E0.out]; exact ST.out⟩
    case round =>
      obtain ⟨k, hk, rfl, hb, hf⟩ := hrel
      have BB := Lib.hid hb
      have KF := Lib.hid hf
      clear hb hf
      have hgr := (Array.getElem?_eq_some_iff.1 KF.out).1
      by_cases hlt : k < n
      · obtain ⟨ba, off, rfl, hbw, c0, c1, c2⟩ := AI.out _ hlt
        have CX2 := Lib.hid (show w2.cell? ⟨ba, off + k * 3 + 2, none⟩ = some (.string (L.getD k noI).t) from c2)
        have CX0 := Lib.hid c0
        have CX1 := Lib.hid c1
        have TK := Lib.hid (TX.out k)
        have NX := Lib.hid (FS.out k hlt)
        obtain ⟨x, hx⟩ : ∃ x, L.getD k noI = x := ⟨_, rfl⟩
        rw [hx] at CX0 CX1 CX2 NX TK
        clear hx c0 c1 c2
        have CO := Lib.hid (fun W => specMul (f k) x W (GT.out k) TK.out)
        go_upto_region 8 with (fail)
        have H := Lib.hid (show HeldC w2 wr ([(g, 66, #[.int .i64 (f k).n, .int .i64 (f k).d, .string (f k).t])]) from heldC_cons ⟨BB.out, (fun _ h => by cases h)⟩ KF.out)
        refine run_region (ops := (opsOf Try.f27 8)) (S := fun w' => HeldC w2 w' ([(g, 66, #[.int .i64 ((f k).n), .int .i64 ((f k).d), .string (f k).t])])) [(0, true), (1, true), (2, true), (3, true), (4, true), (5, false), (6, false)] (by kernel_rfl) (by kernel_rfl) (by kernel_rfl) (by kernel_rfl) (by kernel_rfl) (fun _ _ _ _ _ h => h) (heldC_drew H.out) ?_
        have H := Lib.hid (heldC_drew H.out)
        refine runC_itm (b := g) (show opAt (opsOf Try.f27 8) 0 = some (some 27, .load 66 (.tmp 8), none) from by kernel_rfl) (by kernel_rfl) (by kernel_rfl) (by kernel_rfl) (List.Mem.head _) ?_
        refine run_mov (v := .slice (some ⟨ba, off, none⟩) n c) (show opAt (opsOf Try.f27 8) 1 = some (some 28, .move (.tmp 6), none) from by kernel_rfl) (by kernel_rfl) (by kernel_rfl) (by kernel_rfl) ?_
        refine run_mov (v := .int .i64 ((k : Int))) (show opAt (opsOf Try.f27 8) 2 = some (some 29, .move (.tmp 9), none) from by kernel_rfl) (by kernel_rfl) (by kernel_rfl) (by kernel_rfl) ?_
        refine run_idx3 (n := n) (c := c) (b := ba) (off := off) (k := k) (show opAt (opsOf Try.f27 8) 3 = some (some 30, .indexAddr 28 (.tmp 28) (.tmp 29), none) from by kernel_rfl) (by kernel_rfl) (by kernel_rfl) (by kernel_rfl) (by kernel_rfl) hlt ?_
        refine runC_oldI (b := ba) (j := off + k * 3) (z := x) (show opAt (opsOf Try.f27 8) 4 = some (some 31, .load 66 (.tmp 30), none) from by kernel_rfl) (by kernel_rfl) (by kernel_rfl) (by kernel_rfl) hbw CX0.out CX1.out CX2.out ?_
        refine run_call (args := [.agg #[.int .i64 ((f k).n), .int .i64 ((f k).d), .string (f k).t], .agg #[.int .i64 x.n, .int .i64 x.d, .string x.t]]) (show opAt (opsOf Try.f27 8) 5 = some (some 32, .call { callee := .value (.func 86), args := [(.tmp 27), (.tmp 31)].toArray, argTypes := [66, 66].toArray }, none) from by kernel_rfl) (by kernel_rfl) (by kernel_rfl) (by kernel_rfl) (by kernel_rfl) ?_
        refine (CO.out _).mono ?_
        rintro en rw1 ⟨rfl, hb⟩
        refine ⟨_, rfl, heldC_call H.out hb, ?_⟩
        have H := Lib.hid (heldC_call H.out hb)
        clear hb
        refine run_last (by kernel_rfl) (show opAt (opsOf Try.f27 8) 6 = some (none, .store 66 (.tmp 8) (.tmp 32), none) from by kernel_rfl) (by kernel_rfl) (by kernel_rfl) (by kernel_rfl) (store_item (u := .int .i64 (mulI (f k) x).n) (v := .int .i64 (mulI (f k) x).d) (q := .string (mulI (f k) x).t) (heldC_at H.out (List.Mem.head _)) rfl rfl rfl) ?_
        refine run_done ?_
        simp only [putAll, Act.put, List.setIfInBounds_toArray, List.set_cons_zero, List.set_cons_succ]
        have HF := Lib.hid (heldC_at H.out (List.Mem.head _))
        have HB := Lib.hid H.out.1
        go_wp2
        go_roundw
        case rel => exact ⟨k + 1, by omega, by go_num, below_row HB.out h23 _, by rw [NX.out]; exact row_set HF.out⟩
        case measure => simp [intOf]; omega
      · obtain rfl : k = n := by omega
        have KF := Lib.hid (FF.out ▸ KF.out)
        have BW := Lib.hid (below_then B2.out BB.out)
        have KR := Lib.hid (blk_below BB.out KR.out)
        obtain ⟨⟨y0, y1, y2⟩, _⟩ := three KF.out
        go_wp2_with fail
        with_reducible refine ((specOne6 Z _)).mono ?_
        rintro e w9 ⟨y, rfl, ho, b⟩
        obtain ⟨yk, ya1, yn1, ym1, ya2, yn2, ym2, ya3, yn3, ym3, ya4, yn4, ym4, ya5, yn5, ym5, yc, ye, rfl⟩ := ho.agg
        have B9 := Lib.hid (below_then BW.out b)
        have hr1 := (Array.getElem?_eq_some_iff.1 KR.out).1
        have KR := Lib.hid (blk_below b KR.out)
        have HO := Lib.hid ho
        have hwz := BW.out.size
        clear ho b
        obtain ⟨z0, z1, z2, z3, z4, z5, z6, z7⟩ := vec8 KR.out
        obtain ⟨f0, f1, f2, f3, f4, f5, f6, f7⟩ := free8 KR.out
        go_wp2
        rw [XV.out, XS.out]
        exact vec_endS rfl rfl rfl rfl KR.out ⟨_, rfl, (HO.out.put8 hr1 _ _ _ _ _ _ _ _).wide (by omega) (by rw [put8_size]; exact Nat.le_refl _), put8_below B9.out (Nat.le_succ _)⟩
  · have XV := Lib.hid (smy_not hs prodL drop).1
    obtain ⟨R, hR⟩ : ∃ R, smyS nonNumB VV = R := ⟨_, rfl⟩
    have XS := Lib.hid hR
    rw [hR] at hs ⊢
    have hRb : (R.toList == []) = false := by have h := str_not hs; rw [ByteArray.toList_eq ⟨#[]⟩] at h; exact h
    clear hs hR
    obtain ⟨z0, z1, z2, z3, z4, z5, z6, z7⟩ := vec8 KR.out
    obtain ⟨f0, f1, f2, f3, f4, f5, f6, f7⟩ := free8 KR.out
    go_wp2
    rw [XV.out, XS.out]
    exact vec_endS rfl rfl rfl rfl KR.out (zeroS _ w _ (put8_below B2.out (Nat.le_succ _)))
set_option maxHeartbeats 2000000 in
theorem specVarianceOf (d : Nat) (v : Vec) (val : Value) (drop : Bool) (lo hi : Nat) (w : World) (hv : VecAt lo hi w d v val) (hhi : hi ≤ w.heap.size) (hsm : Small d v) :
    Calls Try.prog 31 #[val, .bool drop] w (ResVS 1 (smyV varL drop v) (smyS nonNumB v) w) := by
  have C1 := Lib.hid (fun (w1 : World) (hb : Below w.heap.size w w1) => specTake d v val drop lo hi w1 (hv.below hb hhi) (Nat.le_trans hhi hb.size) hsm)
  obtain ⟨VV, hVV⟩ : ∃ V, v = V := ⟨_, rfl⟩
  rw [hVV] at C1 ⊢
  obtain ⟨kk, items, parts, names, cls, levels, code, env⟩ := v
  obtain ⟨d', ai, ci, ap, cp, an, cn, ac, cc, al, cl, ed, rfl, hI, hN, hC, hL, hP⟩ := vecAt_open hv
  clear hv hI hN hC hL hP hsm ed hVV
  go_enter Try.func31, Try.ntmps31
  go_wp2_with fail
  obtain ⟨w1, hw1⟩ : ∃ W, (w.alloc (.cells #[.int .i64 kk, .slice ai items.length ci, .slice ap parts.length cp, .slice an names.length cn, .slice ac cls.length cc, .slice al levels.length cl, .int .i64 code, .int .i64 env] 31)).alloc (.cells #[.int .i64 0, .slice none 0 0, .slice none 0 0, .slice none 0 0, .slice none 0 0, .slice none 0 0, .int .i64 0, .int .i64 0] 31) = W := ⟨_, rfl⟩
  have hsz : (w.alloc (.cells #[.int .i64 kk, .slice ai items.length ci, .slice ap parts.length cp, .slice an names.length cn, .slice ac cls.length cc, .slice al levels.length cl, .int .i64 code, .int .i64 env] 31)).heap.size = w.heap.size + 1 := by simp
  have B1 := Lib.hid (show Below w.heap.size w w1 from hw1 ▸ (below1 w _).alloc (by simp) _)
  have KA := Lib.hid (show w1.heap[w.heap.size]? = some (.cells #[.int .i64 kk, .slice ai items.length ci, .slice ap parts.length cp, .slice an names.length cn, .slice ac cls.length cc, .slice al levels.length cl, .int .i64 code, .int .i64 env] 31 (0, 0)) from hw1 ▸ blk_old (blk_new w _ rfl))
  have KR := Lib.hid (show w1.heap[w.heap.size + 1]? = some (.cells #[.int .i64 0, .slice none 0 0, .slice none 0 0, .slice none 0 0, .slice none 0 0, .slice none 0 0, .int .i64 0, .int .i64 0] 31 (0, 0)) from hw1 ▸ hsz ▸ blk_new (w.alloc (.cells #[.int .i64 kk, .slice ai items.length ci, .slice ap parts.length cp, .slice an names.length cn, .slice ac cls.length cc, .slice al levels.length cl, .int .i64 code, .int .i64 env] 31)) (.cells #[.int .i64 0, .slice none 0 0, .slice none 0 0, .slice none 0 0, .slice none 0 0, .slice none 0 0, .int .i64 0, .int .i64 0] 31) rfl)
  rw [hw1]
  clear hw1 hsz
  with_reducible refine (C1.out _ B1.out).mono ?_
  rintro e w2 ⟨sv, rfl, hir⟩
  obtain ⟨sa, c, rfl, hit⟩ := hir.items
  have B2 := Lib.hid (below_then B1.out hir.below)
  have KR := Lib.hid (blk_below hir.below KR.out)
  clear hir
  by_cases hs : smyS nonNumB VV = ⟨#[]⟩
  · have XV := Lib.hid (smy_val nonNum_ne hs varL drop)
    have XS := Lib.hid hs
    have IL := Lib.hid hit
    have hlen : (smyL drop VV).length ≤ 40 := smyL_len drop VV
    have TX := Lib.hid (fun i => (smyL_at drop VV i).t0)
    rw [hs]
    obtain ⟨L, hL⟩ : ∃ L, smyL drop VV = L := ⟨_, rfl⟩
    rw [hL] at XV IL hlen TX ⊢
    clear hL hs hit
    have AI := Lib.hid (fun (k : Nat) (hk : k < L.length) => IL.out.at_ hk)
    have E0 := Lib.hid (show (L.take 0).foldl (sqI (meanL L)) (mkI 0 1) = ⟨0, 1, ⟨#[]⟩⟩ by rw [fold_zero]; exact mkI_int (by decide) (by decide))
    have FS := Lib.hid (fun k (hk : k < L.length) => fold_one (sqI (meanL L)) (mkI 0 1) hk)
    have FF := Lib.hid (fold_full (sqI (meanL L)) (mkI 0 1) L)
    have GT := Lib.hid (fun k => (good_fold (good_sqI (meanL L)) (good_mkI 0 1) (L.take k)).t0)
    have KRw := Lib.hid KR.out
    have CS := Lib.hid (specSum6 L sa c w1.heap.size w2.heap.size w2 IL.out (Nat.le_refl _) (by omega) (fun i _ => TX.out i))
    have EM := Lib.hid (show meanL L = divI (sumL L) ⟨(L.length : Int), 1, ⟨#[]⟩⟩ by unfold meanL; rw [mkI_int (by omega) (by omega)])
    have CD := Lib.hid (fun W => specDiv (sumL L) ⟨(L.length : Int), 1, ⟨#[]⟩⟩ W (good_sumL L).t0 (Nat.zero_le _))
    rw [← EM.out] at CD
    have GM := Lib.hid (good_meanL L).t0
    have EV := Lib.hid (show varL L = divI (L.foldl (sqI (meanL L)) (mkI 0 1)) ⟨((L.length - 1 : Nat) : Int), 1, ⟨#[]⟩⟩ by unfold varL; rw [mkI_int (n := ((L.length - 1 : Nat) : Int)) (by omega) (by omega)])
    have CV := Lib.hid (fun W => specDiv (L.foldl (sqI (meanL L)) (mkI 0 1)) ⟨((L.length - 1 : Nat) : Int), 1, ⟨#[]⟩⟩ W (good_fold (good_sqI (meanL L)) (good_mkI 0 1) L).t0 (Nat.zero_le _))
    rw [← EV.out] at CV
    obtain ⟨V, hV⟩ : ∃ V, varL L = V := ⟨_, rfl⟩
    rw [hV] at CV XV
    obtain ⟨S0, hS0⟩ : ∃ Z, sumL L = Z := ⟨_, rfl⟩
    rw [hS0] at CS CD
    obtain ⟨M, hM⟩ : ∃ Z, meanL L = Z := ⟨_, rfl⟩
    rw [hM] at CD CV E0 FS FF GT GM
    clear EM EV hV hS0 hM
    obtain ⟨n, hn⟩ : ∃ n, L.length = n := ⟨_, rfl⟩
    rw [hn] at AI FS FF hlen CS CD CV ⊢
    have CN := Lib.hid (fun W => specNum2 (n : Int) W)
    have CL := Lib.hid (fun W => specNum2 ((n - 1 : Nat) : Int) W)
    obtain ⟨Z, hZ⟩ : ∃ Z, L.foldl (sqI M) (mkI 0 1) = Z := ⟨_, rfl⟩
    rw [hZ] at FF CV
    clear hZ hn
    obtain ⟨f, hf⟩ : ∃ f : Nat → It, (fun k => (L.take k).foldl (sqI M) (mkI 0 1)) = f := ⟨_, rfl⟩
    have hfk : ∀ k, (L.take k).foldl (sqI M) (mkI 0 1) = f k := fun k => by rw [← hf]
    rw [hfk] at E0 FF
    have FS := Lib.hid (fun k (hk : k < n) => (by rw [← hfk, ← hfk]; exact FS.out k hk : f (k + 1) = (sqI M) (f k) (L.getD k noI)))
    have GT := Lib.hid (fun k => (by rw [← hfk]; exact GT.out k : (f k).t.size ≤ 9223372036854775807))
    clear hf hfk IL
    go_wp2_with fail
    with_reducible refine CS.out.mono ?_
    rintro e w3 ⟨rfl, b⟩
    have B3 := Lib.hid b
    clear b
    go_wp2_with fail
    with_reducible refine (CN.out _).mono ?_
    rintro e w4 ⟨rfl, b⟩
    have B4 := Lib.hid (below_then B3.out b)
    clear b
    go_wp2_with fail
    with_reducible refine (CD.out _).mono ?_
    rintro e w5 ⟨rfl, b⟩
    have B5 := Lib.hid (below_then B4.out b)
    clear b
    go_wp2_with fail
    obtain ⟨w6, hw6⟩ : ∃ W, w5.alloc (.cells #[.int .i64 M.n, .int .i64 M.d, .string M.t] 66) = W := ⟨_, rfl⟩
    have B6 := Lib.hid (show Below w2.heap.size w2 w6 from hw6 ▸ B5.out.alloc B5.out.size _)
    have K8 := Lib.hid (show w6.heap[w5.heap.size]? = some (.cells #[.int .i64 M.n, .int .i64 M.d, .string M.t] 66 (0, 0)) from hw6 ▸ blk_new w5 _ rfl)
    rw [hw6]
    clear hw6
    obtain ⟨g8, hg8⟩ : ∃ g, w5.heap.size = g := ⟨_, rfl⟩
    have h28 : w2.heap.size ≤ g8 := hg8 ▸ B5.out.size
    rw [hg8] at K8 ⊢
    clear hg8
    with_reducible refine (specNum2 0 _).mono ?_
    rintro e w7 ⟨rfl, b⟩
    have B7 := Lib.hid (below_then B6.out b)
    have K8 := Lib.hid (blk_below b K8.out)
    clear b
    go_wp2
    obtain ⟨g9, hg9⟩ : ∃ g, w7.heap.size = g := ⟨_, rfl⟩
    have h29 : w2.heap.size ≤ g9 := hg9 ▸ B7.out.size
    have h89 : g8 < g9 := hg9 ▸ (Array.getElem?_eq_some_iff.1 K8.out).1
    have ST := Lib.hid (show Below w2.heap.size w2 (w7.alloc (.cells #[.int .i64 (f 0).n, .int .i64 (f 0).d, .string (f 0).t] 66)) ∧ (w7.alloc (.cells #[.int .i64 (f 0).n, .int .i64 (f 0).d, .string (f 0).t] 66)).heap[g8]? = some (.cells #[.int .i64 M.n, .int .i64 M.d, .string M.t] 66 (0, 0)) ∧ (w7.alloc (.cells #[.int .i64 (f 0).n, .int .i64 (f 0).d, .string (f 0).t] 66)).heap[g9]? = some (.cells #[.int .i64 (f 0).n, .int .i64 (f 0).d, .string (f 0).t] 66 (0, 0)) from ⟨B7.out.alloc B7.out.size _, blk_old K8.out, blk_new w7 _ hg9.symm⟩)
    rw [E0.out] at ST
    rw [hg9]
    clear hg9
    go_loopw [10] (fun i wr => ∃ k : Nat, k ≤ n ∧ i = .int .i64 k ∧ Below w2.heap.size w2 wr ∧ wr.heap[g8]? = some (.cells #[.int .i64 M.n, .int .i64 M.d, .string M.t] 66 (0, 0)) ∧ wr.heap[g9]? = some (.cells #[.int .i64 (f k).n, .int .i64 (f k).d, .string (f k).t] 66 (0, 0))) (fun i _ => n - (intOf i).toNat)
    case atStart => exact ⟨0, Nat.zero_le _, rfl, by rw [E0.out]; exact ST.out⟩
    case round =>
      obtain ⟨k, hk, rfl, hb, h8, hf⟩ := hrel
      have BB := Lib.hid hb
      have K8 := Lib.hid h8
      have KF := Lib.hid hf
      clear hb hf h8
      have hgr := (Array.getElem?_eq_some_iff.1 KF.out).1
      by_cases hlt : k < n
      · obtain ⟨ba, off, rfl, hbw, c0, c1, c2⟩ := AI.out _ hlt
        have CX2 := Lib.hid (show w2.cell? ⟨ba, off + k * 3 + 2, none⟩ = some (.string (L.getD k noI).t) from c2)
        have CX0 := Lib.hid c0
        have CX1 := Lib.hid c1
        have TK := Lib.hid (TX.out k)
        have NX := Lib.hid (FS.out k hlt)
        obtain ⟨x, hx⟩ : ∃ x, L.getD k noI = x := ⟨_, rfl⟩
        rw [hx] at CX0 CX1 CX2 NX TK
        clear hx c0 c1 c2
        obtain ⟨d, hd⟩ : ∃ d, subI x M = d := ⟨_, rfl⟩
        have GD := Lib.hid (show d.t.size ≤ 9223372036854775807 by rw [← hd]; exact (good_subI x M).t0)
        have NX := Lib.hid (show f (k + 1) = addI (f k) (mulI d d) by rw [NX.out, ← hd]; rfl)
        have CO := Lib.hid (fun W => hd ▸ specSub x M W TK.out GM.out)
        have CM := Lib.hid (fun W => specMul d d W GD.out GD.out)
        have CA := Lib.hid (fun W => specAdd (f k) (mulI d d) W (GT.out k) (good_mulI d d).t0)
        clear hd
        go_upto_region 9 with (fail)
        have H := Lib.hid (show HeldC w2 wr ([(g8, 66, #[.int .i64 M.n, .int .i64 M.d, .string M.t]), (g9, 66, #[.int .i64 (f k).n, .int .i64 (f k).d, .string (f k).t])]) from heldC_cons (heldC_cons ⟨BB.out, (fun _ h => by cases h)⟩ KF.out) K8.out)
        refine run_regionT (ops := (opsOf Try.f31 9)) (S := fun w' => HeldC w2 w' ([(g8, 66, #[.int .i64 M.n, .int .i64 M.d, .string M.t]), (g9, 66, #[.int .i64 ((f k).n), .int .i64 ((f k).d), .string (f k).t])])) (.fork [(0, true), (1, true), (2, true), (3, true), (4, true)] 5 (.leaf [(6, false), (7, false)]) 6 (.leaf [(5, false), (7, false)])) (by kernel_rfl) (by kernel_rfl) (by kernel_rfl) (by kernel_rfl) (by kernel_rfl) (fun _ _ _ _ _ h => h) (heldC_drew H.out) ?_
        have H := Lib.hid (heldC_drew H.out)
        refine run_mov (v := .slice (some ⟨ba, off, none⟩) n c) (show opAt (opsOf Try.f31 9) 0 = some (some 35, .move (.tmp 6), none) from by kernel_rfl) (by kernel_rfl) (by kernel_rfl) (by kernel_rfl) ?_
        refine run_mov (v := .int .i64 ((k : Int))) (show opAt (opsOf Try.f31 9) 1 = some (some 36, .move (.tmp 10), none) from by kernel_rfl) (by kernel_rfl) (by kernel_rfl) (by kernel_rfl) ?_
        refine run_idx3 (n := n) (c := c) (b := ba) (off := off) (k := k) (show opAt (opsOf Try.f31 9) 2 = some (some 37, .indexAddr 28 (.tmp 35) (.tmp 36), none) from by kernel_rfl) (by kernel_rfl) (by kernel_rfl) (by kernel_rfl) (by kernel_rfl) hlt ?_
        refine runC_oldI (b := ba) (j := off + k * 3) (z := x) (show opAt (opsOf Try.f31 9) 3 = some (some 38, .load 66 (.tmp 37), none) from by kernel_rfl) (by kernel_rfl) (by kernel_rfl) (by kernel_rfl) hbw CX0.out CX1.out CX2.out ?_
        refine runC_itm (b := g8) (show opAt (opsOf Try.f31 9) 4 = some (some 39, .load 66 (.tmp 8), none) from by kernel_rfl) (by kernel_rfl) (by kernel_rfl) (by kernel_rfl) (List.Mem.head _) ?_
        refine run_fork H.out (by kernel_rfl) (by kernel_rfl) ?_ ?_
        · refine run_call (args := [.agg #[.int .i64 x.n, .int .i64 x.d, .string x.t], .agg #[.int .i64 M.n, .int .i64 M.d, .string M.t]]) (show opAt (opsOf Try.f31 9) 5 = some (some 40, .call { callee := .value (.func 90), args := [(.tmp 38), (.tmp 39)].toArray, argTypes := [66, 66].toArray }, none) from by kernel_rfl) (by kernel_rfl) (by kernel_rfl) (by kernel_rfl) (by kernel_rfl) ?_
          refine (CO.out _).mono ?_
          rintro en rw1 ⟨rfl, hb⟩
          refine ⟨_, rfl, heldC_call H.out hb, ?_⟩
          have H := Lib.hid (heldC_call H.out hb)
          clear hb
          refine run_new (C := #[.int .i64 0, .int .i64 0, .string ⟨#[]⟩]) (show opAt (opsOf Try.f31 9) 6 = some (some 11, .alloc 66, none) from by kernel_rfl) (by kernel_rfl) (by kernel_rfl) new_item (fun W6 n6 hW6 hn6 => ?_)
          subst hW6
          refine ⟨heldC_call H.out (below1 _ _), ?_⟩
          have N6 := Lib.hid (⟨blk_new _ _ hn6⟩ : NewB n6 66 #[.int .i64 0, .int .i64 0, .string ⟨#[]⟩] _)
          have G6 := Lib.hid (by rw [hn6]; exact H.out.1.size : w2.heap.size ≤ n6)
          have F6_0 := Lib.hid (by rw [hn6]; exact (Array.getElem?_eq_some_iff.1 (heldC_at H.out (List.Mem.head _))).1 : g8 < n6)
          have F6_1 := Lib.hid (by rw [hn6]; exact (Array.getElem?_eq_some_iff.1 (heldC_at H.out (List.Mem.tail _ (List.Mem.head _)))).1 : g9 < n6)
          have H := Lib.hid (heldC_call H.out (below1 _ (.cells #[.int .i64 0, .int .i64 0, .string ⟨#[]⟩] 66)))
          clear hn6
          refine run_last (by kernel_rfl) (show opAt (opsOf Try.f31 9) 7 = some (none, .store 66 (.tmp 11) (.tmp 40), none) from by kernel_rfl) (by kernel_rfl) (by kernel_rfl) (by kernel_rfl) (store_item (u := .int .i64 d.n) (v := .int .i64 d.d) (q := .string d.t) N6.out.out rfl rfl rfl) ?_
          refine run_done ?_
          simp only [putAll, Act.put, List.setIfInBounds_toArray, List.set_cons_zero, List.set_cons_succ]
          have H8 := Lib.hid (heldC_at H.out (List.Mem.head _))
          have H9 := Lib.hid (heldC_at H.out (List.Mem.tail _ (List.Mem.head _)))
          have F60 := F6_0.out
          have F61 := F6_1.out
          have H := Lib.hid (show HeldC w2 _ ([(n6, 66, #[.int .i64 d.n, .int .i64 d.d, .string d.t]), (g9, 66, #[.int .i64 ((f k).n), .int .i64 ((f k).d), .string (f k).t]), (g8, 66, #[.int .i64 M.n, .int .i64 M.d, .string M.t])]) from heldC_cons (heldC_cons (heldC_cons ⟨below_row H.out.1 G6.out #[.int .i64 d.n, .int .i64 d.d, .string d.t], (fun _ h => by cases h)⟩ (row_old H8.out (by omega))) (row_old H9.out (by omega))) (row_set N6.out.out))
          go_upto_region 10 with (fail)
          refine run_region (ops := (opsOf Try.f31 10)) (S := fun w' => HeldC w2 w' ([(n6, 66, #[.int .i64 d.n, .int .i64 d.d, .string d.t]), (g9, 66, #[.int .i64 ((f k).n), .int .i64 ((f k).d), .string (f k).t]), (g8, 66, #[.int .i64 M.n, .int .i64 M.d, .string M.t])])) [(0, true), (1, true), (2, true), (3, false), (4, false), (5, false)] (by kernel_rfl) (by kernel_rfl) (by kernel_rfl) (by kernel_rfl) (by kernel_rfl) (fun _ _ _ _ _ h => h) (heldC_drew H.out) ?_
          have H := Lib.hid (heldC_drew H.out)
          refine runC_itm (b := g9) (show opAt (opsOf Try.f31 10) 0 = some (some 41, .load 66 (.tmp 9), none) from by kernel_rfl) (by kernel_rfl) (by kernel_rfl) (by kernel_rfl) (List.Mem.tail _ (List.Mem.head _)) ?_
          refine runC_itm (b := n6) (show opAt (opsOf Try.f31 10) 1 = some (some 42, .load 66 (.tmp 11), none) from by kernel_rfl) (by kernel_rfl) (by kernel_rfl) (by kernel_rfl) (List.Mem.head _) ?_
          refine runC_itm (b := n6) (show opAt (opsOf Try.f31 10) 2 = some (some 43, .load 66 (.tmp 11), none) from by kernel_rfl) (by kernel_rfl) (by kernel_rfl) (by kernel_rfl) (List.Mem.head _) ?_
          refine run_call (args := [.agg #[.int .i64 d.n, .int .i64 d.d, .string d.t], .agg #[.int .i64 d.n, .int .i64 d.d, .string d.t]]) (show opAt (opsOf Try.f31 10) 3 = some (some 44, .call { callee := .value (.func 86), args := [(.tmp 42), (.tmp 43)].toArray, argTypes := [66, 66].toArray }, none) from by kernel_rfl) (by kernel_rfl) (by kernel_rfl) (by kernel_rfl) (by kernel_rfl) ?_
          refine (CM.out _).mono ?_
          rintro en rv1 ⟨rfl, hb⟩
          refine ⟨_, rfl, heldC_call H.out hb, ?_⟩
          have H := Lib.hid (heldC_call H.out hb)
          clear hb
          refine run_call (args := [.agg #[.int .i64 ((f k).n), .int .i64 ((f k).d), .string (f k).t], .agg #[.int .i64 (mulI d d).n, .int .i64 (mulI d d).d, .string (mulI d d).t]]) (show opAt (opsOf Try.f31 10) 4 = some (some 45, .call { callee := .value (.func 91), args := [(.tmp 41), (.tmp 44)].toArray, argTypes := [66, 66].toArray }, none) from by kernel_rfl) (by kernel_rfl) (by kernel_rfl) (by kernel_rfl) (by kernel_rfl) ?_
          refine (CA.out _).mono ?_
          rintro en rv2 ⟨rfl, hb⟩
          refine ⟨_, rfl, heldC_call H.out hb, ?_⟩
          have H := Lib.hid (heldC_call H.out hb)
          clear hb
          refine run_last (by kernel_rfl) (show opAt (opsOf Try.f31 10) 5 = some (none, .store 66 (.tmp 9) (.tmp 45), none) from by kernel_rfl) (by kernel_rfl) (by kernel_rfl) (by kernel_rfl) (store_item (u := .int .i64 (addI (f k) (mulI d d)).n) (v := .int .i64 (addI (f k) (mulI d d)).d) (q := .string (addI (f k) (mulI d d)).t) (heldC_at H.out (List.Mem.tail _ (List.Mem.head _))) rfl rfl rfl) ?_
          refine run_done ?_
          simp only [putAll, Act.put, List.setIfInBounds_toArray, List.set_cons_zero, List.set_cons_succ]
          have H8 := Lib.hid (heldC_at H.out (List.Mem.tail _ (List.Mem.tail _ (List.Mem.head _))))
          have H9 := Lib.hid (heldC_at H.out (List.Mem.tail _ (List.Mem.head _)))
          have HB := Lib.hid H.out.1
          go_wp2
          go_roundw
          case rel => exact ⟨k + 1, by omega, by go_num, below_row HB.out h29 _, row_old H8.out (by omega), by rw [NX.out]; exact row_set H9.out⟩
          case measure => simp [intOf]; omega
        · refine run_new (C := #[.int .i64 0, .int .i64 0, .string ⟨#[]⟩]) (show opAt (opsOf Try.f31 9) 6 = some (some 11, .alloc 66, none) from by kernel_rfl) (by kernel_rfl) (by kernel_rfl) new_item (fun W6 n6 hW6 hn6 => ?_)
          subst hW6
          refine ⟨heldC_call H.out (below1 _ _), ?_⟩
          have N6 := Lib.hid (⟨blk_new _ _ hn6⟩ : NewB n6 66 #[.int .i64 0, .int .i64 0, .string ⟨#[]⟩] _)
          have G6 := Lib.hid (by rw [hn6]; exact H.out.1.size : w2.heap.size ≤ n6)
          have F6_0 := Lib.hid (by rw [hn6]; exact (Array.getElem?_eq_some_iff.1 (heldC_at H.out (List.Mem.head _))).1 : g8 < n6)
          have F6_1 := Lib.hid (by rw [hn6]; exact (Array.getElem?_eq_some_iff.1 (heldC_at H.out (List.Mem.tail _ (List.Mem.head _)))).1 : g9 < n6)
          have H := Lib.hid (heldC_call H.out (below1 _ (.cells #[.int .i64 0, .int .i64 0, .string ⟨#[]⟩] 66)))
          clear hn6
          refine run_call (args := [.agg #[.int .i64 x.n, .int .i64 x.d, .string x.t], .agg #[.int .i64 M.n, .int .i64 M.d, .string M.t]]) (show opAt (opsOf Try.f31 9) 5 = some (some 40, .call { callee := .value (.func 90), args := [(.tmp 38), (.tmp 39)].toArray, argTypes := [66, 66].toArray }, none) from by kernel_rfl) (by kernel_rfl) (by kernel_rfl) (by kernel_rfl) (by kernel_rfl) ?_
          refine (CO.out _).mono ?_
          rintro en rw1 ⟨rfl, hb⟩
          refine ⟨_, rfl, heldC_call H.out hb, ?_⟩
          have H := Lib.hid (heldC_call H.out hb)
          have N6 := Lib.hid (N6.out.keep hb)
          clear hb
          refine run_last (by kernel_rfl) (show opAt (opsOf Try.f31 9) 7 = some (none, .store 66 (.tmp 11) (.tmp 40), none) from by kernel_rfl) (by kernel_rfl) (by kernel_rfl) (by kernel_rfl) (store_item (u := .int .i64 d.n) (v := .int .i64 d.d) (q := .string d.t) N6.out.out rfl rfl rfl) ?_
          refine run_done ?_
          simp only [putAll, Act.put, List.setIfInBounds_toArray, List.set_cons_zero, List.set_cons_succ]
          have H8 := Lib.hid (heldC_at H.out (List.Mem.head _))
          have H9 := Lib.hid (heldC_at H.out (List.Mem.tail _ (List.Mem.head _)))
          have F60 := F6_0.out
          have F61 := F6_1.out
          have H := Lib.hid (show HeldC w2 _ ([(n6, 66, #[.int .i64 d.n, .int .i64 d.d, .string d.t]), (g9, 66, #[.int .i64 ((f k).n), .int .i64 ((f k).d), .string (f k).t]), (g8, 66, #[.int .i64 M.n, .int .i64 M.d, .string M.t])]) from heldC_cons (heldC_cons (heldC_cons ⟨below_row H.out.1 G6.out #[.int .i64 d.n, .int .i64 d.d, .string d.t], (fun _ h => by cases h)⟩ (row_old H8.out (by omega))) (row_old H9.out (by omega))) (row_set N6.out.out))
          go_upto_region 10 with (fail)
          refine run_region (ops := (opsOf Try.f31 10)) (S := fun w' => HeldC w2 w' ([(n6, 66, #[.int .i64 d.n, .int .i64 d.d, .string d.t]), (g9, 66, #[.int .i64 ((f k).n), .int .i64 ((f k).d), .string (f k).t]), (g8, 66, #[.int .i64 M.n, .int .i64 M.d, .string M.t])])) [(0, true), (1, true), (2, true), (3, false), (4, false), (5, false)] (by kernel_rfl) (by kernel_rfl) (by kernel_rfl) (by kernel_rfl) (by kernel_rfl) (fun _ _ _ _ _ h => h) (heldC_drew H.out) ?_
          have H := Lib.hid (heldC_drew H.out)
          refine runC_itm (b := g9) (show opAt (opsOf Try.f31 10) 0 = some (some 41, .load 66 (.tmp 9), none) from by kernel_rfl) (by kernel_rfl) (by kernel_rfl) (by kernel_rfl) (List.Mem.tail _ (List.Mem.head _)) ?_
          refine runC_itm (b := n6) (show opAt (opsOf Try.f31 10) 1 = some (some 42, .load 66 (.tmp 11), none) from by kernel_rfl) (by kernel_rfl) (by kernel_rfl) (by kernel_rfl) (List.Mem.head _) ?_
          refine runC_itm (b := n6) (show opAt (opsOf Try.f31 10) 2 = some (some 43, .load 66 (.tmp 11), none) from by kernel_rfl) (by kernel_rfl) (by kernel_rfl) (by kernel_rfl) (List.Mem.head _) ?_
          refine run_call (args := [.agg #[.int .i64 d.n, .int .i64 d.d, .string d.t], .agg #[.int .i64 d.n, .int .i64 d.d, .string d.t]]) (show opAt (opsOf Try.f31 10) 3 = some (some 44, .call { callee := .value (.func 86), args := [(.tmp 42), (.tmp 43)].toArray, argTypes := [66, 66].toArray }, none) from by kernel_rfl) (by kernel_rfl) (by kernel_rfl) (by kernel_rfl) (by kernel_rfl) ?_
          refine (CM.out _).mono ?_
          rintro en rv1 ⟨rfl, hb⟩
          refine ⟨_, rfl, heldC_call H.out hb, ?_⟩
          have H := Lib.hid (heldC_call H.out hb)
          clear hb
          refine run_call (args := [.agg #[.int .i64 ((f k).n), .int .i64 ((f k).d), .string (f k).t], .agg #[.int .i64 (mulI d d).n, .int .i64 (mulI d d).d, .string (mulI d d).t]]) (show opAt (opsOf Try.f31 10) 4 = some (some 45, .call { callee := .value (.func 91), args := [(.tmp 41), (.tmp 44)].toArray, argTypes := [66, 66].toArray }, none) from by kernel_rfl) (by kernel_rfl) (by kernel_rfl) (by kernel_rfl) (by kernel_rfl) ?_
          refine (CA.out _).mono ?_
          rintro en rv2 ⟨rfl, hb⟩
          refine ⟨_, rfl, heldC_call H.out hb, ?_⟩
          have H := Lib.hid (heldC_call H.out hb)
          clear hb
          refine run_last (by kernel_rfl) (show opAt (opsOf Try.f31 10) 5 = some (none, .store 66 (.tmp 9) (.tmp 45), none) from by kernel_rfl) (by kernel_rfl) (by kernel_rfl) (by kernel_rfl) (store_item (u := .int .i64 (addI (f k) (mulI d d)).n) (v := .int .i64 (addI (f k) (mulI d d)).d) (q := .string (addI (f k) (mulI d d)).t) (heldC_at H.out (List.Mem.tail _ (List.Mem.head _))) rfl rfl rfl) ?_
          refine run_done ?_
          simp only [putAll, Act.put, List.setIfInBounds_toArray, List.set_cons_zero, List.set_cons_succ]
          have H8 := Lib.hid (heldC_at H.out (List.Mem.tail _ (List.Mem.tail _ (List.Mem.head _))))
          have H9 := Lib.hid (heldC_at H.out (List.Mem.tail _ (List.Mem.head _)))
          have HB := Lib.hid H.out.1
          go_wp2
          go_roundw
          case rel => exact ⟨k + 1, by omega, by go_num, below_row HB.out h29 _, row_old H8.out (by omega), by rw [NX.out]; exact row_set H9.out⟩
          case measure => simp [intOf]; omega
      · obtain rfl : k = n := by omega
        have KF := Lib.hid (FF.out ▸ KF.out)
        have BW := Lib.hid (below_then B2.out BB.out)
        have KR := Lib.hid (blk_below BB.out KR.out)
        have CO1 := Lib.hid (fun W => specOne6 V W)
        have h92 : w.heap.size + 1 < g9 := by have := (Array.getElem?_eq_some_iff.1 KRw.out).1; omega
        go_upto_region 11 with (fail)
        have H := Lib.hid (show HeldC w wr ([(g9, 66, #[.int .i64 Z.n, .int .i64 Z.d, .string Z.t])]) from heldC_cons ⟨BW.out, (fun _ h => by cases h)⟩ KF.out)
        have KN := Lib.hid (⟨KR.out⟩ : NewB (w.heap.size + 1) 31 #[.int .i64 0, .slice none 0 0, .slice none 0 0, .slice none 0 0, .slice none 0 0, .slice none 0 0, .int .i64 0, .int .i64 0] wr)
        have HW := Lib.hid (show Below w.heap.size w wr from BW.out)
        refine run_region (ops := (opsOf Try.f31 11)) (S := fun w' => HeldC w w' ([(g9, 66, #[.int .i64 Z.n, .int .i64 Z.d, .string Z.t])])) [(0, true), (1, true), (2, true), (3, true), (4, true), (5, false), (6, false), (7, false), (8, false), (9, true)] (by kernel_rfl) (by kernel_rfl) (by kernel_rfl) (by kernel_rfl) (by kernel_rfl) (fun _ _ _ _ _ h => h) (heldC_drew H.out) ?_
        have H := Lib.hid (heldC_drew H.out)
        have KN := Lib.hid (KN.out.keep (below_drew' (Below.refl _ _)))
        refine runC_itm (b := g9) (show opAt (opsOf Try.f31 11) 0 = some (some 46, .load 66 (.tmp 9), none) from by kernel_rfl) (by kernel_rfl) (by kernel_rfl) (by kernel_rfl) (List.Mem.head _) ?_
        refine run_mov (v := .slice sa k c) (show opAt (opsOf Try.f31 11) 1 = some (some 47, .move (.tmp 6), none) from by kernel_rfl) (by kernel_rfl) (by kernel_rfl) (by kernel_rfl) ?_
        refine run_len (b := sa) (n := k) (c := c) (show opAt (opsOf Try.f31 11) 2 = some (some 48, .call { callee := .builtin .len, args := [(.tmp 47)].toArray, argTypes := [28].toArray }, none) from by kernel_rfl) (by kernel_rfl) (by kernel_rfl) (by kernel_rfl) (by kernel_rfl) ?_
        refine run_sub (k := .i64) (p := (k : Int)) (q := 1) (z := ((k : Int) - 1)) (show opAt (opsOf Try.f31 11) 3 = some (some 49, .binOp .sub 3 (.tmp 48) (.const (.int .i64 1)) 3, none) from by kernel_rfl) (by kernel_rfl) (by kernel_rfl) (by kernel_rfl) (by kernel_rfl) (wrap64_id (by omega) (by omega)) ?_
        refine run_max2 (p := 0) (q := ((k : Int) - 1)) (z := ((k - 1 : Nat) : Int)) (show opAt (opsOf Try.f31 11) 4 = some (some 50, .call { callee := .builtin .max, args := [(.const (.int .i64 0)), (.tmp 49)].toArray, argTypes := [3, 3].toArray }, none) from by kernel_rfl) (by kernel_rfl) (by kernel_rfl) (by kernel_rfl) (by kernel_rfl) (by split <;> omega) ?_
        refine run_call (args := [.int .i64 (((k - 1 : Nat) : Int))]) (show opAt (opsOf Try.f31 11) 5 = some (some 51, .call { callee := .value (.func 85), args := [(.tmp 50)].toArray, argTypes := [3].toArray }, none) from by kernel_rfl) (by kernel_rfl) (by kernel_rfl) (by kernel_rfl) (by kernel_rfl) ?_
        refine (CL.out _).mono ?_
        rintro en rw1 ⟨rfl, hb⟩
        refine ⟨_, rfl, heldC_call H.out hb, ?_⟩
        have H := Lib.hid (heldC_call H.out hb)
        have KN := Lib.hid (KN.out.keep hb)
        clear hb
        refine run_call (args := [.agg #[.int .i64 Z.n, .int .i64 Z.d, .string Z.t], .agg #[.int .i64 ((k - 1 : Nat) : Int), .int .i64 1, .string ⟨#[]⟩]]) (show opAt (opsOf Try.f31 11) 6 = some (some 52, .call { callee := .value (.func 88), args := [(.tmp 46), (.tmp 51)].toArray, argTypes := [66, 66].toArray }, none) from by kernel_rfl) (by kernel_rfl) (by kernel_rfl) (by kernel_rfl) (by kernel_rfl) ?_
        refine (CV.out _).mono ?_
        rintro en rw2 ⟨rfl, hb⟩
        refine ⟨_, rfl, heldC_call H.out hb, ?_⟩
        have H := Lib.hid (heldC_call H.out hb)
        have KN := Lib.hid (KN.out.keep hb)
        clear hb
        refine run_call (args := [.agg #[.int .i64 V.n, .int .i64 V.d, .string V.t]]) (show opAt (opsOf Try.f31 11) 7 = some (some 53, .call { callee := .value (.func 81), args := [(.tmp 52)].toArray, argTypes := [66].toArray }, none) from by kernel_rfl) (by kernel_rfl) (by kernel_rfl) (by kernel_rfl) (by kernel_rfl) ?_
        refine (CO1.out _).mono ?_
        rintro en rw3 ⟨yo, rfl, ho, hb⟩
        refine ⟨_, rfl, heldC_call H.out hb, ?_⟩
        have HH := Lib.hid H.out.1.size
        have OO := Lib.hid ho
        have H := Lib.hid (heldC_call H.out hb)
        obtain ⟨yk, ya1, yn1, ym1, ya2, yn2, ym2, ya3, yn3, ym3, ya4, yn4, ym4, ya5, yn5, ym5, yc, ye, rfl⟩ := OO.out.agg
        have HG := Lib.hid (Array.getElem?_eq_some_iff.1 KN.out.out).1
        have KN := Lib.hid (KN.out.keep hb)
        clear ho hb
        refine run_store (w' := rw3.setRow (w.heap.size + 1) #[.int .i64 yk, .slice ya1 yn1 ym1, .slice ya2 yn2 ym2, .slice ya3 yn3 ym3, .slice ya4 yn4 ym4, .slice ya5 yn5 ym5, .int .i64 yc, .int .i64 ye]) (show opAt (opsOf Try.f31 11) 8 = some (none, .store 31 (.tmp 4) (.tmp 53), none) from by kernel_rfl) (by kernel_rfl) (by kernel_rfl) (by kernel_rfl) (store_vec8 KN.out.out (by simp [Value.oneCell'])) (⟨below_row H.out.1 (Nat.le_succ _) _, fun q hq => row_old (H.out.2 q hq) (by obtain rfl := List.mem_singleton.1 hq; simp only; omega)⟩) ?_
        refine run_asg (v := .string ⟨#[]⟩) (show opAt (opsOf Try.f31 11) 9 = some (some 5, .assign (.const (.string ⟨#[]⟩)), none) from by kernel_rfl) (by kernel_rfl) (by kernel_rfl) (by kernel_rfl) ?_
        refine run_done ?_
        simp only [putAll, Act.put, List.setIfInBounds_toArray, List.set_cons_zero, List.set_cons_succ]
        have hHH := HH.out
        have hHG := HG.out
        go_wp2
        rw [XV.out, XS.out]
        exact vec_ret0S rfl rfl rfl rfl (row_set KN.out.out) ⟨_, rfl, (OO.out.row hHG).wide hHH (row_size _ _ _), below_row H.out.1 (Nat.le_succ _) _⟩
  · have XV := Lib.hid (smy_not hs varL drop).1
    obtain ⟨R, hR⟩ : ∃ R, smyS nonNumB VV = R := ⟨_, rfl⟩
    have XS := Lib.hid hR
    rw [hR] at hs ⊢
    have hRb : (R.toList == []) = false := by have h := str_not hs; rw [ByteArray.toList_eq ⟨#[]⟩] at h; exact h
    clear hs hR
    obtain ⟨z0, z1, z2, z3, z4, z5, z6, z7⟩ := vec8 KR.out
    obtain ⟨f0, f1, f2, f3, f4, f5, f6, f7⟩ := free8 KR.out
    go_wp2
    rw [XV.out, XS.out]
    exact vec_endS rfl rfl rfl rfl KR.out (zeroS _ w _ (put8_below B2.out (Nat.le_succ _)))
end Go.Proofs.Ytlnjjjoeblopeaa

/- The program's arithmetic: differences, floors, quotients and remainders (their regions draw their order). -/
namespace Go.Proofs.Ytlnjjjoeblopeaa
set_option maxRecDepth 100000
open Go.RowKit
set_option linter.unusedVariables false

set_option maxHeartbeats 2000000 in
theorem implSub (x y : It) (w : World) (hx : x.t.size ≤ 9223372036854775807) (hy : y.t.size ≤ 9223372036854775807) :
    Calls Try.prog 126 #[.agg #[.int .i64 x.n, .int .i64 x.d, .string x.t], .agg #[.int .i64 y.n, .int .i64 y.d, .string y.t]] w fun e w' => e = .returned (.agg #[.int .i64 (subI x y).n, .int .i64 (subI x y).d, .string (subI x y).t]) ∧ Below w.heap.size w w' := by
  have X := Lib.hid (show subI x y = addI x (negI y) from rfl)
  have XT := Lib.hid (show (addI x (negI y)).t = ⟨#[]⟩ from addI_t _ _)
  have ht : (negI y).t.size ≤ 9223372036854775807 := by rw [negI_t]; decide
  obtain ⟨z, hz⟩ : ∃ z, negI y = z := ⟨_, rfl⟩
  have C := Lib.hid (hz ▸ implNeg y)
  rw [hz] at X XT ht
  clear hz
  have H := Lib.hid ht
  clear ht
  go_enter Try.func126, Try.ntmps126
  go_wp2
  go_region_with (first
    | (go_at_call 152; refine (C.out _ hy).mono ?_; rintro e w1 ⟨rfl, hb⟩; obtain ⟨hc, hf⟩ := bcell hb; have hz : w.heap.size + 2 < w1.heap.size := (by have := hb.size; simp at this; omega); have B1 := Lib.hid (below_then (below_drew' (below3 w _ _ _)) hb); have G := Lib.hid (blk_below (g := w.heap.size + 2) hb (blk_drew (blk_new _ _ (by simp)))); clear hb)
    | (go_at_call 125; refine (implAdd x z _ hx H.out).mono ?_; rintro e w2 ⟨rfl, hb⟩; obtain ⟨hc2, hf2⟩ := bcell hb; have B2 := Lib.hid (below_then B1.out hb); have G2 := Lib.hid (blk_below hb G.out); clear hb))
  all_goals
    go_wp2
    rw [X.out]
    exact item_ret rfl rfl rfl G2.out ⟨rfl, below_three B2.out (by omega) _ _ _⟩

set_option maxHeartbeats 2000000 in
theorem implFloorF (n d : Int) (w : World) (n0 : -3000000000000000000 ≤ n) (n1 : n ≤ 3000000000000000000) (d0 : -1000000000000000000 ≤ d) (d1 : d ≤ 1000000000000000000) (hd : d ≠ 0) :
    Calls Try.prog 155 #[.agg #[.int .i64 n, .int .i64 d]] w fun e w' => e = .returned (.agg #[.int .i64 (mkI (n.fdiv d) 1).n, .int .i64 (mkI (n.fdiv d) 1).d, .string ⟨#[]⟩]) ∧ Below w.heap.size w w' := by
  have C := Lib.hid (fun W => implExcess n d W (by omega) (by omega) (by omega) (by omega) hd)
  have f := fmod_in (n := n) (A := 1000000000000000000) d0 d1 hd
  have q := fdiv_in (n := n) (d := d) (A := 3000000000000000000) hd n0 n1
  have Q := Lib.hid (fdiv_code (n := n) hd)
  have D := Lib.hid hd
  have hd' : (d == 0) = false := by simp [hd]
  obtain ⟨r, hr⟩ : ∃ r, n.fmod d = r := ⟨_, rfl⟩
  rw [hr] at C f Q
  obtain ⟨k, hk⟩ : ∃ k, n.fdiv d = k := ⟨_, rfl⟩
  rw [hk] at q Q ⊢
  have f0 := f.1
  have f1 := f.2
  have q0 : -9223372036854775808 ≤ (n - r).tdiv d := by have := Q.out; omega
  have q1 : (n - r).tdiv d ≤ 9223372036854775807 := by have := Q.out; omega
  have M := Lib.hid (fun W => implMake k 1 W (by omega) (by omega))
  have M' : Hid (∀ W, Calls Try.prog 133 #[.int .i64 ((n - r).tdiv d), .int .i64 1] W fun e w' => e = .returned (.agg #[.int .i64 (mkI k 1).n, .int .i64 (mkI k 1).d, .string ⟨#[]⟩]) ∧ Below W.heap.size W w') := by
    refine Lib.hid ?_
    rw [Q.out]; exact M.out
  clear hd hr hk f q M
  go_enter Try.func155, Try.ntmps155
  go_wp2
  go_region_with (first
    | (go_at_call 154; refine (C.out _).mono ?_; rintro e w1 ⟨rfl, hb⟩; obtain ⟨hc, hf⟩ := bcell hb; have hz : w.heap.size + 1 < w1.heap.size := (by have := hb.size; simp at this; omega); have B1 := Lib.hid (below_then (below_drew' (below2 w _ _)) hb); have G := Lib.hid (blk_below (g := w.heap.size + 1) hb (blk_drew (blk_new _ _ (by simp)))); clear hb)
    | (go_at_call 133; refine (M'.out _).mono ?_; rintro e w2 ⟨rfl, hb⟩; obtain ⟨hc2, hf2⟩ := bcell hb; have B2 := Lib.hid (below_then B1.out hb); have G2 := Lib.hid (blk_below hb G.out); clear hb))
  all_goals
    go_wp2
    exact item_ret rfl rfl rfl G2.out ⟨rfl, below_three B2.out (by omega) _ _ _⟩
end Go.Proofs.Ytlnjjjoeblopeaa
