/- Calls by a function's value, items at an index, items that are appended to a local slice: operations of a region that draws its order. -/
import Derived.Test.YtlnjjjoeblopeaaRows
import Derived.Test.YtlnjjjoeblopeaaMg1
import Derived.Test.YtlnjjjoeblopeaaNumMath
import Derived.Test.YtlnjjjoeblopeaaNumKit
import Derived.Test.YtlnjjjoeblopeaaNumMake
import Derived.Test.YtlnjjjoeblopeaaVecCntI
import Derived.Deep.MidRow
import Derived.WalkKit
import Derived.OwnWalk
import Derived.Lib.Hide
import Derived.Deep.DeepCutAuto
import Derived.WalkSpells
import Derived.WalkLawsBesides
import Derived.IntWalk
import Derived.Deep.RegionWith
import Derived.StillTailTactics
import Derived.RegionTactic
import Derived.WideMake
import Derived.Laws.EntriesVeiled
namespace Go.Proofs.Ytlnjjjoeblopeaa
open Go.RowKit
set_option maxRecDepth 100000
set_option linter.unusedVariables false

section
variable {P : Program} {ops : Array Oper} {Q : Exit → Act → World → Prop} {S : World → Prop}
variable {r : List (Nat × Bool)} {a : Act} {e : List (Nat × Value)} {w : World} {i d : Nat} {g : Option (Nat × Bool)} {v : Value}
/-- A call of a function's value. -/
theorem run_callv {x : Operand} {f : FuncId} {first cap : Array Value} {xs : List Operand} {ats : Array TypeId} {args : List Value} (ho : opAt ops i = some (some d, .call { callee := .value x, args := xs.toArray, argTypes := ats }, g))
    (hd : Nat.blt d a.tmps.size = true) (hw : wantE ops a e g = some true) (hf : lookO a e x = .func (.func f) first cap) (hg : callsGo P f = true) (hx : xs.map (lookO a e) = args)
    (h : Calls P f (first ++ args.toArray ++ cap) w fun en w' => ∃ v, en = .returned v ∧ S w' ∧ RunE P ops Q S r a ((d, v) :: e) w') : RunE P ops Q S ((i, false) :: r) a e w := by
  refine ⟨fun hk => ?_⟩
  obtain ⟨o, hi, h1, h2, h3⟩ := opAt_spec ho
  show wpOp P ops Q i (fun a' w' => (lastK ops i = true ∨ S w') ∧ seqH P ops Q S r a' w') (putAll a e) w
  unfold wpOp
  simp only [hi, if_pos (wantE_spec hk (by rw [h3]; exact hw))]
  left
  unfold Oper.wp
  have hrun : (execOp (putAll a e).eval o).run P w = .ok (.enter f (first ++ args.toArray ++ cap)) w := by
    rw [eval_putAll a e hk]
    unfold execOp
    rw [h2]
    have : (resolve (lookO a e) { callee := .value x, args := xs.toArray, argTypes := ats } o.type) = pure { target := .fn (.func f) cap, args := first ++ args.toArray } := by
      unfold resolve
      simp only [List.map_toArray, hx, hf]
      rfl
    simp only [this]
    show (callFunc f (first ++ args.toArray ++ cap)).run P w = _
    exact callsGo_run hg
  rw [hrun]
  simp only [Oper.upon]
  refine h.mono ?_
  rintro en w' ⟨v, rfl, hS, hr⟩
  rw [h1]
  exact ⟨.inr hS, hr.out (keysIn_cons hd hk)⟩
end
section
variable {ops : Array Oper} {Q : Exit → Act → World → Prop} {S : World → Prop} {w0 : World} {L : List (Nat × TypeId × Array Value)}
variable {r : List (Nat × Bool)} {a : Act} {e : List (Nat × Value)} {w : World} {i d : Nat} {g : Option (Nat × Bool)} {v : Value}
/-- The address of an item of a slice. -/
theorem run_idx3 {x y : Operand} {b off n c k : Nat} (ho : opAt ops i = some (some d, .indexAddr 28 x y, g)) (hd : Nat.blt d a.tmps.size = true) (hw : wantE ops a e g = some true)
    (hx : lookO a e x = .slice (some ⟨b, off, none⟩) n c) (hy : lookO a e y = .int .i64 (k : Int)) (hk : k < n)
    (h : RunE Try.prog ops Q S r a ((d, .pointer (some ⟨b, off + k * 3, none⟩)) :: e) w) : RunE Try.prog ops Q S ((i, true) :: r) a e w :=
  run_yield ho hd hw (fun o w' h1 _ => by
    unfold execOp; rw [h1]; simp only [hx, hy]
    refine run_v ?_
    obtain ⟨ie, hie, _, hsz, _⟩ := info_parts infoItm3
    have he : Try.prog.elem 28 = 66 := by kernel_rfl
    rw [← he] at hie
    rw [run_indexAt_slice (h := Try.underlying28), if_pos ⟨Int.natCast_nonneg k, by omega⟩]
    simp [sizeOf, typeInfo, hie, hsz, addr_add]) h
/-- An item that lay there at the outset. -/
theorem runC_oldI {x : Operand} {b j : Nat} {z : It} (ho : opAt ops i = some (some d, .load 66 x, g)) (hd : Nat.blt d a.tmps.size = true) (hw : wantE ops a e g = some true)
    (hx : lookO a e x = .pointer (some ⟨b, j, none⟩)) (hb : b < w0.heap.size) (h0 : w0.cell? ⟨b, j, none⟩ = some (.int .i64 z.n)) (h1 : w0.cell? ⟨b, j + 1, none⟩ = some (.int .i64 z.d)) (h2 : w0.cell? ⟨b, j + 2, none⟩ = some (.string z.t))
    (h : RunE Try.prog ops Q (fun w' => HeldC w0 w' L) r a ((d, .agg #[.int .i64 z.n, .int .i64 z.d, .string z.t]) :: e) w) : RunE Try.prog ops Q (fun w' => HeldC w0 w' L) ((i, true) :: r) a e w :=
  run_load ho hd hw hx (fun w' hS => run_loadVar_mid w' b j 66 [.int .i64 z.n, .int .i64 z.d, .string z.t] _ (fun k v hv => by
    have hlt : k < 3 := by have := (List.getElem?_eq_some_iff.1 hv).1; simpa using this
    rw [hS.1.cell (p := ⟨b, j + k, none⟩) hb, ← hv]
    rcases (show k = 0 ∨ k = 1 ∨ k = 2 by omega) with rfl | rfl | rfl
    · exact h0
    · exact h1
    · exact h2) Try.underlying66 rfl infoItem) h
/-- What a loop that appends items to a local slice keeps. -/
structure ItR (w wr : World) (l : List It) (v : Value) : Prop where
  row : wr.ownsRow w.heap.size 66 3 v l.length (itCells l)
  below : Below w.heap.size w wr
theorem ItR.keep {w wr w1 : World} {l : List It} {v : Value} (h : ItR w wr l v) (hb : Below wr.heap.size wr w1) : ItR w w1 l v := ⟨ownsRow_below h.row hb, below_then h.below hb⟩
/-- A literal of one item, its append and the assignment: the end of a region. -/
theorem tail_its {i1 i2 i3 d1 d2 d3 : Nat} {x s : Operand} {v0 : Value} (z : It) {l : List It}
    (ho1 : opAt ops i1 = some (some d1, .buildSlice 28 1 #[(0, x)], none)) (hd1 : Nat.blt d1 a.tmps.size = true) (hx : lookO a e x = .agg #[.int .i64 z.n, .int .i64 z.d, .string z.t])
    (ho2 : opAt ops i2 = some (some d2, .call { callee := .builtin .append, args := [s, .tmp d1].toArray, argTypes := [28, 28].toArray }, none)) (hd2 : Nat.blt d2 a.tmps.size = true) (hs : ∀ u, lookO a ((d1, u) :: e) s = v0)
    (ho3 : opAt ops i3 = some (some d3, .assign (.tmp d2), none)) (hd3 : Nat.blt d3 a.tmps.size = true)
    (hr : ItR w0 w l v0) (hn : l.length ≤ 1048576)
    (h : ∀ v' W, ItR w0 W (l ++ [z]) v' → Q .normal (putAll a ((d3, v') :: (d2, v') :: (d1, .slice (some ⟨w.heap.size, 0, none⟩) 1 1) :: e)) W) :
    RunE Try.prog ops Q (fun w' => HeldC w0 w' []) [(i1, false), (i2, false), (i3, true)] a e w := by
  refine run_build_item z ho1 hd1 rfl hx (fun W1 hW1 => ?_)
  have hb1 : Below w0.heap.size w0 W1 := hW1 ▸ hr.below.alloc hr.below.size _
  have hK : W1.heap[w.heap.size]? = some (.cells #[.int .i64 z.n, .int .i64 z.d, .string z.t] 66 (0, 0)) := hW1 ▸ blk_new w _ rfl
  have hO : W1.ownsRow w0.heap.size 66 3 v0 l.length (itCells l) := hW1 ▸ ownsRow_below hr.row (below1 w _)
  refine ⟨⟨hb1, (fun _ h => by cases h)⟩, run_app_item z ho2 hd2 rfl (hs _) (look_new _ _) hO hK hn hb1.size (fun v' W2 hO2 hg2 => ?_)⟩
  have hN : ItR w0 W2 (l ++ [z]) v' := ⟨hO2, hb1.grown hg2 hb1.size (fun r hr' => (hO.lt r hr').1)⟩
  exact ⟨⟨hN.below, (fun _ h => by cases h)⟩, run_asg ho3 hd3 rfl (look_new _ _) (run_done (h v' W2 hN))⟩
end
end Go.Proofs.Ytlnjjjoeblopeaa

/- recycleItems of the program. -/
namespace Go.Proofs.Ytlnjjjoeblopeaa
open Go.RowKit
set_option maxRecDepth 100000
set_option linter.unusedVariables false

theorem ItR.form {w wr : World} {l : List It} {v : Value} (h : ItR w wr l v) : ∃ s n c, v = .slice s n c := by
  obtain ⟨_, h | ⟨g, cap, cur, e, _⟩⟩ := h.row
  · exact ⟨_, _, _, h.1⟩
  · exact ⟨_, _, _, e⟩
theorem recN_pos {m n : Nat} (h : 0 < recN m n) : 0 < m ∧ 0 < n := by
  unfold recN at h
  by_cases h0 : m = 0 ∨ n = 0
  · rw [if_pos h0] at h; omega
  · omega
theorem recN_le {m n : Nat} (hm : m ≤ 40) (hn : n ≤ 40) : recN m n ≤ 40 := by
  unfold recN
  split <;> omega
set_option maxHeartbeats 2000000 in
theorem implRecIts (fid : FuncId) (cap : Array Value) (G : It → It → It) (la lb : List It) (aa ab : Option Addr) (ca cb lo hi m n : Nat) (w : World) (ha : ItemsAt lo hi w aa la) (hb : ItemsAt lo hi w ab lb) (hhi : hi ≤ w.heap.size) (em : la.length = m) (en : lb.length = n) (hm : m ≤ 40) (hn : n ≤ 40) (hgo : callsGo Try.prog fid = true)
    (hG : ∀ i j W, i < m → j < n → Below w.heap.size w W → Calls Try.prog fid (#[] ++ #[.agg #[.int .i64 (la.getD i noI).n, .int .i64 (la.getD i noI).d, .string (la.getD i noI).t], .agg #[.int .i64 (lb.getD j noI).n, .int .i64 (lb.getD j noI).d, .string (lb.getD j noI).t]] ++ cap) W fun e w' => e = .returned (.agg #[.int .i64 (G (la.getD i noI) (lb.getD j noI)).n, .int .i64 (G (la.getD i noI) (lb.getD j noI)).d, .string (G (la.getD i noI) (lb.getD j noI)).t]) ∧ Below W.heap.size W w') :
    Calls Try.prog 61 #[.slice aa m ca, .slice ab n cb, .func (.func fid) #[] cap] w fun e w' => ∃ v, e = .returned v ∧ ItR w w' (itF (fun i => G (la.getD (i % m) noI) (lb.getD (i % n) noI)) (recN m n)) v := by
  have CL := Lib.hid (fun W => implRecLen m n W (by omega) (by omega))
  have PZ := Lib.hid (fun h => recN_pos (m := m) (n := n) h)
  have N40 := recN_le hm hn
  obtain ⟨N, hN⟩ : ∃ N, recN m n = N := ⟨_, rfl⟩
  rw [hN] at CL PZ N40 ⊢
  have IX := Lib.hid (fun (i : Nat) (h : i < m) => ha.at_ (k := i) (em ▸ h))
  have IY := Lib.hid (fun (i : Nat) (h : i < n) => hb.at_ (k := i) (en ▸ h))
  have CG := Lib.hid hG
  have GO := Lib.hid hgo
  clear hN ha hb hG hgo em en
  go_enter Try.func61, Try.ntmps61
  go_wp2_with fail
  with_reducible refine (CL.out _).mono ?_
  rintro e w' ⟨rfl, rfl⟩
  have ST := Lib.hid (show ItR w w (itF (fun i => G (la.getD (i % m) noI) (lb.getD (i % n) noI)) 0) (.slice none 0 0) from ⟨⟨rfl, .inl ⟨rfl, rfl⟩⟩, Below.refl _ _⟩)
  go_wp2
  go_loopw [7, 14] (fun v i wr => ∃ k : Nat, k ≤ N ∧ i = .int .i64 k ∧ ItR w wr (itF (fun i => G (la.getD (i % m) noI) (lb.getD (i % n) noI)) k) v) (fun _ i _ => N - (intOf i).toNat)
  case atStart => exact ⟨0, Nat.zero_le _, rfl, ST.out⟩
  case round =>
    obtain ⟨k, hk, rfl, hir⟩ := hrel
    have IR := Lib.hid hir
    clear hir
    by_cases hlt : k < N
    · obtain ⟨hm0, hn0⟩ := PZ.out (by omega)
      obtain ⟨bx, ox, rfl, hbx', cx0, cx1, cx2⟩ := IX.out (k % m) (Nat.mod_lt k hm0)
      obtain ⟨bY, oy, rfl, hby', cy0, cy1, cy2⟩ := IY.out (k % n) (Nat.mod_lt k hn0)
      have hbx : bx < w.heap.size := by omega
      have hby : bY < w.heap.size := by omega
      have CX0 := Lib.hid cx0
      have CX1 := Lib.hid cx1
      have CX2 := Lib.hid (show w.cell? ⟨bx, ox + (k % m) * 3 + 2, none⟩ = some (.string (la.getD (k % m) noI).t) from cx2)
      have CY0 := Lib.hid cy0
      have CY1 := Lib.hid cy1
      have CY2 := Lib.hid (show w.cell? ⟨bY, oy + (k % n) * 3 + 2, none⟩ = some (.string (lb.getD (k % n) noI).t) from cy2)
      obtain ⟨sv, sn, cv, rfl⟩ := IR.out.form
      have LN := Lib.hid (show (itF (fun i => G (la.getD (i % m) noI) (lb.getD (i % n) noI)) k).length ≤ 1048576 by rw [itF_len]; omega)
      have NX := Lib.hid (itF_succ (fun i => G (la.getD (i % m) noI) (lb.getD (i % n) noI)) k)
      have CO := Lib.hid (fun W hB => CG.out (k % m) (k % n) W (Nat.mod_lt k hm0) (Nat.mod_lt k hn0) hB)
      clear cx0 cx1 cx2 cy0 cy1 cy2
      have H := Lib.hid (show HeldC w wr [] from ⟨IR.out.below, (fun _ h => by cases h)⟩)
      go_upto_region 5 with (fail)
      refine run_region (ops := (opsOf Try.f61 5)) (S := fun w' => HeldC w w' ([])) [(0, true), (1, true), (2, true), (3, true), (4, true), (5, true), (6, true), (7, true), (8, true), (9, true), (10, true), (11, true), (12, true), (13, true), (14, true), (15, true), (16, false), (17, false), (18, false), (19, true)] (by kernel_rfl) (by kernel_rfl) (by kernel_rfl) (by kernel_rfl) (by kernel_rfl) (fun _ _ _ _ _ h => h) (heldC_drew H.out) ?_
      have H := Lib.hid (heldC_drew H.out)
      have IR := Lib.hid (IR.out.keep (below_drew' (Below.refl _ _)))
      refine run_mov (v := .slice sv sn cv) (show opAt (opsOf Try.f61 5) 0 = some (some 17, .move (.tmp 7), none) from by kernel_rfl) (by kernel_rfl) (by kernel_rfl) (by kernel_rfl) ?_
      refine run_mov (v := .func (.func fid) #[] cap) (show opAt (opsOf Try.f61 5) 1 = some (some 18, .move (.tmp 2), none) from by kernel_rfl) (by kernel_rfl) (by kernel_rfl) (by kernel_rfl) ?_
      refine run_mov (v := .slice (some ⟨bx, ox, none⟩) m ca) (show opAt (opsOf Try.f61 5) 2 = some (some 19, .move (.tmp 0), none) from by kernel_rfl) (by kernel_rfl) (by kernel_rfl) (by kernel_rfl) ?_
      refine run_mov (v := .int .i64 ((k : Int))) (show opAt (opsOf Try.f61 5) 3 = some (some 20, .move (.tmp 8), none) from by kernel_rfl) (by kernel_rfl) (by kernel_rfl) (by kernel_rfl) ?_
      refine run_mov (v := .slice (some ⟨bx, ox, none⟩) m ca) (show opAt (opsOf Try.f61 5) 4 = some (some 21, .move (.tmp 0), none) from by kernel_rfl) (by kernel_rfl) (by kernel_rfl) (by kernel_rfl) ?_
      refine run_len (b := (some ⟨bx, ox, none⟩)) (n := m) (c := ca) (show opAt (opsOf Try.f61 5) 5 = some (some 22, .call { callee := .builtin .len, args := [(.tmp 21)].toArray, argTypes := [28].toArray }, none) from by kernel_rfl) (by kernel_rfl) (by kernel_rfl) (by kernel_rfl) (by kernel_rfl) ?_
      refine run_rem (k := .i64) (p := (k : Int)) (q := (m : Int)) (z := ((k % m : Nat) : Int)) (show opAt (opsOf Try.f61 5) 6 = some (some 23, .binOp .rem 3 (.tmp 20) (.tmp 22) 3, none) from by kernel_rfl) (by kernel_rfl) (by kernel_rfl) (by kernel_rfl) (by kernel_rfl) ⟨by omega, rfl⟩ ?_
      refine run_idx3 (n := m) (c := ca) (b := bx) (off := ox) (k := (k % m)) (show opAt (opsOf Try.f61 5) 7 = some (some 24, .indexAddr 28 (.tmp 19) (.tmp 23), none) from by kernel_rfl) (by kernel_rfl) (by kernel_rfl) (by kernel_rfl) (by kernel_rfl) (Nat.mod_lt k hm0) ?_
      refine runC_oldI (b := bx) (j := ox + (k % m) * 3) (z := (la.getD (k % m) noI)) (show opAt (opsOf Try.f61 5) 8 = some (some 25, .load 66 (.tmp 24), none) from by kernel_rfl) (by kernel_rfl) (by kernel_rfl) (by kernel_rfl) hbx CX0.out CX1.out CX2.out ?_
      refine run_mov (v := .slice (some ⟨bY, oy, none⟩) n cb) (show opAt (opsOf Try.f61 5) 9 = some (some 26, .move (.tmp 1), none) from by kernel_rfl) (by kernel_rfl) (by kernel_rfl) (by kernel_rfl) ?_
      refine run_mov (v := .int .i64 ((k : Int))) (show opAt (opsOf Try.f61 5) 10 = some (some 27, .move (.tmp 8), none) from by kernel_rfl) (by kernel_rfl) (by kernel_rfl) (by kernel_rfl) ?_
      refine run_mov (v := .slice (some ⟨bY, oy, none⟩) n cb) (show opAt (opsOf Try.f61 5) 11 = some (some 28, .move (.tmp 1), none) from by kernel_rfl) (by kernel_rfl) (by kernel_rfl) (by kernel_rfl) ?_
      refine run_len (b := (some ⟨bY, oy, none⟩)) (n := n) (c := cb) (show opAt (opsOf Try.f61 5) 12 = some (some 29, .call { callee := .builtin .len, args := [(.tmp 28)].toArray, argTypes := [28].toArray }, none) from by kernel_rfl) (by kernel_rfl) (by kernel_rfl) (by kernel_rfl) (by kernel_rfl) ?_
      refine run_rem (k := .i64) (p := (k : Int)) (q := (n : Int)) (z := ((k % n : Nat) : Int)) (show opAt (opsOf Try.f61 5) 13 = some (some 30, .binOp .rem 3 (.tmp 27) (.tmp 29) 3, none) from by kernel_rfl) (by kernel_rfl) (by kernel_rfl) (by kernel_rfl) (by kernel_rfl) ⟨by omega, rfl⟩ ?_
      refine run_idx3 (n := n) (c := cb) (b := bY) (off := oy) (k := (k % n)) (show opAt (opsOf Try.f61 5) 14 = some (some 31, .indexAddr 28 (.tmp 26) (.tmp 30), none) from by kernel_rfl) (by kernel_rfl) (by kernel_rfl) (by kernel_rfl) (by kernel_rfl) (Nat.mod_lt k hn0) ?_
      refine runC_oldI (b := bY) (j := oy + (k % n) * 3) (z := (lb.getD (k % n) noI)) (show opAt (opsOf Try.f61 5) 15 = some (some 32, .load 66 (.tmp 31), none) from by kernel_rfl) (by kernel_rfl) (by kernel_rfl) (by kernel_rfl) hby CY0.out CY1.out CY2.out ?_
      refine run_callv (f := fid) (first := #[]) (cap := cap) (args := [.agg #[.int .i64 (la.getD (k % m) noI).n, .int .i64 (la.getD (k % m) noI).d, .string (la.getD (k % m) noI).t], .agg #[.int .i64 (lb.getD (k % n) noI).n, .int .i64 (lb.getD (k % n) noI).d, .string (lb.getD (k % n) noI).t]]) (show opAt (opsOf Try.f61 5) 16 = some (some 33, .call { callee := .value (.tmp 18), args := [(.tmp 25), (.tmp 32)].toArray, argTypes := [66, 66].toArray }, none) from by kernel_rfl) (by kernel_rfl) (by kernel_rfl) (by kernel_rfl) GO.out (by kernel_rfl) ?_
      refine (CO.out _ H.out.1).mono ?_
      rintro en rw1 ⟨rfl, hb⟩
      refine ⟨_, rfl, heldC_call H.out hb, ?_⟩
      have H := Lib.hid (heldC_call H.out hb)
      have IR := Lib.hid (IR.out.keep hb)
      clear hb
      refine tail_its (G (la.getD (k % m) noI) (lb.getD (k % n) noI)) (show opAt (opsOf Try.f61 5) 17 = some (some 34, .buildSlice 28 1 #[(0, (.tmp 33))], none) from by kernel_rfl) (by kernel_rfl) (by kernel_rfl) (show opAt (opsOf Try.f61 5) 18 = some (some 35, .call { callee := .builtin .append, args := [(.tmp 17), (.tmp 34)].toArray, argTypes := [28, 28].toArray }, none) from by kernel_rfl) (by kernel_rfl) (fun _ => by kernel_rfl) (show opAt (opsOf Try.f61 5) 19 = some (some 7, .assign (.tmp 35), none) from by kernel_rfl) (by kernel_rfl) IR.out LN.out ?_
      rintro v' w2 hN
      simp only [putAll, Act.put, List.setIfInBounds_toArray, List.set_cons_zero, List.set_cons_succ]
      have NW := Lib.hid (NX.out ▸ hN)
      clear hN
      go_wp2
      go_roundw
      case rel => exact ⟨k + 1, by omega, by go_num, NW.out⟩
      case measure => simp [intOf]; omega
    · obtain rfl : k = N := by omega
      go_wp2
      go_ret
      exact ⟨_, rfl, IR.out⟩
end Go.Proofs.Ytlnjjjoeblopeaa

/- Summaries as data: the elements that are taken, folds, the answers. -/
namespace Go.Proofs.Ytlnjjjoeblopeaa
open Go.RowKit
set_option maxRecDepth 100000
set_option linter.unusedVariables false

/-- "non-numeric argument", "no elements" -/
def nonNumB : ByteArray := ⟨#[110, 111, 110, 45, 110, 117, 109, 101, 114, 105, 99, 32, 97, 114, 103, 117, 109, 101, 110, 116]⟩
def noElB : ByteArray := ⟨#[110, 111, 32, 101, 108, 101, 109, 101, 110, 116, 115]⟩
/-- Is an element taken? -/
def keepI (drop : Bool) (x : It) : Bool := !drop || !(x.d == 0)
def pickL (drop : Bool) (l : List It) : List It := l.filter (keepI drop)
theorem pickL_no (l : List It) : pickL false l = l := by
  unfold pickL
  rw [List.filter_eq_self]
  intro x _
  rfl
theorem pickL_len (drop : Bool) (l : List It) : (pickL drop l).length ≤ l.length := List.length_filter_le _ _
theorem pickL_mem {drop : Bool} {l : List It} {x : It} (h : x ∈ pickL drop l) : x ∈ l := (List.mem_filter.1 h).1
theorem take_one {l : List It} {k : Nat} (hk : k < l.length) : l.take (k + 1) = l.take k ++ [l.getD k noI] := by
  rw [List.take_add_one, List.getElem?_eq_getElem hk, List.getD_eq_getElem?_getD, List.getElem?_eq_getElem hk]
  rfl
theorem pickL_yes {drop : Bool} {l : List It} {k : Nat} (hk : k < l.length) (h : keepI drop (l.getD k noI) = true) : pickL drop (l.take k) ++ [l.getD k noI] = pickL drop (l.take (k + 1)) := by
  rw [take_one hk]
  unfold pickL
  rw [List.filter_append, List.filter_cons, if_pos h, List.filter_nil]
theorem pickL_skip {drop : Bool} {l : List It} {k : Nat} (hk : k < l.length) (h : keepI drop (l.getD k noI) = false) : pickL drop (l.take k) = pickL drop (l.take (k + 1)) := by
  rw [take_one hk]
  unfold pickL
  rw [List.filter_append, List.filter_cons, if_neg (by rw [h]; decide), List.filter_nil, List.append_nil]
theorem pickL_zero (drop : Bool) (l : List It) : pickL drop (l.take 0) = [] := by rw [List.take_zero]; rfl
theorem pickL_kept (drop : Bool) (l : List It) (k : Nat) : (pickL drop (l.take k)).length ≤ k := Nat.le_trans (pickL_len _ _) (by rw [List.length_take]; omega)
theorem fold_one {α : Type} (f : α → It → α) (s : α) {l : List It} {k : Nat} (hk : k < l.length) : (l.take (k + 1)).foldl f s = f ((l.take k).foldl f s) (l.getD k noI) := by
  rw [take_one hk, List.foldl_append]; rfl
theorem fold_zero {α : Type} (f : α → It → α) (s : α) (l : List It) : (l.take 0).foldl f s = s := by rw [List.take_zero]; rfl
theorem fold_full {α : Type} (f : α → It → α) (s : α) (l : List It) : (l.take l.length).foldl f s = l.foldl f s := by rw [List.take_length]

theorem mkI_int {n : Int} (h0 : -999999999 ≤ n) (h1 : n ≤ 999999999) : mkI n 1 = ⟨n, 1, ⟨#[]⟩⟩ := by
  rw [int_mk (by omega) (by omega)]
  unfold ofQ
  rw [Rat.num_intCast, Rat.den_intCast, if_pos ⟨h0, h1, by decide⟩]
  rfl
/-- A result that fits: no text, ints. -/
def GoodI (x : It) : Prop := InB x ∧ x.t = ⟨#[]⟩
theorem good_noI : GoodI noI := ⟨⟨⟨by decide, by decide⟩, ⟨by decide, by decide⟩, Nat.zero_le _⟩, rfl⟩
theorem good_ofQ (r : Rat) : GoodI (ofQ r) := by
  rcases ofQ_cases r with e | ⟨h, _⟩
  · rw [e]; exact good_noI
  · obtain ⟨ht, d0, d1, n0, n1, _⟩ := isN_iff.1 h
    exact ⟨⟨⟨by omega, by omega⟩, ⟨by omega, by omega⟩, by rw [ht]; exact Nat.zero_le _⟩, ht⟩
theorem good_mkI (n d : Int) : GoodI (mkI n d) := by unfold mkI; split; exact good_ofQ _; exact good_noI
theorem good_addI (x y : It) : GoodI (addI x y) := by unfold addI; split; exact good_ofQ _; exact good_noI
theorem good_mulI (x y : It) : GoodI (mulI x y) := by unfold mulI; split; exact good_ofQ _; exact good_noI
theorem good_divI (x y : It) : GoodI (divI x y) := by unfold divI; split; exact good_ofQ _; exact good_noI
theorem good_subI (x y : It) : GoodI (subI x y) := good_addI _ _
theorem good_fold {f : It → It → It} {s : It} (h : ∀ x y, GoodI (f x y)) (hs : GoodI s) (l : List It) : GoodI (l.foldl f s) := by
  induction l generalizing s with
  | nil => exact hs
  | cons x l ih => exact ih (h _ _)
theorem GoodI.t0 {x : It} (h : GoodI x) : x.t.size ≤ 9223372036854775807 := by rw [h.2]; exact Nat.zero_le _

def sumL (l : List It) : It := l.foldl addI (mkI 0 1)
def prodL (l : List It) : It := l.foldl mulI (mkI 1 1)
def meanL (l : List It) : It := divI (sumL l) (mkI l.length 1)
def sqI (m : It) (s x : It) : It := addI s (mulI (subI x m) (subI x m))
def varL (l : List It) : It := divI (l.foldl (sqI (meanL l)) (mkI 0 1)) (mkI ((l.length - 1 : Nat) : Int) 1)
theorem good_sumL (l : List It) : GoodI (sumL l) := good_fold good_addI (good_mkI _ _) l
theorem good_prodL (l : List It) : GoodI (prodL l) := good_fold good_mulI (good_mkI _ _) l
theorem good_meanL (l : List It) : GoodI (meanL l) := good_divI _ _
theorem good_varL (l : List It) : GoodI (varL l) := good_divI _ _
theorem varL_few {l : List It} (h : l.length < 2) : varL l = noI := by
  unfold varL
  rw [show l.length - 1 = 0 by omega]
  unfold divI
  rw [if_neg]
  rintro ⟨_, h⟩
  exact h (by decide)
/-- The running sums. -/
def runL (l : List It) : List It := itF (fun i => sumL (l.take (i + 1))) l.length
theorem sumL_one {l : List It} {k : Nat} (hk : k < l.length) : sumL (l.take (k + 1)) = addI (sumL (l.take k)) (l.getD k noI) := fold_one addI _ hk
theorem sumL_zero (l : List It) : sumL (l.take 0) = mkI 0 1 := fold_zero _ _ _
theorem sumL_full (l : List It) : sumL (l.take l.length) = sumL l := by rw [List.take_length]

/-- The elements of which a summary is made, the problem, the answer. -/
noncomputable def smyL (drop : Bool) (v : Vec) : List It := match bB (ValidV v ∧ Counts v) with | true => pickL drop (itemsV v) | false => []
noncomputable def smyS (u : ByteArray) (v : Vec) : ByteArray := match bB (ValidV v), bB (Counts v) with | false, _ => badB | true, false => u | true, true => ⟨#[]⟩
noncomputable def smyV (S : List It → It) (drop : Bool) (v : Vec) : Vec := match bB (ValidV v ∧ Counts v) with | true => vecOf 2 [S (pickL drop (itemsV v))] | false => noV
theorem smy_yes {v : Vec} (h : ValidV v) (hc : Counts v) (S : List It → It) (drop : Bool) (u : ByteArray) : smyL drop v = pickL drop (itemsV v) ∧ smyS u v = ⟨#[]⟩ ∧ smyV S drop v = vecOf 2 [S (pickL drop (itemsV v))] := by
  unfold smyL smyS smyV
  rw [bB_yes (show ValidV v ∧ Counts v from ⟨h, hc⟩), bB_yes h, bB_yes hc]
  exact ⟨rfl, rfl, rfl⟩
theorem smy_non {v : Vec} (h : ValidV v) (hc : ¬ Counts v) (S : List It → It) (drop : Bool) (u : ByteArray) : smyL drop v = [] ∧ smyS u v = u ∧ smyV S drop v = noV := by
  unfold smyL smyS smyV
  rw [bB_no (show ¬ (ValidV v ∧ Counts v) from fun x => hc x.2), bB_yes h, bB_no hc]
  exact ⟨rfl, rfl, rfl⟩
theorem smy_bad {v : Vec} (h : ¬ ValidV v) (S : List It → It) (drop : Bool) (u : ByteArray) : smyL drop v = [] ∧ smyS u v = badB ∧ smyV S drop v = noV := by
  unfold smyL smyS smyV
  rw [bB_no (show ¬ (ValidV v ∧ Counts v) from fun x => h x.1), bB_no h]
  exact ⟨rfl, rfl, rfl⟩
theorem plain_one {x : It} (h : GoodI x) (k : Int) (hk : -9223372036854775808 ≤ k ∧ k ≤ 9223372036854775807) : PlainN (vecOf k [x]) :=
  .inr ⟨k, [x], [], rfl, hk, by simp, fun y hy => by obtain rfl := List.mem_singleton.1 hy; exact ⟨h.1, by rw [h.2]; exact Nat.zero_le _⟩, Nat.zero_le _, fun s hs => by cases hs⟩
theorem numIt_no : NumIt noI := ⟨rfl, by decide, by decide, by decide, by decide, fun _ => rfl⟩
theorem smyL_num (drop : Bool) (v : Vec) : ∀ x ∈ smyL drop v, NumIt x := by
  intro x hx
  unfold smyL at hx
  by_cases h : ValidV v ∧ Counts v
  · rw [bB_yes h] at hx
    have h1 := pickL_mem hx
    obtain ⟨k, items, parts, names, cls, levels, code, env⟩ := v
    obtain ⟨i, hi, rfl⟩ := List.getElem_of_mem h1
    have := num_at h.1 h.2 (i := i) hi
    rw [List.getD_eq_getElem?_getD, List.getElem?_eq_getElem (show i < items.length from hi)] at this
    exact this
  · rw [bB_no h] at hx; cases hx
theorem smyL_at (drop : Bool) (v : Vec) (i : Nat) : NumIt ((smyL drop v).getD i noI) := by
  rw [List.getD_eq_getElem?_getD]
  by_cases h : i < (smyL drop v).length
  · rw [List.getElem?_eq_getElem h]; exact smyL_num drop v _ (List.getElem_mem h)
  · rw [List.getElem?_eq_none (by omega)]; exact numIt_no
theorem smyL_len (drop : Bool) (v : Vec) : (smyL drop v).length ≤ 40 := by
  unfold smyL
  by_cases h : ValidV v ∧ Counts v
  · rw [bB_yes h]
    refine Nat.le_trans (pickL_len _ _) ?_
    obtain ⟨k, items, parts, names, cls, levels, code, env⟩ := v
    exact count_len h.1 h.2
  · rw [bB_no h]; exact Nat.zero_le _
theorem NumIt.t0 {x : It} (h : NumIt x) : x.t.size ≤ 9223372036854775807 := by rw [h.t]; exact Nat.zero_le _
theorem smy_empty {u : ByteArray} (hu : ¬ u = ⟨#[]⟩) {v : Vec} (h : smyS u v = ⟨#[]⟩) : ValidV v ∧ Counts v := by
  by_cases q : ValidV v
  · by_cases hc : Counts v
    · exact ⟨q, hc⟩
    · rw [(smy_non q hc (fun _ => noI) false u).2.1] at h; exact absurd h hu
  · rw [(smy_bad q (fun _ => noI) false u).2.1] at h; exact absurd h (by decide)
theorem smy_val {u : ByteArray} (hu : ¬ u = ⟨#[]⟩) {v : Vec} (h : smyS u v = ⟨#[]⟩) (S : List It → It) (drop : Bool) : smyV S drop v = vecOf 2 [S (smyL drop v)] := by
  obtain ⟨a, b⟩ := smy_empty hu h
  have := smy_yes a b S drop u
  rw [this.2.2, this.1]
theorem smy_not {u : ByteArray} {v : Vec} (h : ¬ smyS u v = ⟨#[]⟩) (S : List It → It) (drop : Bool) : smyV S drop v = noV ∧ smyL drop v = [] := by
  by_cases q : ValidV v
  · by_cases hc : Counts v
    · exact absurd (smy_yes q hc S drop u).2.1 h
    · exact ⟨(smy_non q hc S drop u).2.2, (smy_non q hc S drop u).1⟩
  · exact ⟨(smy_bad q S drop u).2.2, (smy_bad q S drop u).1⟩
theorem smy_plain {S : List It → It} (hS : ∀ l, GoodI (S l)) (drop : Bool) (v : Vec) : PlainN (smyV S drop v) := by
  unfold smyV
  split
  · exact plain_one (hS _) 2 (by decide)
  · exact .inl rfl
end Go.Proofs.Ytlnjjjoeblopeaa

/- LogicOf as data. -/
namespace Go.Proofs.Ytlnjjjoeblopeaa
open Go.RowKit
set_option maxRecDepth 100000
set_option linter.unusedVariables false

def andB : ByteArray := ⟨#[38]⟩
def orB : ByteArray := ⟨#[124]⟩
/-- "unknown operator" -/
def unkB : ByteArray := ⟨#[117, 110, 107, 110, 111, 119, 110, 32, 111, 112, 101, 114, 97, 116, 111, 114]⟩
/-- "lengths do not match" -/
def lenB : ByteArray := ⟨#[108, 101, 110, 103, 116, 104, 115, 32, 100, 111, 32, 110, 111, 116, 32, 109, 97, 116, 99, 104]⟩
noncomputable def connL (op : ByteArray) (x y : Int) : Int := match bB (op = andB) with | true => aL x y | false => oL x y
def itL (v : Vec) : Nat := (itemsV v).length
def lgcN (a b : Vec) : Int := sizeL (itL a) (itL b)
noncomputable def lgcF (op : ByteArray) (a b : Vec) (i : Nat) : Int := connL op (truthI ((itemsV a).getD (i % itL a) noI)) (truthI ((itemsV b).getD (i % itL b) noI))
noncomputable def lgcS (op : ByteArray) (a b : Vec) : ByteArray := match bB (ValidV a ∧ ValidV b) with
  | false => badB
  | true => match bB (op = andB ∨ op = orB) with
    | false => unkB
    | true => match bB (Counts a ∧ Counts b) with
      | false => nonLogB
      | true => match bB (0 ≤ lgcN a b) with | false => lenB | true => ⟨#[]⟩
noncomputable def lgcV (op : ByteArray) (a b : Vec) : Vec := match bB (ValidV a ∧ ValidV b) with
  | false => noV
  | true => match bB (op = andB ∨ op = orB) with
    | false => noV
    | true => match bB (Counts a ∧ Counts b) with
      | false => noV
      | true => match bB (0 ≤ lgcN a b) with | false => noV | true => mkN 1 (itF (fun i => logI (lgcF op a b i)) (lgcN a b).toNat) (namesL (itL a) (itL b) (lgcN a b).toNat (namesV a) (namesV b))
theorem lgc_bad {op : ByteArray} {a b : Vec} (h : ¬ (ValidV a ∧ ValidV b)) : lgcV op a b = noV ∧ lgcS op a b = badB := by unfold lgcV lgcS; rw [bB_no h]; exact ⟨rfl, rfl⟩
theorem lgc_unk {op : ByteArray} {a b : Vec} (h : ValidV a ∧ ValidV b) (ho : ¬ (op = andB ∨ op = orB)) : lgcV op a b = noV ∧ lgcS op a b = unkB := by unfold lgcV lgcS; rw [bB_yes h, bB_no ho]; exact ⟨rfl, rfl⟩
theorem lgc_non {op : ByteArray} {a b : Vec} (h : ValidV a ∧ ValidV b) (ho : op = andB ∨ op = orB) (hc : ¬ (Counts a ∧ Counts b)) : lgcV op a b = noV ∧ lgcS op a b = nonLogB := by unfold lgcV lgcS; rw [bB_yes h, bB_yes ho, bB_no hc]; exact ⟨rfl, rfl⟩
theorem lgc_len {op : ByteArray} {a b : Vec} (h : ValidV a ∧ ValidV b) (ho : op = andB ∨ op = orB) (hc : Counts a ∧ Counts b) (hn : ¬ 0 ≤ lgcN a b) : lgcV op a b = noV ∧ lgcS op a b = lenB := by unfold lgcV lgcS; rw [bB_yes h, bB_yes ho, bB_yes hc, bB_no hn]; exact ⟨rfl, rfl⟩
theorem lgc_yes {op : ByteArray} {a b : Vec} (h : ValidV a ∧ ValidV b) (ho : op = andB ∨ op = orB) (hc : Counts a ∧ Counts b) (hn : 0 ≤ lgcN a b) : lgcV op a b = mkN 1 (itF (fun i => logI (lgcF op a b i)) (lgcN a b).toNat) (namesL (itL a) (itL b) (lgcN a b).toNat (namesV a) (namesV b)) ∧ lgcS op a b = ⟨#[]⟩ := by
  unfold lgcV lgcS; rw [bB_yes h, bB_yes ho, bB_yes hc, bB_yes hn]; exact ⟨rfl, rfl⟩
theorem conn_and (x y : Int) : connL ⟨#[38]⟩ x y = aL x y := by unfold connL; rw [bB_yes (show (⟨#[38]⟩ : ByteArray) = andB from rfl)]
theorem conn_or {op : ByteArray} (h : ¬ op = ⟨#[38]⟩) (x y : Int) : connL op x y = oL x y := by unfold connL; rw [bB_no (show ¬ op = andB from h)]
noncomputable def cntL (v : Vec) : Nat := match bB (Counts v) with | true => itL v | false => 0
theorem cntL_yes {v : Vec} (h : Counts v) : cntL v = itL v := by unfold cntL; rw [bB_yes h]
theorem cntL_no {v : Vec} (h : ¬ Counts v) : cntL v = 0 := by unfold cntL; rw [bB_no h]
theorem itL_le {v : Vec} (h : ValidV v) (hc : Counts v) : itL v ≤ 40 := by obtain ⟨k, items, parts, names, cls, levels, code, env⟩ := v; exact count_len h hc
theorem cntL_le {v : Vec} (h : ValidV v) : cntL v ≤ 40 := by
  by_cases hc : Counts v
  · rw [cntL_yes hc]; exact itL_le h hc
  · rw [cntL_no hc]; omega
theorem len_counts {k : Int} {items : List It} {parts : List Vec} {names cls levels : List ByteArray} {code env : Int} (h : ValidV (.mk k items parts names cls levels code env)) (hc : Counts (.mk k items parts names cls levels code env)) : lenV k items.length parts.length = items.length := by
  have hf : FlatOk k items parts.length names cls levels code env := h.1.flat
  have hk : k ≤ 2 := hc.1
  unfold lenV
  rw [if_neg (by omega), hf.h_noParts (by omega)]
  omega
theorem specLogU (d : Nat) (v : Vec) (val : Value) (lo hi : Nat) (w : World) (hv : VecAt lo hi w d v val) (hhi : hi ≤ w.heap.size) (hsm : Small d v) (hval : ValidV v) :
    Calls Try.prog 46 #[val] w fun e w' => ∃ sa c, e = .returned (.tuple #[.slice sa (cntL v) c, .bool (bB (Counts v))]) ∧ (Counts v → w'.ownsRow w.heap.size 3 1 (.slice sa (cntL v) c) (cntL v) (intsF (fun i => truthI ((itemsV v).getD i noI)) (cntL v))) ∧ Below w.heap.size w w' := by
  obtain ⟨k, items, parts, names, cls, levels, code, env⟩ := v
  obtain ⟨d', ai, ci, ap, cp, an, cn, ac, cc, al, cl, ed, rfl, hI, hN, hC, hL, hP⟩ := vecAt_open hv
  have li : items.length ≤ 1048576 := by subst ed; exact hsm.1
  by_cases hc : Counts (.mk k items parts names cls levels code env)
  · rw [cntL_yes hc, bB_yes hc]
    refine (specLogY k items ai ap an ac al ci parts.length cp names.length cn cls.length cc levels.length cl code env lo hi w hI hhi hc.1 hc.2 li (fun i hi => num_at hval hc hi)).mono ?_
    rintro e w' ⟨sa, c, rfl, hr, hb⟩
    exact ⟨sa, c, rfl, fun _ => hr, hb⟩
  · rw [cntL_no hc, bB_no hc]
    refine (specLogN k ai ap an ac al items.length ci parts.length cp names.length cn cls.length cc levels.length cl code env w hc).mono ?_
    rintro e w' ⟨⟨sa, c, rfl⟩, hb⟩
    exact ⟨sa, c, rfl, fun h => absurd h hc, hb⟩
theorem str_ne {x y : ByteArray} (h : ¬ x = y) : (x.toList == y.toList) = false := by
  rw [beq_eq_false_iff_ne]
  intro e
  apply h
  rw [ByteArray.toList_eq, ByteArray.toList_eq] at e
  apply ByteArray.ext
  exact Array.toList_inj.1 e
theorem sizeL_le {m n : Nat} (hm : m ≤ 40) (hn : n ≤ 40) : sizeL m n ≤ 40 := by
  unfold sizeL
  split
  · omega
  · split <;> omega
theorem sizeL_pos {m n : Nat} (h : 0 < sizeL m n) : 0 < m ∧ 0 < n := by
  unfold sizeL at h
  by_cases h0 : m = 0 ∨ n = 0
  · rw [if_pos h0] at h; omega
  · omega
end Go.Proofs.Ytlnjjjoeblopeaa

/- Whether operands suit an operator, in the program. -/
namespace Go.Proofs.Ytlnjjjoeblopeaa
open Go.RowKit
set_option maxRecDepth 100000
set_option linter.unusedVariables false

def matchL (m n : Nat) : Prop := 0 ≤ sizeL m n
theorem implMatch (k0 : Int) (ai0 ap0 an0 ac0 al0 : Option Addr) (n0 ci0 np0 cp0 nn0 cn0 nc0 cc0 nl0 cl0 : Nat) (code0 env0 : Int) (k1 : Int) (ai1 ap1 an1 ac1 al1 : Option Addr) (n1 ci1 np1 cp1 nn1 cn1 nc1 cc1 nl1 cl1 : Nat) (code1 env1 : Int) (w : World) (hm : n0 ≤ 1048576) (hn : n1 ≤ 1048576) :
    Calls Try.prog 117 #[.agg #[.int .i64 k0, .slice ai0 n0 ci0, .slice ap0 np0 cp0, .slice an0 nn0 cn0, .slice ac0 nc0 cc0, .slice al0 nl0 cl0, .int .i64 code0, .int .i64 env0], .agg #[.int .i64 k1, .slice ai1 n1 ci1, .slice ap1 np1 cp1, .slice an1 nn1 cn1, .slice ac1 nc1 cc1, .slice al1 nl1 cl1, .int .i64 code1, .int .i64 env1]] w fun e w' => e = .returned (.bool (bB (matchL n0 n1))) ∧ Below w.heap.size w w' := by
  by_cases h0 : n0 = 0 ∨ n1 = 0
  · have X := Lib.hid (show matchL n0 n1 by unfold matchL sizeL; rw [if_pos h0]; decide)
    by_cases hm0 : n0 = 0
    · subst hm0
      clear h0
      go_enter Try.func117, Try.ntmps117
      go_wp2
      all_goals (go_ret; exact ⟨ret_yes X.out, below2 _ _ _⟩)
    · obtain rfl : n1 = 0 := by omega
      have hmp : 0 < n0 := by omega
      clear h0
      go_enter Try.func117, Try.ntmps117
      go_wp2
      go_ret
      exact ⟨ret_yes X.out, below2 _ _ _⟩
  · have hmb : ((n0 : Int) == 0) = false := beq_eq_false_iff_ne.2 (by omega)
    have hnb : ((n1 : Int) == 0) = false := beq_eq_false_iff_ne.2 (by omega)
    have hmp : 0 < n0 := by omega
    have hnp : 0 < n1 := by omega
    rcases Nat.lt_trichotomy n0 n1 with hle | hle | hle
    · have XX := Lib.hid (show sizeL n0 n1 = if n1 % n0 ≠ 0 then -1 else ((n1 : Nat) : Int) by unfold sizeL; rw [if_neg h0, Nat.max_eq_right (Nat.le_of_lt hle), Nat.min_eq_left (Nat.le_of_lt hle)])
      have R : (n1 : Int) % n0 = ((n1 % n0 : Nat) : Int) := rfl
      obtain ⟨r, hr⟩ : ∃ r, n1 % n0 = r := ⟨_, rfl⟩
      rw [hr] at XX R
      clear h0 hr
      by_cases hr : r = 0
      · subst hr
        have X := Lib.hid (show matchL n0 n1 by unfold matchL; rw [XX.out, if_neg (by omega)]; omega)
        go_enter Try.func117, Try.ntmps117
        go_wp2
        go_ret
        exact ⟨ret_yes X.out, below2 _ _ _⟩
      · have X := Lib.hid (show ¬ matchL n0 n1 by unfold matchL; rw [XX.out, if_pos hr]; decide)
        have hrb : ((r : Int) == 0) = false := beq_eq_false_iff_ne.2 (by omega)
        go_enter Try.func117, Try.ntmps117
        go_wp2
        go_ret
        exact ⟨ret_no X.out, below2 _ _ _⟩
    · subst hle
      have X := Lib.hid (show matchL n0 n0 by unfold matchL sizeL; rw [if_neg h0, Nat.max_self, Nat.min_self, Nat.mod_self, if_neg (by omega)]; omega)
      clear h0 hnb hnp
      go_enter Try.func117, Try.ntmps117
      go_wp2
      go_ret
      exact ⟨ret_yes X.out, below2 _ _ _⟩
    · have XX := Lib.hid (show sizeL n0 n1 = if n0 % n1 ≠ 0 then -1 else ((n0 : Nat) : Int) by unfold sizeL; rw [if_neg h0, Nat.max_eq_left (Nat.le_of_lt hle), Nat.min_eq_right (Nat.le_of_lt hle)])
      have R : (n0 : Int) % n1 = ((n0 % n1 : Nat) : Int) := rfl
      obtain ⟨r, hr⟩ : ∃ r, n0 % n1 = r := ⟨_, rfl⟩
      rw [hr] at XX R
      clear h0 hr
      by_cases hr : r = 0
      · subst hr
        have X := Lib.hid (show matchL n0 n1 by unfold matchL; rw [XX.out, if_neg (by omega)]; omega)
        go_enter Try.func117, Try.ntmps117
        go_wp2
        go_ret
        exact ⟨ret_yes X.out, below2 _ _ _⟩
      · have X := Lib.hid (show ¬ matchL n0 n1 by unfold matchL; rw [XX.out, if_pos hr]; decide)
        have hrb : ((r : Int) == 0) = false := beq_eq_false_iff_ne.2 (by omega)
        go_enter Try.func117, Try.ntmps117
        go_wp2
        go_ret
        exact ⟨ret_no X.out, below2 _ _ _⟩
theorem implAre (d0 d1 : Nat) (a b : Vec) (k0 : Int) (ai0 ap0 an0 ac0 al0 : Option Addr) (n0 ci0 np0 cp0 nn0 cn0 nc0 cc0 nl0 cl0 : Nat) (code0 env0 : Int) (k1 : Int) (ai1 ap1 an1 ac1 al1 : Option Addr) (n1 ci1 np1 cp1 nn1 cn1 nc1 cc1 nl1 cl1 : Nat) (code1 env1 : Int) (g lo hi : Nat) (w : World) (h0 : VecAt lo hi w d0 a (.agg #[.int .i64 k0, .slice ai0 n0 ci0, .slice ap0 np0 cp0, .slice an0 nn0 cn0, .slice ac0 nc0 cc0, .slice al0 nl0 cl0, .int .i64 code0, .int .i64 env0])) (h1 : VecAt lo hi w d1 b (.agg #[.int .i64 k1, .slice ai1 n1 ci1, .slice ap1 np1 cp1, .slice an1 nn1 cn1, .slice ac1 nc1 cc1, .slice al1 nl1 cl1, .int .i64 code1, .int .i64 env1])) (hhi : hi ≤ w.heap.size) (hsm0 : Small d0 a) (hsm1 : Small d1 b)
    (hg : w.heap[g]? = some (.cells #[.int .i64 k0, .slice ai0 n0 ci0, .slice ap0 np0 cp0, .slice an0 nn0 cn0, .slice ac0 nc0 cc0, .slice al0 nl0 cl0, .int .i64 code0, .int .i64 env0, .int .i64 k1, .slice ai1 n1 ci1, .slice ap1 np1 cp1, .slice an1 nn1 cn1, .slice ac1 nc1 cc1, .slice al1 nl1 cl1, .int .i64 code1, .int .i64 env1] 31 (0, 0))) :
    Calls Try.prog 116 #[.slice (some ⟨g, 0, none⟩) 2 2] w fun e w' => e = .returned (.bool (bB (ValidV a ∧ ValidV b))) ∧ Below w.heap.size w w' := by
  have CA := Lib.hid (fun (w1 : World) (hb : Below w.heap.size w w1) => implIsVector d0 a (.agg #[.int .i64 k0, .slice ai0 n0 ci0, .slice ap0 np0 cp0, .slice an0 nn0 cn0, .slice ac0 nc0 cc0, .slice al0 nl0 cl0, .int .i64 code0, .int .i64 env0]) lo hi w1 (h0.below hb hhi) (Nat.le_trans hhi hb.size) hsm0)
  have CB := Lib.hid (fun (w1 : World) (hb : Below w.heap.size w w1) => implIsVector d1 b (.agg #[.int .i64 k1, .slice ai1 n1 ci1, .slice ap1 np1 cp1, .slice an1 nn1 cn1, .slice ac1 nc1 cc1, .slice al1 nl1 cl1, .int .i64 code1, .int .i64 env1]) lo hi w1 (h1.below hb hhi) (Nat.le_trans hhi hb.size) hsm1)
  have KG := Lib.hid hg
  have hgw := (Array.getElem?_eq_some_iff.1 hg).1
  clear h0 h1 hsm0 hsm1 hg
  go_enter Try.func116, Try.ntmps116
  go_wp2
  go_loopw [7] (fun i wr => ∃ k : Nat, k ≤ 2 ∧ i = .int .i64 k ∧ (0 < k → ValidV a) ∧ (1 < k → ValidV b) ∧ Below w.heap.size w wr) (fun i _ => 2 - (intOf i).toNat)
  case atStart => exact ⟨0, by omega, rfl, fun h => absurd h (by omega), fun h => absurd h (by omega), Below.refl _ _⟩
  case round =>
    obtain ⟨k, hk, rfl, ha, hb, hbw⟩ := hrel
    have BW := Lib.hid hbw
    have KGW := Lib.hid (blk_below hbw KG.out)
    have PA := Lib.hid ha
    have PB := Lib.hid hb
    clear hbw ha hb
    have hgr := (Array.getElem?_eq_some_iff.1 KGW.out).1
    rcases (show k = 0 ∨ k = 1 ∨ k = 2 by omega) with rfl | rfl | rfl
    · have g0 : wr.cell? ⟨g, 0, none⟩ = some (.int .i64 k0) := cellOf KGW.out rfl
      have g1 : wr.cell? ⟨g, 1, none⟩ = some (.slice ai0 n0 ci0) := cellOf KGW.out rfl
      have g2 : wr.cell? ⟨g, 2, none⟩ = some (.slice ap0 np0 cp0) := cellOf KGW.out rfl
      have g3 : wr.cell? ⟨g, 3, none⟩ = some (.slice an0 nn0 cn0) := cellOf KGW.out rfl
      have g4 : wr.cell? ⟨g, 4, none⟩ = some (.slice ac0 nc0 cc0) := cellOf KGW.out rfl
      have g5 : wr.cell? ⟨g, 5, none⟩ = some (.slice al0 nl0 cl0) := cellOf KGW.out rfl
      have g6 : wr.cell? ⟨g, 6, none⟩ = some (.int .i64 code0) := cellOf KGW.out rfl
      have g7 : wr.cell? ⟨g, 7, none⟩ = some (.int .i64 env0) := cellOf KGW.out rfl
      go_wp2_with fail
      with_reducible refine (CA.out _ (BW.out.alloc BW.out.size _)).mono ?_
      rintro e w' ⟨rfl, b'⟩
      have BN := Lib.hid ((BW.out.alloc BW.out.size (.cells #[.int .i64 k0, .slice ai0 n0 ci0, .slice ap0 np0 cp0, .slice an0 nn0 cn0, .slice ac0 nc0 cc0, .slice al0 nl0 cl0, .int .i64 code0, .int .i64 env0] 31)).trans (b'.mono (by have := BW.out.size; simp; omega)))
      clear b'
      by_cases q : ValidV a
      · rw [bB_yes q]
        have Q := Lib.hid q
        clear q
        go_wp2
        go_roundw
        case rel => exact ⟨1, by omega, by go_num, fun _ => Q.out, fun h => absurd h (by omega), BN.out⟩
        case measure => simp [intOf]
      · rw [bB_no q]
        have X := Lib.hid (fun h : ValidV a ∧ ValidV b => q h.1)
        clear q
        go_wp2
        go_ret
        exact ⟨ret_no X.out, BN.out⟩
    · have g0 : wr.cell? ⟨g, 8, none⟩ = some (.int .i64 k1) := cellOf KGW.out rfl
      have g1 : wr.cell? ⟨g, 9, none⟩ = some (.slice ai1 n1 ci1) := cellOf KGW.out rfl
      have g2 : wr.cell? ⟨g, 10, none⟩ = some (.slice ap1 np1 cp1) := cellOf KGW.out rfl
      have g3 : wr.cell? ⟨g, 11, none⟩ = some (.slice an1 nn1 cn1) := cellOf KGW.out rfl
      have g4 : wr.cell? ⟨g, 12, none⟩ = some (.slice ac1 nc1 cc1) := cellOf KGW.out rfl
      have g5 : wr.cell? ⟨g, 13, none⟩ = some (.slice al1 nl1 cl1) := cellOf KGW.out rfl
      have g6 : wr.cell? ⟨g, 14, none⟩ = some (.int .i64 code1) := cellOf KGW.out rfl
      have g7 : wr.cell? ⟨g, 15, none⟩ = some (.int .i64 env1) := cellOf KGW.out rfl
      go_wp2_with fail
      with_reducible refine (CB.out _ (BW.out.alloc BW.out.size _)).mono ?_
      rintro e w' ⟨rfl, b'⟩
      have BN := Lib.hid ((BW.out.alloc BW.out.size (.cells #[.int .i64 k1, .slice ai1 n1 ci1, .slice ap1 np1 cp1, .slice an1 nn1 cn1, .slice ac1 nc1 cc1, .slice al1 nl1 cl1, .int .i64 code1, .int .i64 env1] 31)).trans (b'.mono (by have := BW.out.size; simp; omega)))
      clear b'
      have QA := Lib.hid (PA.out (by omega))
      by_cases q : ValidV b
      · rw [bB_yes q]
        have Q := Lib.hid q
        clear q
        go_wp2
        go_roundw
        case rel => exact ⟨2, by omega, by go_num, fun _ => QA.out, fun _ => Q.out, BN.out⟩
        case measure => simp [intOf]
      · rw [bB_no q]
        have X := Lib.hid (fun h : ValidV a ∧ ValidV b => q h.2)
        clear q
        go_wp2
        go_ret
        exact ⟨ret_no X.out, BN.out⟩
    · have X := Lib.hid (show ValidV a ∧ ValidV b from ⟨PA.out (by omega), PB.out (by omega)⟩)
      go_wp2
      go_ret
      exact ⟨ret_yes X.out, BW.out⟩
/-- What problemOfOperands finds where the operands must count as numbers. -/
noncomputable def prbB (known : Bool) (a b : Vec) (uns : ByteArray) : ByteArray := match bB (ValidV a ∧ ValidV b) with
  | false => badB
  | true => match known with
    | false => unkB
    | true => match bB (Counts a ∧ Counts b) with
      | false => uns
      | true => match bB (matchL (itL a) (itL b)) with | false => lenB | true => ⟨#[]⟩
set_option maxHeartbeats 2000000 in
theorem implPrb (d0 d1 : Nat) (a b : Vec) (va vb : Value) (known : Bool) (uns : ByteArray) (lo hi : Nat) (w : World) (h0 : VecAt lo hi w d0 a va) (h1 : VecAt lo hi w d1 b vb) (hhi : hi ≤ w.heap.size) (hsm0 : Small d0 a) (hsm1 : Small d1 b) :
    Calls Try.prog 56 #[.bool known, va, vb, .func (.func 57) #[] #[], .string uns] w fun e w' => e = .returned (.string (prbB known a b uns)) ∧ Below w.heap.size w w' := by
  have K0 := Lib.hid (fun (w1 : World) (hb : Below w.heap.size w w1) => h0.below hb hhi)
  have K1 := Lib.hid (fun (w1 : World) (hb : Below w.heap.size w w1) => h1.below hb hhi)
  have HS0 := Lib.hid hsm0
  have HS1 := Lib.hid hsm1
  obtain ⟨VA, hVA⟩ : ∃ V, a = V := ⟨_, rfl⟩
  obtain ⟨VB, hVB⟩ : ∃ V, b = V := ⟨_, rfl⟩
  obtain ⟨k0, items0, parts0, names0, cls0, lev0, code0, env0⟩ := a
  obtain ⟨d0', ai0, ci0, ap0, cp0, an0, cn0, ac0, cc0, al0, cl0, ed0, rfl, hI0, hN0, hC0, hL0, hP0⟩ := vecAt_open h0
  have li0 : items0.length ≤ 1048576 := by subst ed0; exact hsm0.1
  have CX0 := Lib.hid (fun (W : World) => (by
    by_cases hc : Counts (.mk k0 items0 parts0 names0 cls0 lev0 code0 env0)
    · rw [bB_yes hc]; exact implCountsY k0 ai0 ap0 an0 ac0 al0 items0.length ci0 parts0.length cp0 names0.length cn0 cls0.length cc0 lev0.length cl0 code0 env0 W hc.1 hc.2
    · rw [bB_no hc]; exact implCountsN k0 ai0 ap0 an0 ac0 al0 items0.length ci0 parts0.length cp0 names0.length cn0 cls0.length cc0 lev0.length cl0 code0 env0 W hc : Calls Try.prog 57 #[.agg #[.int .i64 k0, .slice ai0 items0.length ci0, .slice ap0 parts0.length cp0, .slice an0 names0.length cn0, .slice ac0 cls0.length cc0, .slice al0 lev0.length cl0, .int .i64 code0, .int .i64 env0]] W (fun e w' => e = .returned (.bool (bB (Counts (.mk k0 items0 parts0 names0 cls0 lev0 code0 env0)))) ∧ Below W.heap.size W w')))
  have IT0 := Lib.hid (show itL (.mk k0 items0 parts0 names0 cls0 lev0 code0 env0) = items0.length from rfl)
  rw [hVA] at CX0 IT0 ⊢
  obtain ⟨n0, hn0⟩ : ∃ n, items0.length = n := ⟨_, rfl⟩
  obtain ⟨np0, hnp0⟩ : ∃ n, parts0.length = n := ⟨_, rfl⟩
  obtain ⟨nn0, hnn0⟩ : ∃ n, names0.length = n := ⟨_, rfl⟩
  obtain ⟨nc0, hnc0⟩ : ∃ n, cls0.length = n := ⟨_, rfl⟩
  obtain ⟨nl0, hnl0⟩ : ∃ n, lev0.length = n := ⟨_, rfl⟩
  rw [hn0] at CX0 IT0 li0 K0 ⊢
  rw [hnp0, hnn0, hnc0, hnl0] at CX0 K0 ⊢
  clear hn0 hnp0 hnn0 hnc0 hnl0 hI0 hN0 hC0 hL0 hP0 ed0
  obtain ⟨k1, items1, parts1, names1, cls1, lev1, code1, env1⟩ := b
  obtain ⟨d1', ai1, ci1, ap1, cp1, an1, cn1, ac1, cc1, al1, cl1, ed1, rfl, hI1, hN1, hC1, hL1, hP1⟩ := vecAt_open h1
  have li1 : items1.length ≤ 1048576 := by subst ed1; exact hsm1.1
  have CX1 := Lib.hid (fun (W : World) => (by
    by_cases hc : Counts (.mk k1 items1 parts1 names1 cls1 lev1 code1 env1)
    · rw [bB_yes hc]; exact implCountsY k1 ai1 ap1 an1 ac1 al1 items1.length ci1 parts1.length cp1 names1.length cn1 cls1.length cc1 lev1.length cl1 code1 env1 W hc.1 hc.2
    · rw [bB_no hc]; exact implCountsN k1 ai1 ap1 an1 ac1 al1 items1.length ci1 parts1.length cp1 names1.length cn1 cls1.length cc1 lev1.length cl1 code1 env1 W hc : Calls Try.prog 57 #[.agg #[.int .i64 k1, .slice ai1 items1.length ci1, .slice ap1 parts1.length cp1, .slice an1 names1.length cn1, .slice ac1 cls1.length cc1, .slice al1 lev1.length cl1, .int .i64 code1, .int .i64 env1]] W (fun e w' => e = .returned (.bool (bB (Counts (.mk k1 items1 parts1 names1 cls1 lev1 code1 env1)))) ∧ Below W.heap.size W w')))
  have IT1 := Lib.hid (show itL (.mk k1 items1 parts1 names1 cls1 lev1 code1 env1) = items1.length from rfl)
  rw [hVB] at CX1 IT1 ⊢
  obtain ⟨n1, hn1⟩ : ∃ n, items1.length = n := ⟨_, rfl⟩
  obtain ⟨np1, hnp1⟩ : ∃ n, parts1.length = n := ⟨_, rfl⟩
  obtain ⟨nn1, hnn1⟩ : ∃ n, names1.length = n := ⟨_, rfl⟩
  obtain ⟨nc1, hnc1⟩ : ∃ n, cls1.length = n := ⟨_, rfl⟩
  obtain ⟨nl1, hnl1⟩ : ∃ n, lev1.length = n := ⟨_, rfl⟩
  rw [hn1] at CX1 IT1 li1 K1 ⊢
  rw [hnp1, hnn1, hnc1, hnl1] at CX1 K1 ⊢
  clear hn1 hnp1 hnn1 hnc1 hnl1 hI1 hN1 hC1 hL1 hP1 ed1
  have CV := Lib.hid (fun (g : Nat) (w1 : World) (hb : Below w.heap.size w w1) (hg : w1.heap[g]? = some (.cells #[.int .i64 k0, .slice ai0 n0 ci0, .slice ap0 np0 cp0, .slice an0 nn0 cn0, .slice ac0 nc0 cc0, .slice al0 nl0 cl0, .int .i64 code0, .int .i64 env0, .int .i64 k1, .slice ai1 n1 ci1, .slice ap1 np1 cp1, .slice an1 nn1 cn1, .slice ac1 nc1 cc1, .slice al1 nl1 cl1, .int .i64 code1, .int .i64 env1] 31 (0, 0))) => (by
    have h := implAre d0 d1 _ _ k0 ai0 ap0 an0 ac0 al0 n0 ci0 np0 cp0 nn0 cn0 nc0 cc0 nl0 cl0 code0 env0 k1 ai1 ap1 an1 ac1 al1 n1 ci1 np1 cp1 nn1 cn1 nc1 cc1 nl1 cl1 code1 env1 g lo hi w1 (K0.out w1 hb) (K1.out w1 hb) (Nat.le_trans hhi hb.size) HS0.out HS1.out hg
    rw [hVA, hVB] at h
    exact h : Calls Try.prog 116 #[.slice (some ⟨g, 0, none⟩) 2 2] w1 (fun e w' => e = .returned (.bool (bB (ValidV VA ∧ ValidV VB))) ∧ Below w1.heap.size w1 w')))
  have CM := Lib.hid (fun W => implMatch k0 ai0 ap0 an0 ac0 al0 n0 ci0 np0 cp0 nn0 cn0 nc0 cc0 nl0 cl0 code0 env0 k1 ai1 ap1 an1 ac1 al1 n1 ci1 np1 cp1 nn1 cn1 nc1 cc1 nl1 cl1 code1 env1 W li0 li1)
  have XP := Lib.hid (show prbB known VA VB uns = match bB (ValidV VA ∧ ValidV VB) with
    | false => badB
    | true => match known with
      | false => unkB
      | true => match bB (Counts VA ∧ Counts VB) with
        | false => uns
        | true => match bB (matchL n0 n1) with | false => lenB | true => ⟨#[]⟩ by unfold prbB; rw [IT0.out, IT1.out])
  obtain ⟨R, hR⟩ : ∃ R, prbB known VA VB uns = R := ⟨_, rfl⟩
  rw [hR] at XP ⊢
  clear h0 h1 hsm0 hsm1 HS0 HS1 K0 K1 hVA hVB hR
  go_enter Try.func56, Try.ntmps56
  go_wp2_with fail
  obtain ⟨w1, hw1⟩ : ∃ W, ((w.alloc (.cells #[.int .i64 k0, .slice ai0 n0 ci0, .slice ap0 np0 cp0, .slice an0 nn0 cn0, .slice ac0 nc0 cc0, .slice al0 nl0 cl0, .int .i64 code0, .int .i64 env0] 31)).alloc (.cells #[.int .i64 k1, .slice ai1 n1 ci1, .slice ap1 np1 cp1, .slice an1 nn1 cn1, .slice ac1 nc1 cc1, .slice al1 nl1 cl1, .int .i64 code1, .int .i64 env1] 31)).alloc (.cells #[.int .i64 k0, .slice ai0 n0 ci0, .slice ap0 np0 cp0, .slice an0 nn0 cn0, .slice ac0 nc0 cc0, .slice al0 nl0 cl0, .int .i64 code0, .int .i64 env0, .int .i64 k1, .slice ai1 n1 ci1, .slice ap1 np1 cp1, .slice an1 nn1 cn1, .slice ac1 nc1 cc1, .slice al1 nl1 cl1, .int .i64 code1, .int .i64 env1] 31) = W := ⟨_, rfl⟩
  have hsz1 : (w.alloc (.cells #[.int .i64 k0, .slice ai0 n0 ci0, .slice ap0 np0 cp0, .slice an0 nn0 cn0, .slice ac0 nc0 cc0, .slice al0 nl0 cl0, .int .i64 code0, .int .i64 env0] 31)).heap.size = w.heap.size + 1 := by simp
  have hsz2 : ((w.alloc (.cells #[.int .i64 k0, .slice ai0 n0 ci0, .slice ap0 np0 cp0, .slice an0 nn0 cn0, .slice ac0 nc0 cc0, .slice al0 nl0 cl0, .int .i64 code0, .int .i64 env0] 31)).alloc (.cells #[.int .i64 k1, .slice ai1 n1 ci1, .slice ap1 np1 cp1, .slice an1 nn1 cn1, .slice ac1 nc1 cc1, .slice al1 nl1 cl1, .int .i64 code1, .int .i64 env1] 31)).heap.size = w.heap.size + 1 + 1 := by simp
  have B1 := Lib.hid (show Below w.heap.size w w1 from hw1 ▸ (below2 w _ _).alloc (by simp; omega) _)
  have KA := Lib.hid (show w1.heap[w.heap.size]? = some (.cells #[.int .i64 k0, .slice ai0 n0 ci0, .slice ap0 np0 cp0, .slice an0 nn0 cn0, .slice ac0 nc0 cc0, .slice al0 nl0 cl0, .int .i64 code0, .int .i64 env0] 31 (0, 0)) from hw1 ▸ blk_old (blk_old (blk_new w _ rfl)))
  have KB := Lib.hid (show w1.heap[w.heap.size + 1]? = some (.cells #[.int .i64 k1, .slice ai1 n1 ci1, .slice ap1 np1 cp1, .slice an1 nn1 cn1, .slice ac1 nc1 cc1, .slice al1 nl1 cl1, .int .i64 code1, .int .i64 env1] 31 (0, 0)) from hw1 ▸ blk_old (hsz1 ▸ blk_new (w.alloc (.cells #[.int .i64 k0, .slice ai0 n0 ci0, .slice ap0 np0 cp0, .slice an0 nn0 cn0, .slice ac0 nc0 cc0, .slice al0 nl0 cl0, .int .i64 code0, .int .i64 env0] 31)) (.cells #[.int .i64 k1, .slice ai1 n1 ci1, .slice ap1 np1 cp1, .slice an1 nn1 cn1, .slice ac1 nc1 cc1, .slice al1 nl1 cl1, .int .i64 code1, .int .i64 env1] 31) rfl))
  have KG := Lib.hid (show w1.heap[w.heap.size + 1 + 1]? = some (.cells #[.int .i64 k0, .slice ai0 n0 ci0, .slice ap0 np0 cp0, .slice an0 nn0 cn0, .slice ac0 nc0 cc0, .slice al0 nl0 cl0, .int .i64 code0, .int .i64 env0, .int .i64 k1, .slice ai1 n1 ci1, .slice ap1 np1 cp1, .slice an1 nn1 cn1, .slice ac1 nc1 cc1, .slice al1 nl1 cl1, .int .i64 code1, .int .i64 env1] 31 (0, 0)) from hw1 ▸ hsz2 ▸ blk_new ((w.alloc (.cells #[.int .i64 k0, .slice ai0 n0 ci0, .slice ap0 np0 cp0, .slice an0 nn0 cn0, .slice ac0 nc0 cc0, .slice al0 nl0 cl0, .int .i64 code0, .int .i64 env0] 31)).alloc (.cells #[.int .i64 k1, .slice ai1 n1 ci1, .slice ap1 np1 cp1, .slice an1 nn1 cn1, .slice ac1 nc1 cc1, .slice al1 nl1 cl1, .int .i64 code1, .int .i64 env1] 31)) (.cells #[.int .i64 k0, .slice ai0 n0 ci0, .slice ap0 np0 cp0, .slice an0 nn0 cn0, .slice ac0 nc0 cc0, .slice al0 nl0 cl0, .int .i64 code0, .int .i64 env0, .int .i64 k1, .slice ai1 n1 ci1, .slice ap1 np1 cp1, .slice an1 nn1 cn1, .slice ac1 nc1 cc1, .slice al1 nl1 cl1, .int .i64 code1, .int .i64 env1] 31) rfl)
  rw [hw1]
  clear hw1 hsz1 hsz2
  with_reducible refine (CV.out _ _ B1.out KG.out).mono ?_
  rintro e w2 ⟨rfl, b⟩
  have B2 := Lib.hid (below_then B1.out b)
  have KA := Lib.hid (blk_below b KA.out)
  have KB := Lib.hid (blk_below b KB.out)
  clear b KG
  by_cases q : ValidV VA ∧ ValidV VB
  · have XP := Lib.hid (by have h := XP.out; rw [bB_yes q] at h; exact h)
    rw [bB_yes q]
    clear q
    cases known with
    | false =>
      go_wp2
      go_ret
      rw [XP.out]
      exact ⟨rfl, B2.out⟩
    | true =>
      obtain ⟨ka0, ka1, ka2, ka3, ka4, ka5, ka6, ka7⟩ := vec8 KA.out
      go_wp2_with fail
      with_reducible refine (CX0.out _).mono ?_
      rintro e w3 ⟨rfl, b⟩
      have B3 := Lib.hid (below_then B2.out b)
      have KA := Lib.hid (blk_below b KA.out)
      have KB := Lib.hid (blk_below b KB.out)
      clear b ka0 ka1 ka2 ka3 ka4 ka5 ka6 ka7
      by_cases ca : Counts VA
      · rw [bB_yes ca]
        obtain ⟨kb0, kb1, kb2, kb3, kb4, kb5, kb6, kb7⟩ := vec8 KB.out
        go_wp2_with fail
        with_reducible refine (CX1.out _).mono ?_
        rintro e w4 ⟨rfl, b⟩
        have B4 := Lib.hid (below_then B3.out b)
        have KA := Lib.hid (blk_below b KA.out)
        have KB := Lib.hid (blk_below b KB.out)
        clear b kb0 kb1 kb2 kb3 kb4 kb5 kb6 kb7
        by_cases cb : Counts VB
        · rw [bB_yes cb]
          have XP := Lib.hid (by have h := XP.out; rw [bB_yes (And.intro ca cb)] at h; exact h)
          clear ca cb
          obtain ⟨ka0, ka1, ka2, ka3, ka4, ka5, ka6, ka7⟩ := vec8 KA.out
          obtain ⟨kb0, kb1, kb2, kb3, kb4, kb5, kb6, kb7⟩ := vec8 KB.out
          go_wp2_with fail
          with_reducible refine (CM.out _).mono ?_
          rintro e w5 ⟨rfl, b⟩
          have B5 := Lib.hid (below_then B4.out b)
          clear b ka0 ka1 ka2 ka3 ka4 ka5 ka6 ka7 kb0 kb1 kb2 kb3 kb4 kb5 kb6 kb7
          by_cases cm : matchL n0 n1
          · rw [bB_yes cm]
            have XP := Lib.hid (by have h := XP.out; rw [bB_yes cm] at h; exact h)
            clear cm
            go_wp2
            go_ret
            rw [XP.out]
            exact ⟨rfl, B5.out⟩
          · rw [bB_no cm]
            have XP := Lib.hid (by have h := XP.out; rw [bB_no cm] at h; exact h)
            clear cm
            go_wp2
            go_ret
            rw [XP.out]
            exact ⟨rfl, B5.out⟩
        · rw [bB_no cb]
          have XP := Lib.hid (by have h := XP.out; rw [bB_no (fun h : Counts VA ∧ Counts VB => cb h.2)] at h; exact h)
          clear ca cb
          go_wp2
          go_ret
          rw [XP.out]
          exact ⟨rfl, B4.out⟩
      · rw [bB_no ca]
        have XP := Lib.hid (by have h := XP.out; rw [bB_no (fun h : Counts VA ∧ Counts VB => ca h.1)] at h; exact h)
        clear ca
        go_wp2
        go_ret
        rw [XP.out]
        exact ⟨rfl, B3.out⟩
  · have XP := Lib.hid (by have h := XP.out; rw [bB_no q] at h; exact h)
    rw [bB_no q]
    clear q
    go_wp2
    go_ret
    rw [XP.out]
    exact ⟨rfl, B2.out⟩
end Go.Proofs.Ytlnjjjoeblopeaa

/- The closure of LogicOf in the program. -/
namespace Go.Proofs.Ytlnjjjoeblopeaa
open Go.RowKit
set_option maxRecDepth 100000
set_option linter.unusedVariables false

theorem load_fn {w' : World} {p : Addr} {v : Value} (h : w'.cell? p = some v) : (Instr.loadAt 60 (.pointer (some p))).run Try.prog w' = .ok v w' := by
  simp [Instr.loadAt, go_sem, h]
theorem item_row_ret {fn : Func} {R : Ending → World → Prop} {act : Act} {w : World} {g : Nat} {p : Tmp} {a b c : Value} {t : TypeId} {fr : Nat × Nat}
    (hfn : fn.results = #[.cell p 66]) (hp : act.tmps.getD p undef = .pointer (some ⟨g, 0, none⟩)) (hd : act.defers = []) (hg : w.heap[g]? = some (.cells #[a, b, c] t fr))
    (hR : R (.returned (.agg #[a, b, c])) w) : bodyPost Try.prog fn R .ret act w :=
  bodyPost_ret (results_cell_row hfn _ _ g t #[a, b, c] fr _ hp hg Try.underlying66 rfl infoItem) hd hR
set_option maxHeartbeats 1000000 in
theorem implClo (fo : FuncId) (cn : Int → Int → Int) (x y : It) (g : Nat) (w : World) (hgo : callsGo Try.prog fo = true)
    (hc : ∀ W, Calls Try.prog fo (#[] ++ #[.int .i64 (truthI x), .int .i64 (truthI y)] ++ #[]) W fun e w' => e = .returned (.int .i64 (cn (truthI x) (truthI y))) ∧ Below W.heap.size W w') (h3 : L3 (cn (truthI x) (truthI y)))
    (hx : NumIt x) (hy : NumIt y) (hg : w.heap[g]? = some (.cells #[.func (.func fo) #[] #[]] 60 (0, 0))) :
    Calls Try.prog 58 #[.agg #[.int .i64 x.n, .int .i64 x.d, .string x.t], .agg #[.int .i64 y.n, .int .i64 y.d, .string y.t], .pointer (some ⟨g, 0, none⟩)] w fun e w' => e = .returned (.agg #[.int .i64 (logI (cn (truthI x) (truthI y))).n, .int .i64 (logI (cn (truthI x) (truthI y))).d, .string (logI (cn (truthI x) (truthI y))).t]) ∧ Below w.heap.size w w' := by
  have CX := Lib.hid (fun W => implTruth x W hx)
  have CY := Lib.hid (fun W => implTruth y W hy)
  have CF := Lib.hid hc
  have GO := Lib.hid hgo
  have CI := Lib.hid (fun W => implLogItem (cn (truthI x) (truthI y)) W h3)
  have KG0 := Lib.hid hg
  have hgw := (Array.getElem?_eq_some_iff.1 hg).1
  clear hc hgo hx hy hg h3
  go_enter Try.func58, Try.ntmps58
  go_upto_region 1 with (fail)
  obtain ⟨w1, hw1⟩ : ∃ W, ((w.alloc (.cells #[.int .i64 x.n, .int .i64 x.d, .string x.t] 66)).alloc (.cells #[.int .i64 y.n, .int .i64 y.d, .string y.t] 66)).alloc (.cells #[.int .i64 0, .int .i64 0, .string ⟨#[]⟩] 66) = W := ⟨_, rfl⟩
  have hsz1 : (w.alloc (.cells #[.int .i64 x.n, .int .i64 x.d, .string x.t] 66)).heap.size = w.heap.size + 1 := by simp
  have hsz2 : ((w.alloc (.cells #[.int .i64 x.n, .int .i64 x.d, .string x.t] 66)).alloc (.cells #[.int .i64 y.n, .int .i64 y.d, .string y.t] 66)).heap.size = w.heap.size + 1 + 1 := by simp
  have B1 := Lib.hid (show Below w.heap.size w w1 from hw1 ▸ (below2 w _ _).alloc (by simp; omega) _)
  have K0 := Lib.hid (show w1.heap[w.heap.size]? = some (.cells #[.int .i64 x.n, .int .i64 x.d, .string x.t] 66 (0, 0)) from hw1 ▸ blk_old (blk_old (blk_new w _ rfl)))
  have K1 := Lib.hid (show w1.heap[w.heap.size + 1]? = some (.cells #[.int .i64 y.n, .int .i64 y.d, .string y.t] 66 (0, 0)) from hw1 ▸ blk_old (hsz1 ▸ blk_new (w.alloc (.cells #[.int .i64 x.n, .int .i64 x.d, .string x.t] 66)) (.cells #[.int .i64 y.n, .int .i64 y.d, .string y.t] 66) rfl))
  have K2 := Lib.hid (show w1.heap[w.heap.size + 1 + 1]? = some (.cells #[.int .i64 0, .int .i64 0, .string ⟨#[]⟩] 66 (0, 0)) from hw1 ▸ hsz2 ▸ blk_new ((w.alloc (.cells #[.int .i64 x.n, .int .i64 x.d, .string x.t] 66)).alloc (.cells #[.int .i64 y.n, .int .i64 y.d, .string y.t] 66)) (.cells #[.int .i64 0, .int .i64 0, .string ⟨#[]⟩] 66) rfl)
  rw [hw1]
  clear hw1 hsz1 hsz2
  have H := Lib.hid (show HeldC w w1 ([(g, 60, #[.func (.func fo) #[] #[]]), (w.heap.size, 66, #[.int .i64 x.n, .int .i64 x.d, .string x.t]), ((w.heap.size + 1), 66, #[.int .i64 y.n, .int .i64 y.d, .string y.t]), ((w.heap.size + 1 + 1), 66, #[.int .i64 0, .int .i64 0, .string ⟨#[]⟩])]) from heldC_cons (heldC_cons (heldC_cons (heldC_cons ⟨B1.out, (fun _ h => by cases h)⟩ K2.out) K1.out) K0.out) ((B1.out.block g hgw).trans KG0.out))
  refine run_region (ops := (opsOf Try.f58 1)) (S := fun w' => HeldC w w' ([(g, 60, #[.func (.func fo) #[] #[]]), (w.heap.size, 66, #[.int .i64 x.n, .int .i64 x.d, .string x.t]), ((w.heap.size + 1), 66, #[.int .i64 y.n, .int .i64 y.d, .string y.t]), ((w.heap.size + 1 + 1), 66, #[.int .i64 0, .int .i64 0, .string ⟨#[]⟩])])) [(0, true), (1, true), (3, true), (2, false), (4, false), (5, false), (6, false), (7, false)] (by kernel_rfl) (by kernel_rfl) (by kernel_rfl) (by kernel_rfl) (by kernel_rfl) (fun _ _ _ _ _ h => h) (heldC_drew H.out) ?_
  have H := Lib.hid (heldC_drew H.out)
  refine runC_cell (b := g) (j := 0) (v := .func (.func fo) #[] #[]) load_fn (show opAt (opsOf Try.f58 1) 0 = some (some 6, .load 60 (.tmp 2), none) from by kernel_rfl) (by kernel_rfl) (by kernel_rfl) (by kernel_rfl) (List.Mem.head _) rfl ?_
  refine runC_itm (b := w.heap.size) (show opAt (opsOf Try.f58 1) 1 = some (some 7, .load 66 (.tmp 3), none) from by kernel_rfl) (by kernel_rfl) (by kernel_rfl) (by kernel_rfl) (List.Mem.tail _ (List.Mem.head _)) ?_
  refine runC_itm (b := (w.heap.size + 1)) (show opAt (opsOf Try.f58 1) 3 = some (some 9, .load 66 (.tmp 4), none) from by kernel_rfl) (by kernel_rfl) (by kernel_rfl) (by kernel_rfl) (List.Mem.tail _ (List.Mem.tail _ (List.Mem.head _))) ?_
  refine run_call (args := [.agg #[.int .i64 x.n, .int .i64 x.d, .string x.t]]) (show opAt (opsOf Try.f58 1) 2 = some (some 8, .call { callee := .value (.func 60), args := [(.tmp 7)].toArray, argTypes := [66].toArray }, none) from by kernel_rfl) (by kernel_rfl) (by kernel_rfl) (by kernel_rfl) (by kernel_rfl) ?_
  refine (CX.out _).mono ?_
  rintro en rw1 ⟨rfl, hb⟩
  refine ⟨_, rfl, heldC_call H.out hb, ?_⟩
  have H := Lib.hid (heldC_call H.out hb)
  clear hb
  refine run_call (args := [.agg #[.int .i64 y.n, .int .i64 y.d, .string y.t]]) (show opAt (opsOf Try.f58 1) 4 = some (some 10, .call { callee := .value (.func 60), args := [(.tmp 9)].toArray, argTypes := [66].toArray }, none) from by kernel_rfl) (by kernel_rfl) (by kernel_rfl) (by kernel_rfl) (by kernel_rfl) ?_
  refine (CY.out _).mono ?_
  rintro en rw2 ⟨rfl, hb⟩
  refine ⟨_, rfl, heldC_call H.out hb, ?_⟩
  have H := Lib.hid (heldC_call H.out hb)
  clear hb
  refine run_callv (f := fo) (first := #[]) (cap := #[]) (args := [.int .i64 ((truthI x)), .int .i64 ((truthI y))]) (show opAt (opsOf Try.f58 1) 5 = some (some 11, .call { callee := .value (.tmp 6), args := [(.tmp 8), (.tmp 10)].toArray, argTypes := [68, 68].toArray }, none) from by kernel_rfl) (by kernel_rfl) (by kernel_rfl) (by kernel_rfl) GO.out (by kernel_rfl) ?_
  refine (CF.out _).mono ?_
  rintro en rw3 ⟨rfl, hb⟩
  refine ⟨_, rfl, heldC_call H.out hb, ?_⟩
  have H := Lib.hid (heldC_call H.out hb)
  clear hb
  refine run_call (args := [.int .i64 ((cn (truthI x) (truthI y)))]) (show opAt (opsOf Try.f58 1) 6 = some (some 12, .call { callee := .value (.func 59), args := [(.tmp 11)].toArray, argTypes := [68].toArray }, none) from by kernel_rfl) (by kernel_rfl) (by kernel_rfl) (by kernel_rfl) (by kernel_rfl) ?_
  refine (CI.out _).mono ?_
  rintro en rw4 ⟨rfl, hb⟩
  refine ⟨_, rfl, heldC_call H.out hb, ?_⟩
  have H := Lib.hid (heldC_call H.out hb)
  clear hb
  refine run_last (by kernel_rfl) (show opAt (opsOf Try.f58 1) 7 = some (none, .store 66 (.tmp 5) (.tmp 12), none) from by kernel_rfl) (by kernel_rfl) (by kernel_rfl) (by kernel_rfl) (store_item (u := .int .i64 (logI (cn (truthI x) (truthI y))).n) (v := .int .i64 (logI (cn (truthI x) (truthI y))).d) (q := .string (logI (cn (truthI x) (truthI y))).t) (heldC_at H.out (List.Mem.tail _ (List.Mem.tail _ (List.Mem.tail _ (List.Mem.head _))))) rfl rfl rfl) ?_
  refine run_done ?_
  simp only [putAll, Act.put, List.setIfInBounds_toArray, List.set_cons_zero, List.set_cons_succ]
  have KZ := Lib.hid (heldC_at H.out (List.Mem.tail _ (List.Mem.tail _ (List.Mem.tail _ (List.Mem.head _)))))
  go_wp2
  exact item_row_ret rfl rfl rfl (row_set KZ.out) ⟨rfl, below_row H.out.1 (show w.heap.size ≤ w.heap.size + 1 + 1 by omega) _⟩
end Go.Proofs.Ytlnjjjoeblopeaa

/- LogicOf as data against what the program's parts answer. -/
namespace Go.Proofs.Ytlnjjjoeblopeaa
open Go.RowKit
set_option maxRecDepth 100000
set_option linter.unusedVariables false

theorem size_rec {m n : Nat} (h : 0 ≤ sizeL m n) : (sizeL m n).toNat = recN m n := by
  unfold sizeL at h ⊢
  unfold recN
  by_cases h0 : m = 0 ∨ n = 0
  · rw [if_pos h0, if_pos h0]; rfl
  · rw [if_neg h0] at h
    rw [if_neg h0, if_neg h0]
    by_cases hr : max m n % min m n ≠ 0
    · rw [if_pos hr] at h; omega
    · rw [if_neg hr]; rfl
theorem lgcS_prb (op : ByteArray) (a b : Vec) : lgcS op a b = prbB (bB (op = andB ∨ op = orB)) a b nonLogB := by
  unfold lgcS prbB matchL lgcN
  cases bB (ValidV a ∧ ValidV b) <;> cases bB (op = andB ∨ op = orB) <;> cases bB (Counts a ∧ Counts b) <;> cases bB (0 ≤ sizeL (itL a) (itL b)) <;> rfl
/-- Where a problem is told, the vector is the zero one. -/
theorem lgcV_no {op : ByteArray} {a b : Vec} (h : prbB (bB (op = andB ∨ op = orB)) a b nonLogB ≠ ⟨#[]⟩) : lgcV op a b = noV := by
  rw [← lgcS_prb] at h
  unfold lgcS at h
  unfold lgcV
  cases e1 : bB (ValidV a ∧ ValidV b) <;> cases e2 : bB (op = andB ∨ op = orB) <;> cases e3 : bB (Counts a ∧ Counts b) <;> cases e4 : bB (0 ≤ lgcN a b) <;> simp only [e1, e2, e3, e4] at h ⊢
  exact absurd rfl h
/-- Where none is told, the vector is the one that is reckoned. -/
theorem lgcV_ok {op : ByteArray} {a b : Vec} (h : prbB (bB (op = andB ∨ op = orB)) a b nonLogB = ⟨#[]⟩) : (ValidV a ∧ ValidV b) ∧ (op = andB ∨ op = orB) ∧ (Counts a ∧ Counts b) ∧ 0 ≤ lgcN a b := by
  unfold prbB matchL at h
  by_cases h1 : ValidV a ∧ ValidV b
  · rw [bB_yes h1] at h
    by_cases h2 : op = andB ∨ op = orB
    · rw [bB_yes h2] at h
      by_cases h3 : Counts a ∧ Counts b
      · rw [bB_yes h3] at h
        by_cases h4 : 0 ≤ sizeL (itL a) (itL b)
        · exact ⟨h1, h2, h3, h4⟩
        · rw [bB_no h4] at h; exact absurd (show lenB = ⟨#[]⟩ from h) (by decide)
      · rw [bB_no h3] at h; exact absurd (show nonLogB = ⟨#[]⟩ from h) (by decide)
    · rw [bB_no h2] at h; exact absurd (show unkB = ⟨#[]⟩ from h) (by decide)
  · rw [bB_no h1] at h; exact absurd (show badB = ⟨#[]⟩ from h) (by decide)
end Go.Proofs.Ytlnjjjoeblopeaa

/- The program's arithmetic, each function against its plain one. -/
namespace Go.Proofs.Ytlnjjjoeblopeaa
set_option maxRecDepth 100000
open Go.RowKit
set_option linter.unusedVariables false

set_option maxHeartbeats 1000000 in
theorem areAny (x y : It) (w : World) (hx : x.t.size ≤ 9223372036854775807) (hy : y.t.size ≤ 9223372036854775807) :
    Calls Try.prog 150 #[.agg #[.int .i64 x.n, .int .i64 x.d, .string x.t], .agg #[.int .i64 y.n, .int .i64 y.d, .string y.t]] w fun e w' => e = .returned (.bool (both x y)) ∧ Below w.heap.size w w' := by
  cases h : isN x
  · have X := Lib.hid (show both x y = false by unfold both; rw [h]; rfl)
    have C := Lib.hid (implNumNo x.n x.d x.t)
    have h' : isN ⟨x.n, x.d, x.t⟩ = false := h
    have N := Lib.hid h'
    clear h h'
    go_enter Try.func150, Try.ntmps150
    go_wp2_with fail
    refine (C.out _ hx N.out).mono ?_
    rintro e w1 ⟨rfl, hb⟩
    have B1 := Lib.hid (below_then (below2 w _ _) hb)
    clear hb
    go_wp2
    go_ret
    exact ⟨ret_b X.out.symm, B1.out⟩
  · have X := Lib.hid (show both x y = isN y by unfold both; rw [h]; rfl)
    have C := Lib.hid (implNumYes x.n x.d x.t)
    have h' : isN ⟨x.n, x.d, x.t⟩ = true := h
    have N := Lib.hid h'
    clear h h'
    go_enter Try.func150, Try.ntmps150
    go_wp2_with fail
    refine (C.out _ hx N.out).mono ?_
    rintro e w1 ⟨rfl, hb⟩
    obtain ⟨hc, hf⟩ := bcell hb
    have B1 := Lib.hid (below_then (below2 w _ _) hb)
    clear hb
    go_wp2_with fail
    refine (implIsNum y.n y.d y.t _ hy).mono ?_
    rintro e w2 ⟨rfl, hb⟩
    have B2 := Lib.hid (below_then B1.out hb)
    clear hb
    go_wp2
    go_ret
    exact ⟨ret_b X.out.symm, B2.out⟩
theorem areYes (x y : It) (w : World) (hx : x.t.size ≤ 9223372036854775807) (hy : y.t.size ≤ 9223372036854775807) (h : both x y = true) :
    Calls Try.prog 150 #[.agg #[.int .i64 x.n, .int .i64 x.d, .string x.t], .agg #[.int .i64 y.n, .int .i64 y.d, .string y.t]] w fun e w' => e = .returned (.bool true) ∧ Below w.heap.size w w' := by
  have := areAny x y w hx hy
  rwa [h] at this
theorem areNo (x y : It) (w : World) (hx : x.t.size ≤ 9223372036854775807) (hy : y.t.size ≤ 9223372036854775807) (h : both x y = false) :
    Calls Try.prog 150 #[.agg #[.int .i64 x.n, .int .i64 x.d, .string x.t], .agg #[.int .i64 y.n, .int .i64 y.d, .string y.t]] w fun e w' => e = .returned (.bool false) ∧ Below w.heap.size w w' := by
  have := areAny x y w hx hy
  rwa [h] at this

set_option maxHeartbeats 1000000 in
theorem fracNumber (p q : Int) (w : World) (h : -9223372036854775808 ≤ p ∧ p ≤ 9223372036854775807) (h' : -9223372036854775808 ≤ q ∧ q ≤ 9223372036854775807) :
    Calls Try.prog 151 #[.agg #[.int .i64 p, .int .i64 q]] w fun e w' => e = .returned (.agg #[.int .i64 (mkI p q).n, .int .i64 (mkI p q).d, .string ⟨#[]⟩]) ∧ Below w.heap.size w w' := by
  go_enter Try.func151, Try.ntmps151
  go_wp2_with fail
  refine (implMake p q _ h h').mono ?_
  rintro e w1 ⟨rfl, hb⟩
  obtain ⟨hc, hf⟩ := bcell hb
  have B1 := Lib.hid (below_then (below2 w _ _) hb)
  have G := Lib.hid (blk_below (g := w.heap.size + 1) hb (blk_new _ _ (by simp)))
  clear hb
  go_wp2
  exact item_ret rfl rfl rfl G.out ⟨rfl, below_three B1.out (by omega) _ _ _⟩

set_option maxHeartbeats 1000000 in
theorem implAdd (x y : It) (w : World) (hx : x.t.size ≤ 9223372036854775807) (hy : y.t.size ≤ 9223372036854775807) :
    Calls Try.prog 125 #[.agg #[.int .i64 x.n, .int .i64 x.d, .string x.t], .agg #[.int .i64 y.n, .int .i64 y.d, .string y.t]] w fun e w' => e = .returned (.agg #[.int .i64 (addI x y).n, .int .i64 (addI x y).d, .string (addI x y).t]) ∧ Below w.heap.size w w' := by
  cases h : both x y
  · have X := Lib.hid (show addI x y = noI by unfold addI; simp [h])
    have N := Lib.hid h
    clear h
    go_enter Try.func125, Try.ntmps125
    go_wp2_with fail
    refine (areNo x y _ hx hy N.out).mono ?_
    rintro e w1 ⟨rfl, hb⟩
    obtain ⟨hc, hf⟩ := bcell hb
    have B1 := Lib.hid (below_then (below3 w _ _ _) hb)
    have G := Lib.hid (blk_below (g := w.heap.size + 2) hb (blk_new _ _ (by simp)))
    clear hb
    go_wp2
    rw [X.out]
    exact item_ret rfl rfl rfl G.out ⟨rfl, below_three B1.out (by omega) _ _ _⟩
  · have P := Lib.hid (parts_in (both_iff.1 h).1 (both_iff.1 h).2)
    have X := Lib.hid (add_mk h)
    have XT := Lib.hid (addI_t x y)
    have N := Lib.hid h
    have X1 := isN_iff.1 (both_iff.1 h).1
    have Y1 := isN_iff.1 (both_iff.1 h).2
    clear h
    have a0 : -999999998000000001 ≤ x.n * y.d := by have := P.out; omega
    have a1 : x.n * y.d ≤ 999999998000000001 := by have := P.out; omega
    have b0 : -999999998000000001 ≤ y.n * x.d := by have := P.out; omega
    have b1 : y.n * x.d ≤ 999999998000000001 := by have := P.out; omega
    have c0 : -999999998000000001 ≤ x.d * y.d := by have := P.out; omega
    have c1 : x.d * y.d ≤ 999999998000000001 := by have := P.out; omega

    clear X1 Y1
    go_enter Try.func125, Try.ntmps125
    go_wp2_with fail
    refine (areYes x y _ hx hy N.out).mono ?_
    rintro e w1 ⟨rfl, hb⟩
    obtain ⟨hc, hf⟩ := bcell hb
    have B1 := Lib.hid (below_then (below3 w _ _ _) hb)
    have G := Lib.hid (blk_below (g := w.heap.size + 2) hb (blk_new _ _ (by simp)))
    have hz : w.heap.size + 2 < w1.heap.size := by have := hb.size; simp at this; omega
    clear hb
    go_wp2_with fail
    refine (fracNumber (x.n * y.d + y.n * x.d) (x.d * y.d) _ ⟨by omega, by omega⟩ ⟨by omega, by omega⟩).mono ?_
    rintro e w2 ⟨rfl, hb⟩
    obtain ⟨hc2, hf2⟩ := bcell hb
    have B2 := Lib.hid (below_then B1.out hb)
    have G2 := Lib.hid (blk_below hb G.out)
    clear hb
    rw [X.out]
    go_wp2
    rw [XT.out]
    exact item_ret rfl rfl rfl G2.out ⟨rfl, below_three B2.out (by omega) _ _ _⟩

set_option maxHeartbeats 1000000 in
theorem implMul (x y : It) (w : World) (hx : x.t.size ≤ 9223372036854775807) (hy : y.t.size ≤ 9223372036854775807) :
    Calls Try.prog 127 #[.agg #[.int .i64 x.n, .int .i64 x.d, .string x.t], .agg #[.int .i64 y.n, .int .i64 y.d, .string y.t]] w fun e w' => e = .returned (.agg #[.int .i64 (mulI x y).n, .int .i64 (mulI x y).d, .string (mulI x y).t]) ∧ Below w.heap.size w w' := by
  cases h : both x y
  · have X := Lib.hid (show mulI x y = noI by unfold mulI; simp [h])
    have N := Lib.hid h
    clear h
    go_enter Try.func127, Try.ntmps127
    go_wp2_with fail
    refine (areNo x y _ hx hy N.out).mono ?_
    rintro e w1 ⟨rfl, hb⟩
    obtain ⟨hc, hf⟩ := bcell hb
    have B1 := Lib.hid (below_then (below3 w _ _ _) hb)
    have G := Lib.hid (blk_below (g := w.heap.size + 2) hb (blk_new _ _ (by simp)))
    clear hb
    go_wp2
    rw [X.out]
    exact item_ret rfl rfl rfl G.out ⟨rfl, below_three B1.out (by omega) _ _ _⟩
  · have P := Lib.hid (parts_in (both_iff.1 h).1 (both_iff.1 h).2)
    have X := Lib.hid (mul_mk h)
    have XT := Lib.hid (mulI_t x y)
    have N := Lib.hid h
    have X1 := isN_iff.1 (both_iff.1 h).1
    have Y1 := isN_iff.1 (both_iff.1 h).2
    clear h
    have a0 : -999999998000000001 ≤ x.n * y.n := by have := P.out; omega
    have a1 : x.n * y.n ≤ 999999998000000001 := by have := P.out; omega
    have c0 : -999999998000000001 ≤ x.d * y.d := by have := P.out; omega
    have c1 : x.d * y.d ≤ 999999998000000001 := by have := P.out; omega

    clear X1 Y1
    go_enter Try.func127, Try.ntmps127
    go_wp2_with fail
    refine (areYes x y _ hx hy N.out).mono ?_
    rintro e w1 ⟨rfl, hb⟩
    obtain ⟨hc, hf⟩ := bcell hb
    have B1 := Lib.hid (below_then (below3 w _ _ _) hb)
    have G := Lib.hid (blk_below (g := w.heap.size + 2) hb (blk_new _ _ (by simp)))
    have hz : w.heap.size + 2 < w1.heap.size := by have := hb.size; simp at this; omega
    clear hb
    go_wp2_with fail
    refine (fracNumber (x.n * y.n) (x.d * y.d) _ ⟨by omega, by omega⟩ ⟨by omega, by omega⟩).mono ?_
    rintro e w2 ⟨rfl, hb⟩
    obtain ⟨hc2, hf2⟩ := bcell hb
    have B2 := Lib.hid (below_then B1.out hb)
    have G2 := Lib.hid (blk_below hb G.out)
    clear hb
    rw [X.out]
    go_wp2
    rw [XT.out]
    exact item_ret rfl rfl rfl G2.out ⟨rfl, below_three B2.out (by omega) _ _ _⟩
end Go.Proofs.Ytlnjjjoeblopeaa

/- The program's arithmetic, continued: differences, quotients, floors. -/
namespace Go.Proofs.Ytlnjjjoeblopeaa
set_option maxRecDepth 100000
open Go.RowKit
set_option linter.unusedVariables false

theorem infoFrac : (Try.prog.info? 128).map (·.size) = some 2 := by kernel_rfl
theorem frac_ret0 {fn : Func} {R : Ending → World → Prop} {act : Act} {w : World} {g : Nat} {p : Tmp} {a b : Value} {t : TypeId} {fr : Nat × Nat}
    (hfn : fn.results = #[.cell p 128]) (hp : act.tmps.getD p undef = .pointer (some ⟨g, 0, none⟩)) (hd : act.defers = []) (hg : w.heap[g]? = some (.cells #[a, b] t fr))
    (hR : R (.returned (.agg #[a, b])) w) : bodyPost Try.prog fn R .ret act w :=
  bodyPost_ret (results_cell_row hfn _ _ g t #[a, b] fr _ hp hg Try.underlying128 rfl infoFrac) hd hR

set_option maxHeartbeats 1000000 in
theorem implRatio (x y : It) (w : World) (P : (-999999998000000001 ≤ x.n * y.d ∧ x.n * y.d ≤ 999999998000000001) ∧ (-999999998000000001 ≤ x.d * y.n ∧ x.d * y.n ≤ 999999998000000001)) :
    Calls Try.prog 153 #[.agg #[.int .i64 x.n, .int .i64 x.d, .string x.t], .agg #[.int .i64 y.n, .int .i64 y.d, .string y.t]] w fun e w' => e = .returned (.agg #[.int .i64 (x.n * y.d), .int .i64 (x.d * y.n)]) ∧ Below w.heap.size w w' := by
  have a0 := P.1.1
  have a1 := P.1.2
  have b0 := P.2.1
  have b1 := P.2.2
  clear P
  go_enter Try.func153, Try.ntmps153
  go_wp2
  exact frac_ret0 rfl rfl rfl (blk_new _ _ (by simp)) ⟨rfl, below3 w _ _ _⟩

set_option maxHeartbeats 1000000 in
theorem implDiv (x y : It) (w : World) (hx : x.t.size ≤ 9223372036854775807) (hy : y.t.size ≤ 9223372036854775807) :
    Calls Try.prog 128 #[.agg #[.int .i64 x.n, .int .i64 x.d, .string x.t], .agg #[.int .i64 y.n, .int .i64 y.d, .string y.t]] w fun e w' => e = .returned (.agg #[.int .i64 (divI x y).n, .int .i64 (divI x y).d, .string (divI x y).t]) ∧ Below w.heap.size w w' := by
  cases h : both x y
  · have X := Lib.hid (show divI x y = noI by unfold divI; simp [h])
    have N := Lib.hid h
    clear h
    go_enter Try.func128, Try.ntmps128
    go_wp2_with fail
    refine (areNo x y _ hx hy N.out).mono ?_
    rintro e w1 ⟨rfl, hb⟩
    obtain ⟨hc, hf⟩ := bcell hb
    have B1 := Lib.hid (below_then (below3 w _ _ _) hb)
    have G := Lib.hid (blk_below (g := w.heap.size + 2) hb (blk_new _ _ (by simp)))
    clear hb
    go_wp2
    rw [X.out]
    exact item_ret rfl rfl rfl G.out ⟨rfl, below_three B1.out (by omega) _ _ _⟩
  · have P := parts_in (both_iff.1 h).1 (both_iff.1 h).2
    have R := Lib.hid (implRatio x y)
    have K := Lib.hid (show (-9223372036854775808 ≤ x.n * y.d ∧ x.n * y.d ≤ 9223372036854775807) ∧ (-9223372036854775808 ≤ x.d * y.n ∧ x.d * y.n ≤ 9223372036854775807) by omega)
    have PP := Lib.hid (show (-999999998000000001 ≤ x.n * y.d ∧ x.n * y.d ≤ 999999998000000001) ∧ (-999999998000000001 ≤ x.d * y.n ∧ x.d * y.n ≤ 999999998000000001) by omega)
    have X := Lib.hid (div_mk h)
    have XT := Lib.hid (divI_t x y)
    have N := Lib.hid h
    clear h P
    go_enter Try.func128, Try.ntmps128
    go_wp2_with fail
    refine (areYes x y _ hx hy N.out).mono ?_
    rintro e w1 ⟨rfl, hb⟩
    obtain ⟨hc, hf⟩ := bcell hb
    have B1 := Lib.hid (below_then (below3 w _ _ _) hb)
    have G := Lib.hid (blk_below (g := w.heap.size + 2) hb (blk_new _ _ (by simp)))
    have hz : w.heap.size + 2 < w1.heap.size := by have := hb.size; simp at this; omega
    clear hb
    go_wp2_with fail
    refine (R.out _ PP.out).mono ?_
    rintro e w2 ⟨rfl, hb⟩
    obtain ⟨hc2, hf2⟩ := bcell hb
    have B2 := Lib.hid (below_then B1.out hb)
    have G2 := Lib.hid (blk_below hb G.out)
    have hz2 : w.heap.size + 2 < w2.heap.size := by have := hb.size; omega
    clear hb
    go_wp2_with fail
    refine (fracNumber (x.n * y.d) (x.d * y.n) _ K.out.1 K.out.2).mono ?_
    rintro e w3 ⟨rfl, hb⟩
    obtain ⟨hc3, hf3⟩ := bcell hb
    have B3 := Lib.hid (below_then B2.out hb)
    have G3 := Lib.hid (blk_below hb G2.out)
    clear hb
    rw [X.out]
    go_wp2
    rw [XT.out]
    exact item_ret rfl rfl rfl G3.out ⟨rfl, below_three B3.out (by omega) _ _ _⟩

set_option maxHeartbeats 1000000 in
theorem implNeg (x : It) (w : World) (hx : x.t.size ≤ 9223372036854775807) :
    Calls Try.prog 152 #[.agg #[.int .i64 x.n, .int .i64 x.d, .string x.t]] w fun e w' => e = .returned (.agg #[.int .i64 (negI x).n, .int .i64 (negI x).d, .string (negI x).t]) ∧ Below w.heap.size w w' := by
  cases h : isN x
  · have X := Lib.hid (show negI x = noI by unfold negI; simp [h])
    have N := Lib.hid (show isN ⟨x.n, x.d, x.t⟩ = false from h)
    clear h
    go_enter Try.func152, Try.ntmps152
    go_wp2_with fail
    refine (implNumNo x.n x.d x.t _ hx N.out).mono ?_
    rintro e w1 ⟨rfl, hb⟩
    obtain ⟨hc, hf⟩ := bcell hb
    have B1 := Lib.hid (below_then (below2 w _ _) hb)
    have G := Lib.hid (blk_below (g := w.heap.size + 1) hb (blk_new _ _ (by simp)))
    clear hb
    go_wp2
    rw [X.out]
    exact item_ret rfl rfl rfl G.out ⟨rfl, below_three B1.out (by omega) _ _ _⟩
  · have X := Lib.hid (neg_mk h)
    have P := isN_iff.1 h
    have p0 : -999999999 ≤ x.n := P.2.2.2.1
    have p1 : x.n ≤ 999999999 := P.2.2.2.2.1
    have N := Lib.hid (show isN ⟨x.n, x.d, x.t⟩ = true from h)
    clear h P
    go_enter Try.func152, Try.ntmps152
    go_wp2_with fail
    refine (implNumYes x.n x.d x.t _ hx N.out).mono ?_
    rintro e w1 ⟨rfl, hb⟩
    obtain ⟨hc, hf⟩ := bcell hb
    have B1 := Lib.hid (below_then (below2 w _ _) hb)
    have G := Lib.hid (blk_below (g := w.heap.size + 1) hb (blk_new _ _ (by simp)))
    have hz : w.heap.size + 1 < w1.heap.size := by have := hb.size; simp at this; omega
    clear hb
    go_wp2
    rw [← X.out]
    exact item_ret rfl rfl rfl G.out ⟨rfl, below_three B1.out (by omega) _ _ _⟩

set_option maxHeartbeats 1000000 in
theorem implExcess (n d : Int) (w : World) (n0 : -4000000000000000000 ≤ n) (n1 : n ≤ 4000000000000000000) (d0 : -4000000000000000000 ≤ d) (d1 : d ≤ 4000000000000000000) (hd : d ≠ 0) :
    Calls Try.prog 154 #[.agg #[.int .i64 n, .int .i64 d]] w fun e w' => e = .returned (.int .i64 (n.fmod d)) ∧ Below w.heap.size w w' := by
  have X := exc_eq (n := n) hd
  unfold excF at X
  obtain ⟨r0, r1, _⟩ := tmod_in2 (x := n) hd d0 d1
  by_cases c : n.tmod d < 0
  · by_cases s : 0 < d
    · rw [if_pos (.inl ⟨c, s⟩)] at X
      have XX := Lib.hid X
      clear X hd
      go_enter Try.func154, Try.ntmps154
      go_wp2
      go_ret
      exact ⟨ret_i XX.out, below1 w _⟩
    · rw [if_neg (by omega)] at X
      have XX := Lib.hid X
      have s' : d < 0 := by omega
      clear X hd
      go_enter Try.func154, Try.ntmps154
      go_wp2
      go_ret
      exact ⟨ret_i XX.out, below1 w _⟩
  · by_cases c2 : 0 < n.tmod d
    · by_cases s : 0 < d
      · rw [if_neg (by omega)] at X
        have XX := Lib.hid X
        clear X hd
        go_enter Try.func154, Try.ntmps154
        go_wp2
        go_ret
        exact ⟨ret_i XX.out, below1 w _⟩
      · have s' : d < 0 := by omega
        rw [if_pos (.inr ⟨c2, s'⟩)] at X
        have XX := Lib.hid X
        clear X hd
        go_enter Try.func154, Try.ntmps154
        go_wp2
        go_ret
        exact ⟨ret_i XX.out, below1 w _⟩
    · rw [if_neg (by omega)] at X
      have XX := Lib.hid X
      by_cases s : 0 < d
      all_goals
        clear X
        go_enter Try.func154, Try.ntmps154
        go_wp2
        go_ret
        exact ⟨ret_i XX.out, below1 w _⟩
end Go.Proofs.Ytlnjjjoeblopeaa

/- The program's arithmetic: differences, floors, quotients and remainders (their regions draw their order). -/
namespace Go.Proofs.Ytlnjjjoeblopeaa
set_option maxRecDepth 100000
open Go.RowKit
set_option linter.unusedVariables false

set_option maxHeartbeats 2000000 in
theorem implSub (x y : It) (w : World) (hx : x.t.size ≤ 9223372036854775807) (hy : y.t.size ≤ 9223372036854775807) :
    Calls Try.prog 126 #[.agg #[.int .i64 x.n, .int .i64 x.d, .string x.t], .agg #[.int .i64 y.n, .int .i64 y.d, .string y.t]] w fun e w' => e = .returned (.agg #[.int .i64 (subI x y).n, .int .i64 (subI x y).d, .string (subI x y).t]) ∧ Below w.heap.size w w' := by
  have X := Lib.hid (show subI x y = addI x (negI y) from rfl)
  have XT := Lib.hid (show (addI x (negI y)).t = ⟨#[]⟩ from addI_t _ _)
  have ht : (negI y).t.size ≤ 9223372036854775807 := by rw [negI_t]; decide
  obtain ⟨z, hz⟩ : ∃ z, negI y = z := ⟨_, rfl⟩
  have C := Lib.hid (hz ▸ implNeg y)
  rw [hz] at X XT ht
  clear hz
  have H := Lib.hid ht
  clear ht
  go_enter Try.func126, Try.ntmps126
  go_wp2
  go_region_with (first
    | (go_at_call 152; refine (C.out _ hy).mono ?_; rintro e w1 ⟨rfl, hb⟩; obtain ⟨hc, hf⟩ := bcell hb; have hz : w.heap.size + 2 < w1.heap.size := (by have := hb.size; simp at this; omega); have B1 := Lib.hid (below_then (below_drew' (below3 w _ _ _)) hb); have G := Lib.hid (blk_below (g := w.heap.size + 2) hb (blk_drew (blk_new _ _ (by simp)))); clear hb)
    | (go_at_call 125; refine (implAdd x z _ hx H.out).mono ?_; rintro e w2 ⟨rfl, hb⟩; obtain ⟨hc2, hf2⟩ := bcell hb; have B2 := Lib.hid (below_then B1.out hb); have G2 := Lib.hid (blk_below hb G.out); clear hb))
  all_goals
    go_wp2
    rw [X.out]
    exact item_ret rfl rfl rfl G2.out ⟨rfl, below_three B2.out (by omega) _ _ _⟩

set_option maxHeartbeats 2000000 in
theorem implFloorF (n d : Int) (w : World) (n0 : -3000000000000000000 ≤ n) (n1 : n ≤ 3000000000000000000) (d0 : -1000000000000000000 ≤ d) (d1 : d ≤ 1000000000000000000) (hd : d ≠ 0) :
    Calls Try.prog 155 #[.agg #[.int .i64 n, .int .i64 d]] w fun e w' => e = .returned (.agg #[.int .i64 (mkI (n.fdiv d) 1).n, .int .i64 (mkI (n.fdiv d) 1).d, .string ⟨#[]⟩]) ∧ Below w.heap.size w w' := by
  have C := Lib.hid (fun W => implExcess n d W (by omega) (by omega) (by omega) (by omega) hd)
  have f := fmod_in (n := n) (A := 1000000000000000000) d0 d1 hd
  have q := fdiv_in (n := n) (d := d) (A := 3000000000000000000) hd n0 n1
  have Q := Lib.hid (fdiv_code (n := n) hd)
  have D := Lib.hid hd
  have hd' : (d == 0) = false := by simp [hd]
  obtain ⟨r, hr⟩ : ∃ r, n.fmod d = r := ⟨_, rfl⟩
  rw [hr] at C f Q
  obtain ⟨k, hk⟩ : ∃ k, n.fdiv d = k := ⟨_, rfl⟩
  rw [hk] at q Q ⊢
  have f0 := f.1
  have f1 := f.2
  have q0 : -9223372036854775808 ≤ (n - r).tdiv d := by have := Q.out; omega
  have q1 : (n - r).tdiv d ≤ 9223372036854775807 := by have := Q.out; omega
  have M := Lib.hid (fun W => implMake k 1 W (by omega) (by omega))
  have M' : Hid (∀ W, Calls Try.prog 133 #[.int .i64 ((n - r).tdiv d), .int .i64 1] W fun e w' => e = .returned (.agg #[.int .i64 (mkI k 1).n, .int .i64 (mkI k 1).d, .string ⟨#[]⟩]) ∧ Below W.heap.size W w') := by
    refine Lib.hid ?_
    rw [Q.out]; exact M.out
  clear hd hr hk f q M
  go_enter Try.func155, Try.ntmps155
  go_wp2
  go_region_with (first
    | (go_at_call 154; refine (C.out _).mono ?_; rintro e w1 ⟨rfl, hb⟩; obtain ⟨hc, hf⟩ := bcell hb; have hz : w.heap.size + 1 < w1.heap.size := (by have := hb.size; simp at this; omega); have B1 := Lib.hid (below_then (below_drew' (below2 w _ _)) hb); have G := Lib.hid (blk_below (g := w.heap.size + 1) hb (blk_drew (blk_new _ _ (by simp)))); clear hb)
    | (go_at_call 133; refine (M'.out _).mono ?_; rintro e w2 ⟨rfl, hb⟩; obtain ⟨hc2, hf2⟩ := bcell hb; have B2 := Lib.hid (below_then B1.out hb); have G2 := Lib.hid (blk_below hb G.out); clear hb))
  all_goals
    go_wp2
    exact item_ret rfl rfl rfl G2.out ⟨rfl, below_three B2.out (by omega) _ _ _⟩
end Go.Proofs.Ytlnjjjoeblopeaa

/- The program's arithmetic: floors and quotients of numbers. -/
namespace Go.Proofs.Ytlnjjjoeblopeaa
set_option maxRecDepth 100000
open Go.RowKit
set_option linter.unusedVariables false
theorem floorI_t (x : It) : (floorI x).t = ⟨#[]⟩ := by unfold floorI; split; exact ofQ_t _; rfl
theorem roundI_t (x : It) : (roundI x).t = ⟨#[]⟩ := by unfold roundI; split; exact ofQ_t _; rfl
theorem quoI_t (x y : It) : (quoI x y).t = ⟨#[]⟩ := by unfold quoI; split; exact ofQ_t _; rfl
theorem remI_t (x y : It) : (remI x y).t = ⟨#[]⟩ := by unfold remI; split; exact ofQ_t _; rfl

set_option maxHeartbeats 1000000 in
theorem implQuo (x y : It) (w : World) (hx : x.t.size ≤ 9223372036854775807) (hy : y.t.size ≤ 9223372036854775807) :
    Calls Try.prog 131 #[.agg #[.int .i64 x.n, .int .i64 x.d, .string x.t], .agg #[.int .i64 y.n, .int .i64 y.d, .string y.t]] w fun e w' => e = .returned (.agg #[.int .i64 (quoI x y).n, .int .i64 (quoI x y).d, .string (quoI x y).t]) ∧ Below w.heap.size w w' := by
  cases h : both x y
  · have X := Lib.hid (show quoI x y = noI by unfold quoI; simp [h])
    have N := Lib.hid h
    clear h
    go_enter Try.func131, Try.ntmps131
    go_wp2_with fail
    refine (areNo x y _ hx hy N.out).mono ?_
    rintro e w1 ⟨rfl, hb⟩
    obtain ⟨hc, hf⟩ := bcell hb
    have B1 := Lib.hid (below_then (below3 w _ _ _) hb)
    have G := Lib.hid (blk_below (g := w.heap.size + 2) hb (blk_new _ _ (by simp)))
    clear hb
    go_wp2
    rw [X.out]
    exact item_ret rfl rfl rfl G.out ⟨rfl, below_three B1.out (by omega) _ _ _⟩
  · by_cases h0 : y.n = 0
    · have X := Lib.hid (show quoI x y = noI by unfold quoI; rw [if_neg (by simp [h0])])
      have N := Lib.hid h
      have h0' : (y.n == 0) = true := by simp [h0]
      clear h h0
      go_enter Try.func131, Try.ntmps131
      go_wp2_with fail
      refine (areYes x y _ hx hy N.out).mono ?_
      rintro e w1 ⟨rfl, hb⟩
      obtain ⟨hc, hf⟩ := bcell hb
      have B1 := Lib.hid (below_then (below3 w _ _ _) hb)
      have G := Lib.hid (blk_below (g := w.heap.size + 2) hb (blk_new _ _ (by simp)))
      have hz : w.heap.size + 2 < w1.heap.size := by have := hb.size; simp at this; omega
      clear hb
      go_wp2
      rw [X.out]
      exact item_ret rfl rfl rfl G.out ⟨rfl, below_three B1.out (by omega) _ _ _⟩
    · have P := parts_in (both_iff.1 h).1 (both_iff.1 h).2
      have R := Lib.hid (implRatio x y)
      have PP := Lib.hid (show (-999999998000000001 ≤ x.n * y.d ∧ x.n * y.d ≤ 999999998000000001) ∧ (-999999998000000001 ≤ x.d * y.n ∧ x.d * y.n ≤ 999999998000000001) by omega)
      have D := Lib.hid (show x.d * y.n ≠ 0 from Int.mul_ne_zero (by have := isN_iff.1 (both_iff.1 h).1; omega) h0)
      have N := Lib.hid h
      have h0' : (y.n == 0) = false := by simp [h0]
      have X := Lib.hid (quo_mk h h0)
      have XT := Lib.hid (quoI_t x y)
      clear h P h0
      go_enter Try.func131, Try.ntmps131
      go_wp2_with fail
      refine (areYes x y _ hx hy N.out).mono ?_
      rintro e w1 ⟨rfl, hb⟩
      obtain ⟨hc, hf⟩ := bcell hb
      have B1 := Lib.hid (below_then (below3 w _ _ _) hb)
      have G := Lib.hid (blk_below (g := w.heap.size + 2) hb (blk_new _ _ (by simp)))
      have hz : w.heap.size + 2 < w1.heap.size := by have := hb.size; simp at this; omega
      clear hb
      go_wp2_with fail
      refine (R.out _ PP.out).mono ?_
      rintro e w2 ⟨rfl, hb⟩
      obtain ⟨hc2, hf2⟩ := bcell hb
      have B2 := Lib.hid (below_then B1.out hb)
      have G2 := Lib.hid (blk_below hb G.out)
      have hz2 : w.heap.size + 2 < w2.heap.size := by have := hb.size; omega
      clear hb
      go_wp2_with fail
      refine (implFloorF (x.n * y.d) (x.d * y.n) _ (by have := PP.out; omega) (by have := PP.out; omega) (by have := PP.out; omega) (by have := PP.out; omega) D.out).mono ?_
      rintro e w3 ⟨rfl, hb⟩
      obtain ⟨hc3, hf3⟩ := bcell hb
      have B3 := Lib.hid (below_then B2.out hb)
      have G3 := Lib.hid (blk_below hb G2.out)
      clear hb
      rw [X.out]
      go_wp2
      rw [XT.out]
      exact item_ret rfl rfl rfl G3.out ⟨rfl, below_three B3.out (by omega) _ _ _⟩
end Go.Proofs.Ytlnjjjoeblopeaa

/- The reference's arithmetic, each function against its plain one. -/
namespace Go.Proofs.Ytlnjjjoeblopeaa
set_option maxRecDepth 100000
open Go.RowKit
set_option linter.unusedVariables false
theorem floorS_t (x : It) : (floorI x).t = ⟨#[]⟩ := by unfold floorI; split; exact ofQ_t _; rfl
theorem roundS_t (x : It) : (roundI x).t = ⟨#[]⟩ := by unfold roundI; split; exact ofQ_t _; rfl
theorem quoS_t (x y : It) : (quoI x y).t = ⟨#[]⟩ := by unfold quoI; split; exact ofQ_t _; rfl
theorem remS_t (x y : It) : (remI x y).t = ⟨#[]⟩ := by unfold remI; split; exact ofQ_t _; rfl
theorem not_both1 {x y : It} (h : isN x = false) : both x y = false := by unfold both; rw [h]; rfl
theorem not_both2 {x y : It} (h : isN y = false) : both x y = false := by unfold both; rw [h]; simp
theorem add_no {x y : It} (h : both x y = false) : addI x y = noI := by unfold addI; simp [h]
theorem mul_no {x y : It} (h : both x y = false) : mulI x y = noI := by unfold mulI; simp [h]
theorem div_no {x y : It} (h : both x y = false) : divI x y = noI := by unfold divI; simp [h]
theorem quo_no {x y : It} (h : both x y = false) : quoI x y = noI := by unfold quoI; simp [h]
theorem rem_no {x y : It} (h : both x y = false) : remI x y = noI := by unfold remI; simp [h]
theorem quo_no0 {x y : It} (h : y.n = 0) : quoI x y = noI := by unfold quoI; simp [h]
theorem rem_no0 {x y : It} (h : y.n = 0) : remI x y = noI := by unfold remI; simp [h]

set_option maxHeartbeats 2000000 in
theorem specAdd (x y : It) (w : World) (hx : x.t.size ≤ 9223372036854775807) (hy : y.t.size ≤ 9223372036854775807) :
    Calls Try.prog 91 #[.agg #[.int .i64 x.n, .int .i64 x.d, .string x.t], .agg #[.int .i64 y.n, .int .i64 y.d, .string y.t]] w fun e w' => e = .returned (.agg #[.int .i64 (addI x y).n, .int .i64 (addI x y).d, .string (addI x y).t]) ∧ Below w.heap.size w w' := by
  cases h : isN x
  · have X := Lib.hid (add_no (y := y) (not_both1 h))
    have NX := Lib.hid (show isN ⟨x.n, x.d, x.t⟩ = false from h)
    clear h
    go_enter Try.func91, Try.ntmps91
    go_wp2_with fail
    refine (specNumNo x.n x.d x.t _ hx NX.out).mono ?_
    rintro e w1 ⟨rfl, hb⟩
    obtain ⟨hc, hf⟩ := bcell hb
    have W1 := Lib.hid hb
    have B1 := Lib.hid (below_then (below3 w _ _ _) hb)
    have G1 := Lib.hid (blk_below (g := w.heap.size + 2) hb (blk_new _ _ (by simp)))
    have hz : w.heap.size + 2 < w1.heap.size := by have := hb.size; simp at this; omega
    clear hb
    go_wp2
    rw [X.out]
    exact item_ret rfl rfl rfl G1.out ⟨rfl, below_three B1.out (by omega) _ _ _⟩
  · cases k : isN y
    · have X := Lib.hid (add_no (x := x) (not_both2 k))
      have NX := Lib.hid (show isN ⟨x.n, x.d, x.t⟩ = true from h)
      have NY := Lib.hid (show isN ⟨y.n, y.d, y.t⟩ = false from k)
      clear h k
      go_enter Try.func91, Try.ntmps91
      go_wp2_with fail
      refine (specNumYes x.n x.d x.t _ hx NX.out).mono ?_
      rintro e w1 ⟨rfl, hb⟩
      obtain ⟨hc, hf⟩ := bcell hb
      have W1 := Lib.hid hb
      have B1 := Lib.hid (below_then (below3 w _ _ _) hb)
      have G1 := Lib.hid (blk_below (g := w.heap.size + 2) hb (blk_new _ _ (by simp)))
      have hz : w.heap.size + 2 < w1.heap.size := by have := hb.size; simp at this; omega
      clear hb
      go_wp2_with fail
      refine (specNumNo y.n y.d y.t _ hy NY.out).mono ?_
      rintro e w2 ⟨rfl, hb⟩
      have W2 := Lib.hid (W1.out.trans (hb.mono W1.out.size))
      clear hc hf
      obtain ⟨hc2, hf2⟩ := bcell W2.out
      have B2 := Lib.hid (below_then B1.out hb)
      have G2 := Lib.hid (blk_below hb G1.out)
      have hz2 : w.heap.size + 2 < w2.heap.size := by have := hb.size; omega
      clear hb
      go_wp2
      rw [X.out]
      exact item_ret rfl rfl rfl G2.out ⟨rfl, below_three B2.out (by omega) _ _ _⟩
    · have hB : both x y = true := both_iff.2 ⟨h, k⟩
      have P := parts_in h k
      have NX := Lib.hid (show isN ⟨x.n, x.d, x.t⟩ = true from h)
      have NY := Lib.hid (show isN ⟨y.n, y.d, y.t⟩ = true from k)
      have X := Lib.hid (add_mk hB)
      have XT := Lib.hid (addI_t x y)
      have a0 : -999999998000000001 ≤ x.n * y.d := by omega
      have a1 : x.n * y.d ≤ 999999998000000001 := by omega
      have b0 : -999999998000000001 ≤ y.n * x.d := by omega
      have b1 : y.n * x.d ≤ 999999998000000001 := by omega
      have c0 : -999999998000000001 ≤ x.d * y.d := by omega
      have c1 : x.d * y.d ≤ 999999998000000001 := by omega
      clear h k hB P
      go_enter Try.func91, Try.ntmps91
      go_wp2_with fail
      refine (specNumYes x.n x.d x.t _ hx NX.out).mono ?_
      rintro e w1 ⟨rfl, hb⟩
      obtain ⟨hc, hf⟩ := bcell hb
      have W1 := Lib.hid hb
      have B1 := Lib.hid (below_then (below3 w _ _ _) hb)
      have G1 := Lib.hid (blk_below (g := w.heap.size + 2) hb (blk_new _ _ (by simp)))
      have hz : w.heap.size + 2 < w1.heap.size := by have := hb.size; simp at this; omega
      clear hb
      go_wp2_with fail
      refine (specNumYes y.n y.d y.t _ hy NY.out).mono ?_
      rintro e w2 ⟨rfl, hb⟩
      have W2 := Lib.hid (W1.out.trans (hb.mono W1.out.size))
      clear hc hf
      obtain ⟨hc2, hf2⟩ := bcell W2.out
      have B2 := Lib.hid (below_then B1.out hb)
      have G2 := Lib.hid (blk_below hb G1.out)
      have hz2 : w.heap.size + 2 < w2.heap.size := by have := hb.size; omega
      clear hb
      go_wp2_with fail
      refine (specMake (x.n * y.d + y.n * x.d) (x.d * y.d) _ ⟨by omega, by omega⟩ ⟨by omega, by omega⟩).mono ?_
      rintro e w3 ⟨rfl, hb⟩
      have W3 := Lib.hid (W2.out.trans (hb.mono W2.out.size))
      clear hc2 hf2
      obtain ⟨hc3, hf3⟩ := bcell W3.out
      have B3 := Lib.hid (below_then B2.out hb)
      have G3 := Lib.hid (blk_below hb G2.out)
      clear hb
      rw [X.out]
      go_wp2
      rw [XT.out]
      exact item_ret rfl rfl rfl G3.out ⟨rfl, below_three B3.out (by omega) _ _ _⟩

set_option maxHeartbeats 2000000 in
theorem specMul (x y : It) (w : World) (hx : x.t.size ≤ 9223372036854775807) (hy : y.t.size ≤ 9223372036854775807) :
    Calls Try.prog 86 #[.agg #[.int .i64 x.n, .int .i64 x.d, .string x.t], .agg #[.int .i64 y.n, .int .i64 y.d, .string y.t]] w fun e w' => e = .returned (.agg #[.int .i64 (mulI x y).n, .int .i64 (mulI x y).d, .string (mulI x y).t]) ∧ Below w.heap.size w w' := by
  cases h : isN x
  · have X := Lib.hid (mul_no (y := y) (not_both1 h))
    have NX := Lib.hid (show isN ⟨x.n, x.d, x.t⟩ = false from h)
    clear h
    go_enter Try.func86, Try.ntmps86
    go_wp2_with fail
    refine (specNumNo x.n x.d x.t _ hx NX.out).mono ?_
    rintro e w1 ⟨rfl, hb⟩
    obtain ⟨hc, hf⟩ := bcell hb
    have W1 := Lib.hid hb
    have B1 := Lib.hid (below_then (below3 w _ _ _) hb)
    have G1 := Lib.hid (blk_below (g := w.heap.size + 2) hb (blk_new _ _ (by simp)))
    have hz : w.heap.size + 2 < w1.heap.size := by have := hb.size; simp at this; omega
    clear hb
    go_wp2
    rw [X.out]
    exact item_ret rfl rfl rfl G1.out ⟨rfl, below_three B1.out (by omega) _ _ _⟩
  · cases k : isN y
    · have X := Lib.hid (mul_no (x := x) (not_both2 k))
      have NX := Lib.hid (show isN ⟨x.n, x.d, x.t⟩ = true from h)
      have NY := Lib.hid (show isN ⟨y.n, y.d, y.t⟩ = false from k)
      clear h k
      go_enter Try.func86, Try.ntmps86
      go_wp2_with fail
      refine (specNumYes x.n x.d x.t _ hx NX.out).mono ?_
      rintro e w1 ⟨rfl, hb⟩
      obtain ⟨hc, hf⟩ := bcell hb
      have W1 := Lib.hid hb
      have B1 := Lib.hid (below_then (below3 w _ _ _) hb)
      have G1 := Lib.hid (blk_below (g := w.heap.size + 2) hb (blk_new _ _ (by simp)))
      have hz : w.heap.size + 2 < w1.heap.size := by have := hb.size; simp at this; omega
      clear hb
      go_wp2_with fail
      refine (specNumNo y.n y.d y.t _ hy NY.out).mono ?_
      rintro e w2 ⟨rfl, hb⟩
      have W2 := Lib.hid (W1.out.trans (hb.mono W1.out.size))
      clear hc hf
      obtain ⟨hc2, hf2⟩ := bcell W2.out
      have B2 := Lib.hid (below_then B1.out hb)
      have G2 := Lib.hid (blk_below hb G1.out)
      have hz2 : w.heap.size + 2 < w2.heap.size := by have := hb.size; omega
      clear hb
      go_wp2
      rw [X.out]
      exact item_ret rfl rfl rfl G2.out ⟨rfl, below_three B2.out (by omega) _ _ _⟩
    · have hB : both x y = true := both_iff.2 ⟨h, k⟩
      have P := parts_in h k
      have NX := Lib.hid (show isN ⟨x.n, x.d, x.t⟩ = true from h)
      have NY := Lib.hid (show isN ⟨y.n, y.d, y.t⟩ = true from k)
      have X := Lib.hid (mul_mk hB)
      have XT := Lib.hid (mulI_t x y)
      have a0 : -999999998000000001 ≤ x.n * y.n := by omega
      have a1 : x.n * y.n ≤ 999999998000000001 := by omega
      have c0 : -999999998000000001 ≤ x.d * y.d := by omega
      have c1 : x.d * y.d ≤ 999999998000000001 := by omega
      clear h k hB P
      go_enter Try.func86, Try.ntmps86
      go_wp2_with fail
      refine (specNumYes x.n x.d x.t _ hx NX.out).mono ?_
      rintro e w1 ⟨rfl, hb⟩
      obtain ⟨hc, hf⟩ := bcell hb
      have W1 := Lib.hid hb
      have B1 := Lib.hid (below_then (below3 w _ _ _) hb)
      have G1 := Lib.hid (blk_below (g := w.heap.size + 2) hb (blk_new _ _ (by simp)))
      have hz : w.heap.size + 2 < w1.heap.size := by have := hb.size; simp at this; omega
      clear hb
      go_wp2_with fail
      refine (specNumYes y.n y.d y.t _ hy NY.out).mono ?_
      rintro e w2 ⟨rfl, hb⟩
      have W2 := Lib.hid (W1.out.trans (hb.mono W1.out.size))
      clear hc hf
      obtain ⟨hc2, hf2⟩ := bcell W2.out
      have B2 := Lib.hid (below_then B1.out hb)
      have G2 := Lib.hid (blk_below hb G1.out)
      have hz2 : w.heap.size + 2 < w2.heap.size := by have := hb.size; omega
      clear hb
      go_wp2_with fail
      refine (specMake (x.n * y.n) (x.d * y.d) _ ⟨by omega, by omega⟩ ⟨by omega, by omega⟩).mono ?_
      rintro e w3 ⟨rfl, hb⟩
      have W3 := Lib.hid (W2.out.trans (hb.mono W2.out.size))
      clear hc2 hf2
      obtain ⟨hc3, hf3⟩ := bcell W3.out
      have B3 := Lib.hid (below_then B2.out hb)
      have G3 := Lib.hid (blk_below hb G2.out)
      clear hb
      rw [X.out]
      go_wp2
      rw [XT.out]
      exact item_ret rfl rfl rfl G3.out ⟨rfl, below_three B3.out (by omega) _ _ _⟩

set_option maxHeartbeats 2000000 in
theorem specDiv (x y : It) (w : World) (hx : x.t.size ≤ 9223372036854775807) (hy : y.t.size ≤ 9223372036854775807) :
    Calls Try.prog 88 #[.agg #[.int .i64 x.n, .int .i64 x.d, .string x.t], .agg #[.int .i64 y.n, .int .i64 y.d, .string y.t]] w fun e w' => e = .returned (.agg #[.int .i64 (divI x y).n, .int .i64 (divI x y).d, .string (divI x y).t]) ∧ Below w.heap.size w w' := by
  cases h : isN x
  · have X := Lib.hid (div_no (y := y) (not_both1 h))
    have NX := Lib.hid (show isN ⟨x.n, x.d, x.t⟩ = false from h)
    clear h
    go_enter Try.func88, Try.ntmps88
    go_wp2_with fail
    refine (specNumNo x.n x.d x.t _ hx NX.out).mono ?_
    rintro e w1 ⟨rfl, hb⟩
    obtain ⟨hc, hf⟩ := bcell hb
    have W1 := Lib.hid hb
    have B1 := Lib.hid (below_then (below3 w _ _ _) hb)
    have G1 := Lib.hid (blk_below (g := w.heap.size + 2) hb (blk_new _ _ (by simp)))
    have hz : w.heap.size + 2 < w1.heap.size := by have := hb.size; simp at this; omega
    clear hb
    go_wp2
    rw [X.out]
    exact item_ret rfl rfl rfl G1.out ⟨rfl, below_three B1.out (by omega) _ _ _⟩
  · cases k : isN y
    · have X := Lib.hid (div_no (x := x) (not_both2 k))
      have NX := Lib.hid (show isN ⟨x.n, x.d, x.t⟩ = true from h)
      have NY := Lib.hid (show isN ⟨y.n, y.d, y.t⟩ = false from k)
      clear h k
      go_enter Try.func88, Try.ntmps88
      go_wp2_with fail
      refine (specNumYes x.n x.d x.t _ hx NX.out).mono ?_
      rintro e w1 ⟨rfl, hb⟩
      obtain ⟨hc, hf⟩ := bcell hb
      have W1 := Lib.hid hb
      have B1 := Lib.hid (below_then (below3 w _ _ _) hb)
      have G1 := Lib.hid (blk_below (g := w.heap.size + 2) hb (blk_new _ _ (by simp)))
      have hz : w.heap.size + 2 < w1.heap.size := by have := hb.size; simp at this; omega
      clear hb
      go_wp2_with fail
      refine (specNumNo y.n y.d y.t _ hy NY.out).mono ?_
      rintro e w2 ⟨rfl, hb⟩
      have W2 := Lib.hid (W1.out.trans (hb.mono W1.out.size))
      clear hc hf
      obtain ⟨hc2, hf2⟩ := bcell W2.out
      have B2 := Lib.hid (below_then B1.out hb)
      have G2 := Lib.hid (blk_below hb G1.out)
      have hz2 : w.heap.size + 2 < w2.heap.size := by have := hb.size; omega
      clear hb
      go_wp2
      rw [X.out]
      exact item_ret rfl rfl rfl G2.out ⟨rfl, below_three B2.out (by omega) _ _ _⟩
    · have hB : both x y = true := both_iff.2 ⟨h, k⟩
      have P := parts_in h k
      have NX := Lib.hid (show isN ⟨x.n, x.d, x.t⟩ = true from h)
      have NY := Lib.hid (show isN ⟨y.n, y.d, y.t⟩ = true from k)
      have X := Lib.hid (div_mk hB)
      have XT := Lib.hid (divI_t x y)
      have a0 : -999999998000000001 ≤ x.n * y.d := by omega
      have a1 : x.n * y.d ≤ 999999998000000001 := by omega
      have c0 : -999999998000000001 ≤ x.d * y.n := by omega
      have c1 : x.d * y.n ≤ 999999998000000001 := by omega
      clear h k hB P
      go_enter Try.func88, Try.ntmps88
      go_wp2_with fail
      refine (specNumYes x.n x.d x.t _ hx NX.out).mono ?_
      rintro e w1 ⟨rfl, hb⟩
      obtain ⟨hc, hf⟩ := bcell hb
      have W1 := Lib.hid hb
      have B1 := Lib.hid (below_then (below3 w _ _ _) hb)
      have G1 := Lib.hid (blk_below (g := w.heap.size + 2) hb (blk_new _ _ (by simp)))
      have hz : w.heap.size + 2 < w1.heap.size := by have := hb.size; simp at this; omega
      clear hb
      go_wp2_with fail
      refine (specNumYes y.n y.d y.t _ hy NY.out).mono ?_
      rintro e w2 ⟨rfl, hb⟩
      have W2 := Lib.hid (W1.out.trans (hb.mono W1.out.size))
      clear hc hf
      obtain ⟨hc2, hf2⟩ := bcell W2.out
      have B2 := Lib.hid (below_then B1.out hb)
      have G2 := Lib.hid (blk_below hb G1.out)
      have hz2 : w.heap.size + 2 < w2.heap.size := by have := hb.size; omega
      clear hb
      go_wp2_with fail
      refine (specMake (x.n * y.d) (x.d * y.n) _ ⟨by omega, by omega⟩ ⟨by omega, by omega⟩).mono ?_
      rintro e w3 ⟨rfl, hb⟩
      have W3 := Lib.hid (W2.out.trans (hb.mono W2.out.size))
      clear hc2 hf2
      obtain ⟨hc3, hf3⟩ := bcell W3.out
      have B3 := Lib.hid (below_then B2.out hb)
      have G3 := Lib.hid (blk_below hb G2.out)
      clear hb
      rw [X.out]
      go_wp2
      rw [XT.out]
      exact item_ret rfl rfl rfl G3.out ⟨rfl, below_three B3.out (by omega) _ _ _⟩

set_option maxHeartbeats 1000000 in
theorem specNeg (x : It) (w : World) (hx : x.t.size ≤ 9223372036854775807) :
    Calls Try.prog 136 #[.agg #[.int .i64 x.n, .int .i64 x.d, .string x.t]] w fun e w' => e = .returned (.agg #[.int .i64 (negI x).n, .int .i64 (negI x).d, .string (negI x).t]) ∧ Below w.heap.size w w' := by
  cases h : isN x
  · have X := Lib.hid (show negI x = noI by unfold negI; simp [h])
    have NX := Lib.hid (show isN ⟨x.n, x.d, x.t⟩ = false from h)
    clear h
    go_enter Try.func136, Try.ntmps136
    go_wp2_with fail
    refine (specNumNo x.n x.d x.t _ hx NX.out).mono ?_
    rintro e w1 ⟨rfl, hb⟩
    obtain ⟨hc, hf⟩ := bcell hb
    have W1 := Lib.hid hb
    have B1 := Lib.hid (below_then (below2 w _ _) hb)
    have G1 := Lib.hid (blk_below (g := w.heap.size + 1) hb (blk_new _ _ (by simp)))
    have hz : w.heap.size + 1 < w1.heap.size := by have := hb.size; simp at this; omega
    clear hb
    go_wp2
    rw [X.out]
    exact item_ret rfl rfl rfl G1.out ⟨rfl, below_three B1.out (by omega) _ _ _⟩
  · have P := isN_iff.1 h
    have p0 : -999999999 ≤ x.n := P.2.2.2.1
    have p1 : x.n ≤ 999999999 := P.2.2.2.2.1
    have p2 : 1 ≤ x.d := P.2.1
    have p3 : x.d ≤ 999999999 := P.2.2.1
    have NX := Lib.hid (show isN ⟨x.n, x.d, x.t⟩ = true from h)
    have X := Lib.hid (neg_mk h)
    clear h P
    go_enter Try.func136, Try.ntmps136
    go_wp2_with fail
    refine (specNumYes x.n x.d x.t _ hx NX.out).mono ?_
    rintro e w1 ⟨rfl, hb⟩
    obtain ⟨hc, hf⟩ := bcell hb
    have W1 := Lib.hid hb
    have B1 := Lib.hid (below_then (below2 w _ _) hb)
    have G1 := Lib.hid (blk_below (g := w.heap.size + 1) hb (blk_new _ _ (by simp)))
    have hz : w.heap.size + 1 < w1.heap.size := by have := hb.size; simp at this; omega
    clear hb
    go_wp2
    rw [← X.out]
    exact item_ret rfl rfl rfl G1.out ⟨rfl, below_three B1.out (by omega) _ _ _⟩

set_option maxHeartbeats 1000000 in
theorem specFl (n d : Int) (w : World) (n0 : -4000000000000000000 ≤ n) (n1 : n ≤ 4000000000000000000) (d0 : 0 < d) (d1 : d ≤ 4000000000000000000) :
    Calls Try.prog 149 #[.int .i64 n, .int .i64 d] w fun e w' => e = .returned (.int .i64 (n.fdiv d)) ∧ w = w' := by
  have X := flS_eq (n := n) d0
  unfold flS at X
  obtain ⟨r0, r1, _⟩ := tmod_in2 (x := n) (show d ≠ 0 by omega) (by omega) d1
  have q := Int.natAbs_tdiv_le_natAbs n d
  have q0 : -4000000000000000000 ≤ n.tdiv d := by omega
  have q1 : n.tdiv d ≤ 4000000000000000000 := by omega
  clear q
  by_cases c : n.tmod d < 0
  · rw [if_pos c] at X
    have XX := Lib.hid X
    clear X
    go_enter Try.func149, Try.ntmps149
    go_wp2
    go_ret
    exact ⟨ret_i XX.out, rfl⟩
  · rw [if_neg c] at X
    have XX := Lib.hid X
    clear X
    go_enter Try.func149, Try.ntmps149
    go_wp2
    go_ret
    exact ⟨ret_i XX.out, rfl⟩

theorem ret_ii {a b c d : Int} (h : a = c) (k : b = d) : Ending.returned (.tuple #[.int .i64 a, .int .i64 b]) = .returned (.tuple #[.int .i64 c, .int .i64 d]) := by rw [h, k]
/-- The two parts with a positive second one. -/
def flip1 (x y : It) : Int := if y.n < 0 then -(x.n * y.d) else x.n * y.d
def flip2 (x y : It) : Int := if y.n < 0 then -(x.d * y.n) else x.d * y.n
set_option maxHeartbeats 1000000 in
theorem specParts (x y : It) (w : World) (d1 : 1 ≤ x.d) (P : (-999999998000000001 ≤ x.n * y.d ∧ x.n * y.d ≤ 999999998000000001) ∧ (-999999998000000001 ≤ x.d * y.n ∧ x.d * y.n ≤ 999999998000000001)) :
    Calls Try.prog 148 #[.agg #[.int .i64 x.n, .int .i64 x.d, .string x.t], .agg #[.int .i64 y.n, .int .i64 y.d, .string y.t]] w fun e w' => e = .returned (.tuple #[.int .i64 (flip1 x y), .int .i64 (flip2 x y)]) ∧ Below w.heap.size w w' := by
  have e : x.d * y.n = y.n * x.d := Int.mul_comm ..
  rw [e] at P
  have a0 := P.1.1
  have a1 := P.1.2
  have b0 := P.2.1
  have b1 := P.2.2
  clear P e
  by_cases c : y.n < 0
  · have X1 := Lib.hid (show flip1 x y = -(x.n * y.d) by unfold flip1; rw [if_pos c])
    have X2 := Lib.hid (show flip2 x y = -(y.n * x.d) by unfold flip2; rw [if_pos c, Int.mul_comm])
    have c' : y.n * x.d < 0 := Int.mul_neg_of_neg_of_pos c (by omega)
    clear c
    go_enter Try.func148, Try.ntmps148
    go_wp2
    go_ret2
    exact ⟨ret_ii X1.out.symm X2.out.symm, below2 w _ _⟩
  · have X1 := Lib.hid (show flip1 x y = x.n * y.d by unfold flip1; rw [if_neg c])
    have X2 := Lib.hid (show flip2 x y = y.n * x.d by unfold flip2; rw [if_neg c, Int.mul_comm])
    have c' : 0 ≤ y.n * x.d := Int.mul_nonneg (by omega) (by omega)
    clear c
    go_enter Try.func148, Try.ntmps148
    go_wp2
    go_ret2
    exact ⟨ret_ii X1.out.symm X2.out.symm, below2 w _ _⟩
/-- What the two parts say. -/
theorem flip_facts {x y : It} (h : both x y = true) (h0 : y.n ≠ 0) : ∃ p s : Int, flip1 x y = p ∧ flip2 x y = s ∧ (-999999998000000001 ≤ p ∧ p ≤ 999999998000000001) ∧ 0 < s ∧ s ≤ 999999998000000001 ∧
    mkI (p.fdiv s) 1 = quoI x y ∧ (y.n < 0 → mkI (-(p - s * p.fdiv s)) (x.d * y.d) = remI x y) ∧ (¬ y.n < 0 → mkI (p - s * p.fdiv s) (x.d * y.d) = remI x y) ∧ (-1000000000000000000 ≤ p.fdiv s ∧ p.fdiv s ≤ 1000000000000000000) ∧
    (-999999998000000001 ≤ s * p.fdiv s - p ∧ s * p.fdiv s - p ≤ 999999998000000001) := by
  obtain ⟨hx, hy⟩ := both_iff.1 h
  have P := parts_in hx hy
  have a := isN_iff.1 hx
  have b := isN_iff.1 hy
  have hz : x.d * y.n ≠ 0 := Int.mul_ne_zero (by omega) h0
  have q := quo_mk h h0
  have r := rem_mk h h0
  have e := Int.fmod_add_mul_fdiv (x.n * y.d) (x.d * y.n)
  have fm := fmod_in (n := x.n * y.d) (d := x.d * y.n) (A := 999999998000000001) (by omega) (by omega) hz
  have fd := fdiv_in (n := x.n * y.d) (d := x.d * y.n) (A := 999999998000000001) hz (by omega) (by omega)
  refine ⟨_, _, rfl, rfl, ?_⟩
  unfold flip1 flip2
  by_cases c : y.n < 0
  · have s0 : x.d * y.n < 0 := Int.mul_neg_of_pos_of_neg (by omega) c
    rw [if_pos c, if_pos c, Int.neg_fdiv_neg, Int.neg_mul]
    refine ⟨by omega, by omega, by omega, q, fun _ => ?_, fun k => absurd c k, by omega, by omega⟩
    rw [← r]; congr 1; omega
  · have s0 : 0 < x.d * y.n := Int.mul_pos (by omega) (by omega)
    rw [if_neg c, if_neg c]
    refine ⟨by omega, by omega, by omega, q, fun k => absurd k c, fun _ => ?_, by omega, by omega⟩
    rw [← r]; congr 1; omega

set_option maxHeartbeats 2000000 in
theorem specQuo (x y : It) (w : World) (hx : x.t.size ≤ 9223372036854775807) (hy : y.t.size ≤ 9223372036854775807) :
    Calls Try.prog 124 #[.agg #[.int .i64 x.n, .int .i64 x.d, .string x.t], .agg #[.int .i64 y.n, .int .i64 y.d, .string y.t]] w fun e w' => e = .returned (.agg #[.int .i64 (quoI x y).n, .int .i64 (quoI x y).d, .string (quoI x y).t]) ∧ Below w.heap.size w w' := by
  cases h : isN x
  · have X := Lib.hid (quo_no (y := y) (not_both1 h))
    have NX := Lib.hid (show isN ⟨x.n, x.d, x.t⟩ = false from h)
    clear h
    go_enter Try.func124, Try.ntmps124
    go_wp2_with fail
    refine (specNumNo x.n x.d x.t _ hx NX.out).mono ?_
    rintro e w1 ⟨rfl, hb⟩
    obtain ⟨hc, hf⟩ := bcell hb
    have W1 := Lib.hid hb
    have B1 := Lib.hid (below_then (below3 w _ _ _) hb)
    have G1 := Lib.hid (blk_below (g := w.heap.size + 2) hb (blk_new _ _ (by simp)))
    have hz : w.heap.size + 2 < w1.heap.size := by have := hb.size; simp at this; omega
    clear hb
    go_wp2
    rw [X.out]
    exact item_ret rfl rfl rfl G1.out ⟨rfl, below_three B1.out (by omega) _ _ _⟩
  · cases k : isN y
    · have X := Lib.hid (quo_no (x := x) (not_both2 k))
      have NX := Lib.hid (show isN ⟨x.n, x.d, x.t⟩ = true from h)
      have NY := Lib.hid (show isN ⟨y.n, y.d, y.t⟩ = false from k)
      clear h k
      go_enter Try.func124, Try.ntmps124
      go_wp2_with fail
      refine (specNumYes x.n x.d x.t _ hx NX.out).mono ?_
      rintro e w1 ⟨rfl, hb⟩
      obtain ⟨hc, hf⟩ := bcell hb
      have W1 := Lib.hid hb
      have B1 := Lib.hid (below_then (below3 w _ _ _) hb)
      have G1 := Lib.hid (blk_below (g := w.heap.size + 2) hb (blk_new _ _ (by simp)))
      have hz : w.heap.size + 2 < w1.heap.size := by have := hb.size; simp at this; omega
      clear hb
      go_wp2_with fail
      refine (specNumNo y.n y.d y.t _ hy NY.out).mono ?_
      rintro e w2 ⟨rfl, hb⟩
      have W2 := Lib.hid (W1.out.trans (hb.mono W1.out.size))
      clear hc hf
      obtain ⟨hc2, hf2⟩ := bcell W2.out
      have B2 := Lib.hid (below_then B1.out hb)
      have G2 := Lib.hid (blk_below hb G1.out)
      have hz2 : w.heap.size + 2 < w2.heap.size := by have := hb.size; omega
      clear hb
      go_wp2
      rw [X.out]
      exact item_ret rfl rfl rfl G2.out ⟨rfl, below_three B2.out (by omega) _ _ _⟩
    · have hB : both x y = true := both_iff.2 ⟨h, k⟩
      have P := parts_in h k
      have NX := Lib.hid (show isN ⟨x.n, x.d, x.t⟩ = true from h)
      have NY := Lib.hid (show isN ⟨y.n, y.d, y.t⟩ = true from k)
      by_cases h0 : y.n = 0
      · have X := Lib.hid (quo_no0 (x := x) h0)
        have h0' : (y.n == 0) = true := by simp [h0]
        clear h k hB P h0
        go_enter Try.func124, Try.ntmps124
        go_wp2_with fail
        refine (specNumYes x.n x.d x.t _ hx NX.out).mono ?_
        rintro e w1 ⟨rfl, hb⟩
        obtain ⟨hc, hf⟩ := bcell hb
        have W1 := Lib.hid hb
        have B1 := Lib.hid (below_then (below3 w _ _ _) hb)
        have G1 := Lib.hid (blk_below (g := w.heap.size + 2) hb (blk_new _ _ (by simp)))
        have hz : w.heap.size + 2 < w1.heap.size := by have := hb.size; simp at this; omega
        clear hb
        go_wp2_with fail
        refine (specNumYes y.n y.d y.t _ hy NY.out).mono ?_
        rintro e w2 ⟨rfl, hb⟩
        have W2 := Lib.hid (W1.out.trans (hb.mono W1.out.size))
        clear hc hf
        obtain ⟨hc2, hf2⟩ := bcell W2.out
        have B2 := Lib.hid (below_then B1.out hb)
        have G2 := Lib.hid (blk_below hb G1.out)
        have hz2 : w.heap.size + 2 < w2.heap.size := by have := hb.size; omega
        clear hb
        go_wp2
        rw [X.out]
        exact item_ret rfl rfl rfl G2.out ⟨rfl, below_three B2.out (by omega) _ _ _⟩
      · have h0' : (y.n == 0) = false := by simp [h0]
        have dx := (isN_iff.1 h).2.1
        have C := Lib.hid (fun W => specParts x y W dx ⟨by omega, by omega⟩)
        obtain ⟨p, s, e1, e2, ⟨p0, p1⟩, s0, s1, q1, r1, r2, ⟨f0, f1⟩, ⟨g0, g1⟩⟩ := flip_facts hB h0
        rw [e1, e2] at C
        have XT := Lib.hid (quoS_t x y)
        have X := Lib.hid q1
        clear h k hB P h0 e1 e2 q1 r1 r2
        go_enter Try.func124, Try.ntmps124
        go_wp2_with fail
        refine (specNumYes x.n x.d x.t _ hx NX.out).mono ?_
        rintro e w1 ⟨rfl, hb⟩
        obtain ⟨hc, hf⟩ := bcell hb
        have W1 := Lib.hid hb
        have B1 := Lib.hid (below_then (below3 w _ _ _) hb)
        have G1 := Lib.hid (blk_below (g := w.heap.size + 2) hb (blk_new _ _ (by simp)))
        have hz : w.heap.size + 2 < w1.heap.size := by have := hb.size; simp at this; omega
        clear hb
        go_wp2_with fail
        refine (specNumYes y.n y.d y.t _ hy NY.out).mono ?_
        rintro e w2 ⟨rfl, hb⟩
        have W2 := Lib.hid (W1.out.trans (hb.mono W1.out.size))
        clear hc hf
        obtain ⟨hc2, hf2⟩ := bcell W2.out
        have B2 := Lib.hid (below_then B1.out hb)
        have G2 := Lib.hid (blk_below hb G1.out)
        have hz2 : w.heap.size + 2 < w2.heap.size := by have := hb.size; omega
        clear hb
        go_wp2_with fail
        refine (C.out _).mono ?_
        rintro e w3 ⟨rfl, hb⟩
        have W3 := Lib.hid (W2.out.trans (hb.mono W2.out.size))
        clear hc2 hf2
        obtain ⟨hc3, hf3⟩ := bcell W3.out
        have B3 := Lib.hid (below_then B2.out hb)
        have G3 := Lib.hid (blk_below hb G2.out)
        have hz3 : w.heap.size + 2 < w3.heap.size := by have := hb.size; omega
        clear hb
        go_wp2_with fail
        refine (specFl p s _ (by omega) (by omega) s0 (by omega)).mono ?_
        rintro e w' ⟨rfl, rfl⟩
        go_wp2_with fail
        refine (specMake (p.fdiv s) 1 _ ⟨by omega, by omega⟩ ⟨by omega, by omega⟩).mono ?_
        rintro e w4 ⟨rfl, hb⟩
        have W4 := Lib.hid (W3.out.trans (hb.mono W3.out.size))
        clear hc3 hf3
        obtain ⟨hc4, hf4⟩ := bcell W4.out
        have B4 := Lib.hid (below_then B3.out hb)
        have G4 := Lib.hid (blk_below hb G3.out)
        clear hb
        rw [X.out]
        go_wp2
        rw [XT.out]
        exact item_ret rfl rfl rfl G4.out ⟨rfl, below_three B4.out (by omega) _ _ _⟩

set_option maxHeartbeats 2000000 in
theorem specRem (x y : It) (w : World) (hx : x.t.size ≤ 9223372036854775807) (hy : y.t.size ≤ 9223372036854775807) :
    Calls Try.prog 123 #[.agg #[.int .i64 x.n, .int .i64 x.d, .string x.t], .agg #[.int .i64 y.n, .int .i64 y.d, .string y.t]] w fun e w' => e = .returned (.agg #[.int .i64 (remI x y).n, .int .i64 (remI x y).d, .string (remI x y).t]) ∧ Below w.heap.size w w' := by
  cases h : isN x
  · have X := Lib.hid (rem_no (y := y) (not_both1 h))
    have NX := Lib.hid (show isN ⟨x.n, x.d, x.t⟩ = false from h)
    clear h
    go_enter Try.func123, Try.ntmps123
    go_wp2_with fail
    refine (specNumNo x.n x.d x.t _ hx NX.out).mono ?_
    rintro e w1 ⟨rfl, hb⟩
    obtain ⟨hc, hf⟩ := bcell hb
    have W1 := Lib.hid hb
    have B1 := Lib.hid (below_then (below3 w _ _ _) hb)
    have G1 := Lib.hid (blk_below (g := w.heap.size + 2) hb (blk_new _ _ (by simp)))
    have hz : w.heap.size + 2 < w1.heap.size := by have := hb.size; simp at this; omega
    clear hb
    go_wp2
    rw [X.out]
    exact item_ret rfl rfl rfl G1.out ⟨rfl, below_three B1.out (by omega) _ _ _⟩
  · cases k : isN y
    · have X := Lib.hid (rem_no (x := x) (not_both2 k))
      have NX := Lib.hid (show isN ⟨x.n, x.d, x.t⟩ = true from h)
      have NY := Lib.hid (show isN ⟨y.n, y.d, y.t⟩ = false from k)
      clear h k
      go_enter Try.func123, Try.ntmps123
      go_wp2_with fail
      refine (specNumYes x.n x.d x.t _ hx NX.out).mono ?_
      rintro e w1 ⟨rfl, hb⟩
      obtain ⟨hc, hf⟩ := bcell hb
      have W1 := Lib.hid hb
      have B1 := Lib.hid (below_then (below3 w _ _ _) hb)
      have G1 := Lib.hid (blk_below (g := w.heap.size + 2) hb (blk_new _ _ (by simp)))
      have hz : w.heap.size + 2 < w1.heap.size := by have := hb.size; simp at this; omega
      clear hb
      go_wp2_with fail
      refine (specNumNo y.n y.d y.t _ hy NY.out).mono ?_
      rintro e w2 ⟨rfl, hb⟩
      have W2 := Lib.hid (W1.out.trans (hb.mono W1.out.size))
      clear hc hf
      obtain ⟨hc2, hf2⟩ := bcell W2.out
      have B2 := Lib.hid (below_then B1.out hb)
      have G2 := Lib.hid (blk_below hb G1.out)
      have hz2 : w.heap.size + 2 < w2.heap.size := by have := hb.size; omega
      clear hb
      go_wp2
      rw [X.out]
      exact item_ret rfl rfl rfl G2.out ⟨rfl, below_three B2.out (by omega) _ _ _⟩
    · have hB : both x y = true := both_iff.2 ⟨h, k⟩
      have P := parts_in h k
      have NX := Lib.hid (show isN ⟨x.n, x.d, x.t⟩ = true from h)
      have NY := Lib.hid (show isN ⟨y.n, y.d, y.t⟩ = true from k)
      by_cases h0 : y.n = 0
      · have X := Lib.hid (rem_no0 (x := x) h0)
        have h0' : (y.n == 0) = true := by simp [h0]
        clear h k hB P h0
        go_enter Try.func123, Try.ntmps123
        go_wp2_with fail
        refine (specNumYes x.n x.d x.t _ hx NX.out).mono ?_
        rintro e w1 ⟨rfl, hb⟩
        obtain ⟨hc, hf⟩ := bcell hb
        have W1 := Lib.hid hb
        have B1 := Lib.hid (below_then (below3 w _ _ _) hb)
        have G1 := Lib.hid (blk_below (g := w.heap.size + 2) hb (blk_new _ _ (by simp)))
        have hz : w.heap.size + 2 < w1.heap.size := by have := hb.size; simp at this; omega
        clear hb
        go_wp2_with fail
        refine (specNumYes y.n y.d y.t _ hy NY.out).mono ?_
        rintro e w2 ⟨rfl, hb⟩
        have W2 := Lib.hid (W1.out.trans (hb.mono W1.out.size))
        clear hc hf
        obtain ⟨hc2, hf2⟩ := bcell W2.out
        have B2 := Lib.hid (below_then B1.out hb)
        have G2 := Lib.hid (blk_below hb G1.out)
        have hz2 : w.heap.size + 2 < w2.heap.size := by have := hb.size; omega
        clear hb
        go_wp2
        rw [X.out]
        exact item_ret rfl rfl rfl G2.out ⟨rfl, below_three B2.out (by omega) _ _ _⟩
      · have h0' : (y.n == 0) = false := by simp [h0]
        have dx := (isN_iff.1 h).2.1
        have C := Lib.hid (fun W => specParts x y W dx ⟨by omega, by omega⟩)
        obtain ⟨p, s, e1, e2, ⟨p0, p1⟩, s0, s1, q1, r1, r2, ⟨f0, f1⟩, ⟨g0, g1⟩⟩ := flip_facts hB h0
        rw [e1, e2] at C
        have XT := Lib.hid (remS_t x y)
        have c0 : 1 ≤ x.d * y.d := by omega
        have c1 : x.d * y.d ≤ 999999998000000001 := by omega
        have t0 : -1999999996000000002 ≤ s * p.fdiv s := by omega
        have t1 : s * p.fdiv s ≤ 1999999996000000002 := by omega
        by_cases c : y.n < 0
        · have X := Lib.hid (r1 c)
          clear h k hB P h0 e1 e2 q1 r1 r2
          go_enter Try.func123, Try.ntmps123
          go_wp2_with fail
          refine (specNumYes x.n x.d x.t _ hx NX.out).mono ?_
          rintro e w1 ⟨rfl, hb⟩
          obtain ⟨hc, hf⟩ := bcell hb
          have W1 := Lib.hid hb
          have B1 := Lib.hid (below_then (below3 w _ _ _) hb)
          have G1 := Lib.hid (blk_below (g := w.heap.size + 2) hb (blk_new _ _ (by simp)))
          have hz : w.heap.size + 2 < w1.heap.size := by have := hb.size; simp at this; omega
          clear hb
          go_wp2_with fail
          refine (specNumYes y.n y.d y.t _ hy NY.out).mono ?_
          rintro e w2 ⟨rfl, hb⟩
          have W2 := Lib.hid (W1.out.trans (hb.mono W1.out.size))
          clear hc hf
          obtain ⟨hc2, hf2⟩ := bcell W2.out
          have B2 := Lib.hid (below_then B1.out hb)
          have G2 := Lib.hid (blk_below hb G1.out)
          have hz2 : w.heap.size + 2 < w2.heap.size := by have := hb.size; omega
          clear hb
          go_wp2_with fail
          refine (C.out _).mono ?_
          rintro e w3 ⟨rfl, hb⟩
          have W3 := Lib.hid (W2.out.trans (hb.mono W2.out.size))
          clear hc2 hf2
          obtain ⟨hc3, hf3⟩ := bcell W3.out
          have B3 := Lib.hid (below_then B2.out hb)
          have G3 := Lib.hid (blk_below hb G2.out)
          have hz3 : w.heap.size + 2 < w3.heap.size := by have := hb.size; omega
          clear hb
          go_wp2_with fail
          refine (specFl p s _ (by omega) (by omega) s0 (by omega)).mono ?_
          rintro e w' ⟨rfl, rfl⟩
          go_wp2_with fail
          refine (specMake (-(p - s * p.fdiv s)) (x.d * y.d) _ ⟨by omega, by omega⟩ ⟨by omega, by omega⟩).mono ?_
          rintro e w4 ⟨rfl, hb⟩
          have W4 := Lib.hid (W3.out.trans (hb.mono W3.out.size))
          clear hc3 hf3
          obtain ⟨hc4, hf4⟩ := bcell W4.out
          have B4 := Lib.hid (below_then B3.out hb)
          have G4 := Lib.hid (blk_below hb G3.out)
          clear hb
          rw [X.out]
          go_wp2
          rw [XT.out]
          exact item_ret rfl rfl rfl G4.out ⟨rfl, below_three B4.out (by omega) _ _ _⟩
        · have X := Lib.hid (r2 c)
          clear h k hB P h0 e1 e2 q1 r1 r2
          go_enter Try.func123, Try.ntmps123
          go_wp2_with fail
          refine (specNumYes x.n x.d x.t _ hx NX.out).mono ?_
          rintro e w1 ⟨rfl, hb⟩
          obtain ⟨hc, hf⟩ := bcell hb
          have W1 := Lib.hid hb
          have B1 := Lib.hid (below_then (below3 w _ _ _) hb)
          have G1 := Lib.hid (blk_below (g := w.heap.size + 2) hb (blk_new _ _ (by simp)))
          have hz : w.heap.size + 2 < w1.heap.size := by have := hb.size; simp at this; omega
          clear hb
          go_wp2_with fail
          refine (specNumYes y.n y.d y.t _ hy NY.out).mono ?_
          rintro e w2 ⟨rfl, hb⟩
          have W2 := Lib.hid (W1.out.trans (hb.mono W1.out.size))
          clear hc hf
          obtain ⟨hc2, hf2⟩ := bcell W2.out
          have B2 := Lib.hid (below_then B1.out hb)
          have G2 := Lib.hid (blk_below hb G1.out)
          have hz2 : w.heap.size + 2 < w2.heap.size := by have := hb.size; omega
          clear hb
          go_wp2_with fail
          refine (C.out _).mono ?_
          rintro e w3 ⟨rfl, hb⟩
          have W3 := Lib.hid (W2.out.trans (hb.mono W2.out.size))
          clear hc2 hf2
          obtain ⟨hc3, hf3⟩ := bcell W3.out
          have B3 := Lib.hid (below_then B2.out hb)
          have G3 := Lib.hid (blk_below hb G2.out)
          have hz3 : w.heap.size + 2 < w3.heap.size := by have := hb.size; omega
          clear hb
          go_wp2_with fail
          refine (specFl p s _ (by omega) (by omega) s0 (by omega)).mono ?_
          rintro e w' ⟨rfl, rfl⟩
          go_wp2_with fail
          refine (specMake (p - s * p.fdiv s) (x.d * y.d) _ ⟨by omega, by omega⟩ ⟨by omega, by omega⟩).mono ?_
          rintro e w4 ⟨rfl, hb⟩
          have W4 := Lib.hid (W3.out.trans (hb.mono W3.out.size))
          clear hc3 hf3
          obtain ⟨hc4, hf4⟩ := bcell W4.out
          have B4 := Lib.hid (below_then B3.out hb)
          have G4 := Lib.hid (blk_below hb G3.out)
          clear hb
          rw [X.out]
          go_wp2
          rw [XT.out]
          exact item_ret rfl rfl rfl G4.out ⟨rfl, below_three B4.out (by omega) _ _ _⟩
end Go.Proofs.Ytlnjjjoeblopeaa

/- PowerOf, the program's. -/
namespace Go.Proofs.Ytlnjjjoeblopeaa
set_option maxRecDepth 100000
open Go.RowKit
set_option linter.unusedVariables false

theorem pow_no {x y : It} (h : powOk x y = false) : powI x y = noI := by unfold powI; rw [h]; rfl
theorem powOk_b {x y : It} (h : both x y = false) : powOk x y = false := by unfold powOk; simp [h]
theorem powOk_d {x y : It} (h : y.d ≠ 1) : powOk x y = false := by unfold powOk; simp [h]
theorem powOk_n {x y : It} (h : y.n < -20 ∨ 20 < y.n) : powOk x y = false := by
  unfold powOk; apply decide_eq_false; omega
theorem powOk_yes {x y : It} (h : both x y = true) (hd : y.d = 1) (h1 : -20 ≤ y.n) (h2 : y.n ≤ 20) : powOk x y = true := by
  unfold powOk; exact decide_eq_true ⟨h, hd, h1, h2⟩
theorem pow_neg {x y : It} (h : powOk x y = true) (k : y.n < 0) : powI x y = divI oneI (powN x y.n.natAbs) := by unfold powI; rw [if_pos h, if_pos k]
theorem pow_pos {x y : It} (h : powOk x y = true) (k : ¬ y.n < 0) : powI x y = powN x y.n.natAbs := by unfold powI; rw [if_pos h, if_neg k]
theorem powN_small (x : It) (k : Nat) : (powN x k).t.size ≤ 9223372036854775807 := by rw [powN_t]; decide
theorem one_small : oneI.t.size ≤ 9223372036854775807 := by decide

/-- Where the five blocks of PowerOf's call stand behind k rounds. -/
def PowAt (w w1 : World) (x y : It) (k : Nat) (v : World) : Prop :=
  Below w.heap.size w v ∧ w1.heap.size + 1 < v.heap.size ∧
  v.heap[w.heap.size]? = some (.cells #[.int .i64 x.n, .int .i64 x.d, .string x.t] 66 (0, 0)) ∧ v.heap[w.heap.size + 1]? = some (.cells #[.int .i64 y.n, .int .i64 y.d, .string y.t] 66 (0, 0)) ∧ v.heap[w.heap.size + 2]? = some (.cells #[.int .i64 0, .int .i64 0, .string ⟨#[]⟩] 66 (0, 0)) ∧
  v.heap[w1.heap.size]? = some (.cells #[.int .i64 oneI.n, .int .i64 oneI.d, .string oneI.t] 66 (0, 0)) ∧ v.heap[w1.heap.size + 1]? = some (.cells #[.int .i64 (powN x k).n, .int .i64 (powN x k).d, .string (powN x k).t] 66 (0, 0))

set_option maxHeartbeats 4000000 in
theorem implPow (x y : It) (w : World) (hx : x.t.size ≤ 9223372036854775807) (hy : y.t.size ≤ 9223372036854775807) :
    Calls Try.prog 129 #[.agg #[.int .i64 x.n, .int .i64 x.d, .string x.t], .agg #[.int .i64 y.n, .int .i64 y.d, .string y.t]] w fun e w' => e = .returned (.agg #[.int .i64 (powI x y).n, .int .i64 (powI x y).d, .string (powI x y).t]) ∧ Below w.heap.size w w' := by
  cases h : both x y
  · have X := Lib.hid (pow_no (powOk_b h))
    have N := Lib.hid h
    clear h
    go_enter Try.func129, Try.ntmps129
    go_wp2_with fail
    refine (areNo x y _ hx hy N.out).mono ?_
    rintro e w1 ⟨rfl, hb⟩
    obtain ⟨hc, hf⟩ := bcell hb
    have B1 := Lib.hid (below_then (below3 w _ _ _) hb)
    have G := Lib.hid (blk_below (g := w.heap.size + 2) hb (blk_new _ _ (by simp)))
    clear hb
    go_wp2
    rw [X.out]
    exact item_ret rfl rfl rfl G.out ⟨rfl, below_three B1.out (by omega) _ _ _⟩
  · have start : ∀ (P : Prop), (y.d ≠ 1 ∨ y.n < -20 ∨ 20 < y.n → P) → (y.d = 1 ∧ -20 ≤ y.n ∧ y.n ≤ 20 → P) → P := by
      intro P a b
      by_cases c : y.d = 1 ∧ -20 ≤ y.n ∧ y.n ≤ 20
      · exact b c
      · exact a (by omega)
    have yn := isN_iff.1 (both_iff.1 h).2
    have y0 : -999999999 ≤ y.n := yn.2.2.2.1
    have y1 : y.n ≤ 999999999 := yn.2.2.2.2.1
    clear yn
    apply start
    · intro c
      have X := Lib.hid (show powI x y = noI from pow_no (c.elim powOk_d powOk_n))
      have N := Lib.hid h
      clear h start
      have c' : (¬ y.d = 1) ∨ ((1 ≤ y.d ∧ y.d ≤ 1) ∧ y.n < -20) ∨ ((1 ≤ y.d ∧ y.d ≤ 1) ∧ ¬ y.n < -20 ∧ 20 < y.n) := by omega
      clear c
      rcases c' with c | ⟨⟨c, c1⟩, d⟩ | ⟨⟨c, c1⟩, d, d'⟩
      all_goals
        go_enter Try.func129, Try.ntmps129
        go_wp2_with fail
        refine (areYes x y _ hx hy N.out).mono ?_
        rintro e w1 ⟨rfl, hb⟩
        obtain ⟨hc, hf⟩ := bcell hb
        have B1 := Lib.hid (below_then (below3 w _ _ _) hb)
        have G := Lib.hid (blk_below (g := w.heap.size + 2) hb (blk_new _ _ (by simp)))
        have hz : w.heap.size + 2 < w1.heap.size := by have := hb.size; simp at this; omega
        clear hb
        go_wp2
        rw [X.out]
        exact item_ret rfl rfl rfl G.out ⟨rfl, below_three B1.out (by omega) _ _ _⟩
    · rintro ⟨hd, n0, n1⟩
      have O := Lib.hid (powOk_yes h hd n0 n1)
      have N := Lib.hid h
      have c0 : 1 ≤ y.d := by omega
      have c1 : y.d ≤ 1 := by omega
      clear h start hd
      have PS := Lib.hid (powN_small x)
      obtain ⟨m, hm⟩ : ∃ m, y.n.natAbs = m := ⟨_, rfl⟩
      have HX := Lib.hid hx
      by_cases s : y.n < 0
      · have X := Lib.hid (show powI x y = divI oneI (powN x m) by rw [pow_neg O.out s, hm])
        have e0 : -y.n ≤ (m : Int) := by omega
        have e1 : (m : Int) ≤ -y.n := by omega
        have e2 : m ≤ 20 := by omega
        clear hm
        go_enter Try.func129, Try.ntmps129
        go_wp2_with fail
        refine (areYes x y _ hx hy N.out).mono ?_
        rintro e w1 ⟨rfl, hb⟩
        obtain ⟨hc, hf⟩ := bcell hb
        have B1 := Lib.hid (below_then (below3 w _ _ _) hb)
        have GX := Lib.hid (blk_below (g := w.heap.size) hb (blk_old (blk_old (blk_new _ _ rfl))))
        have GY := Lib.hid (blk_below (g := w.heap.size + 1) hb (blk_old (blk_new _ _ (by simp))))
        have GR := Lib.hid (blk_below (g := w.heap.size + 2) hb (blk_new _ _ (by simp)))
        have hz : w.heap.size + 2 < w1.heap.size := by have := hb.size; simp at this; omega
        clear hb
        obtain ⟨⟨cy0, cy1, cy2⟩, _, _, _⟩ := three GY.out
        have hz1 : w.heap.size + 1 < w1.heap.size := by omega
        have hz0 : w.heap.size < w1.heap.size := by omega
        clear hc hf
        go_wp2
        go_loopw [35] (fun i wr => ∃ k : Nat, k ≤ m ∧ i = .int .i64 k ∧ PowAt w w1 x y k wr) (fun i _ => m - (intOf i).toNat)
        case atStart => exact ⟨0, by omega, rfl, below_then B1.out (below2 w1 _ _), by simp, blk_old (blk_old GX.out), blk_old (blk_old GY.out), blk_old (blk_old GR.out), blk_old (blk_new _ _ rfl), blk_new _ _ (by simp)⟩
        case round =>
          rename_i wr
          obtain ⟨k, hk, rfl, P1, P2, P3, P4, P5, P6, P7⟩ := hrel
          have B2 := Lib.hid P1
          have KX := Lib.hid P3
          have KY := Lib.hid P4
          have KR := Lib.hid P5
          have KO := Lib.hid P6
          have KP := Lib.hid P7
          clear P1 P3 P4 P5 P6 P7 cy0 cy1 cy2
          have z0 : w.heap.size < wr.heap.size := by omega
          have z1 : w.heap.size + 1 < wr.heap.size := by omega
          have z2 : w.heap.size + 2 < wr.heap.size := by omega
          have z3 : w1.heap.size < wr.heap.size := by omega
          obtain ⟨⟨cx0, cx1, cx2⟩, _, _, _⟩ := three KX.out
          obtain ⟨⟨cy0, cy1, cy2⟩, _, _, _⟩ := three KY.out
          obtain ⟨⟨cp0, cp1, cp2⟩, _, _, _⟩ := three KP.out
          obtain ⟨⟨co0, co1, co2⟩, _, _, _⟩ := three KO.out
          by_cases hlt : k < m
          · go_wp2_with fail
            refine (implMul (powN x k) x _ (PS.out k) HX.out).mono ?_
            rintro e w2 ⟨rfl, hb⟩
            have MX := Lib.hid (blk_below hb KX.out)
            have MY := Lib.hid (blk_below hb KY.out)
            have MR := Lib.hid (blk_below hb KR.out)
            have MO := Lib.hid (blk_below hb KO.out)
            have MP := Lib.hid (blk_below hb KP.out)
            have B3 := Lib.hid (below_then B2.out hb)
            have hs := hb.size
            clear hb cx0 cx1 cx2 cy0 cy1 cy2 cp0 cp1 cp2 co0 co1 co2
            obtain ⟨⟨cp0, cp1, cp2⟩, fp0, fp1, fp2⟩ := three MP.out
            go_wp2
            go_roundw
            case rel => exact ⟨k + 1, by omega, by go_num, below_three B3.out (by omega) _ _ _, by simp; omega, blk_set3' MX.out (by omega), blk_set3' MY.out (by omega), blk_set3' MR.out (by omega), blk_set3' MO.out (by omega), cells_set3 MP.out⟩
            case measure => simp [intOf]; omega
          · have hkm : k = m := by omega
            subst hkm
            clear hlt hk
            go_wp2_with fail
            refine (implDiv oneI (powN x k) _ one_small (PS.out k)).mono ?_
            rintro e w2 ⟨rfl, hb⟩
            have MR := Lib.hid (blk_below hb KR.out)
            have B3 := Lib.hid (below_then B2.out hb)
            clear hb cx0 cx1 cx2 cy0 cy1 cy2 cp0 cp1 cp2 co0 co1 co2
            obtain ⟨⟨cp0, cp1, cp2⟩, fp0, fp1, fp2⟩ := three MR.out
            go_wp2
            rw [X.out]
            exact item_ret rfl rfl rfl MR.out ⟨rfl, below_three B3.out (by omega) _ _ _⟩
      · have X := Lib.hid (show powI x y = powN x m by rw [pow_pos O.out s, hm])
        have e0 : y.n ≤ (m : Int) := by omega
        have e1 : (m : Int) ≤ y.n := by omega
        have e2 : m ≤ 20 := by omega
        clear hm
        go_enter Try.func129, Try.ntmps129
        go_wp2_with fail
        refine (areYes x y _ hx hy N.out).mono ?_
        rintro e w1 ⟨rfl, hb⟩
        obtain ⟨hc, hf⟩ := bcell hb
        have B1 := Lib.hid (below_then (below3 w _ _ _) hb)
        have GX := Lib.hid (blk_below (g := w.heap.size) hb (blk_old (blk_old (blk_new _ _ rfl))))
        have GY := Lib.hid (blk_below (g := w.heap.size + 1) hb (blk_old (blk_new _ _ (by simp))))
        have GR := Lib.hid (blk_below (g := w.heap.size + 2) hb (blk_new _ _ (by simp)))
        have hz : w.heap.size + 2 < w1.heap.size := by have := hb.size; simp at this; omega
        clear hb
        obtain ⟨⟨cy0, cy1, cy2⟩, _, _, _⟩ := three GY.out
        have hz1 : w.heap.size + 1 < w1.heap.size := by omega
        have hz0 : w.heap.size < w1.heap.size := by omega
        clear hc hf
        go_wp2
        go_loopw [35] (fun i wr => ∃ k : Nat, k ≤ m ∧ i = .int .i64 k ∧ PowAt w w1 x y k wr) (fun i _ => m - (intOf i).toNat)
        case atStart => exact ⟨0, by omega, rfl, below_then B1.out (below2 w1 _ _), by simp, blk_old (blk_old GX.out), blk_old (blk_old GY.out), blk_old (blk_old GR.out), blk_old (blk_new _ _ rfl), blk_new _ _ (by simp)⟩
        case round =>
          rename_i wr
          obtain ⟨k, hk, rfl, P1, P2, P3, P4, P5, P6, P7⟩ := hrel
          have B2 := Lib.hid P1
          have KX := Lib.hid P3
          have KY := Lib.hid P4
          have KR := Lib.hid P5
          have KO := Lib.hid P6
          have KP := Lib.hid P7
          clear P1 P3 P4 P5 P6 P7 cy0 cy1 cy2
          have z0 : w.heap.size < wr.heap.size := by omega
          have z1 : w.heap.size + 1 < wr.heap.size := by omega
          have z2 : w.heap.size + 2 < wr.heap.size := by omega
          have z3 : w1.heap.size < wr.heap.size := by omega
          obtain ⟨⟨cx0, cx1, cx2⟩, _, _, _⟩ := three KX.out
          obtain ⟨⟨cy0, cy1, cy2⟩, _, _, _⟩ := three KY.out
          obtain ⟨⟨cp0, cp1, cp2⟩, _, _, _⟩ := three KP.out
          obtain ⟨⟨co0, co1, co2⟩, _, _, _⟩ := three KO.out
          by_cases hlt : k < m
          · go_wp2_with fail
            refine (implMul (powN x k) x _ (PS.out k) HX.out).mono ?_
            rintro e w2 ⟨rfl, hb⟩
            have MX := Lib.hid (blk_below hb KX.out)
            have MY := Lib.hid (blk_below hb KY.out)
            have MR := Lib.hid (blk_below hb KR.out)
            have MO := Lib.hid (blk_below hb KO.out)
            have MP := Lib.hid (blk_below hb KP.out)
            have B3 := Lib.hid (below_then B2.out hb)
            have hs := hb.size
            clear hb cx0 cx1 cx2 cy0 cy1 cy2 cp0 cp1 cp2 co0 co1 co2
            obtain ⟨⟨cp0, cp1, cp2⟩, fp0, fp1, fp2⟩ := three MP.out
            go_wp2
            go_roundw
            case rel => exact ⟨k + 1, by omega, by go_num, below_three B3.out (by omega) _ _ _, by simp; omega, blk_set3' MX.out (by omega), blk_set3' MY.out (by omega), blk_set3' MR.out (by omega), blk_set3' MO.out (by omega), cells_set3 MP.out⟩
            case measure => simp [intOf]; omega
          · have hkm : k = m := by omega
            subst hkm
            clear hlt hk
            obtain ⟨⟨cr0, cr1, cr2⟩, fr0, fr1, fr2⟩ := three KR.out
            go_wp2
            rw [X.out]
            exact item_ret rfl rfl rfl KR.out ⟨rfl, below_three B2.out (by omega) _ _ _⟩

end Go.Proofs.Ytlnjjjoeblopeaa

/- ArithmeticOf as data. -/
namespace Go.Proofs.Ytlnjjjoeblopeaa
open Go.RowKit
set_option maxRecDepth 100000
set_option linter.unusedVariables false

/-- The operators and what they do. -/
def opA : Nat → ByteArray
  | 0 => ⟨#[43]⟩
  | 1 => ⟨#[45]⟩
  | 2 => ⟨#[42]⟩
  | 3 => ⟨#[47]⟩
  | 4 => ⟨#[94]⟩
  | 5 => ⟨#[37, 37]⟩
  | _ => ⟨#[37, 47, 37]⟩
def fnA : Nat → It → It → It
  | 0 => addI
  | 1 => subI
  | 2 => mulI
  | 3 => divI
  | 4 => powI
  | 5 => remI
  | _ => quoI
noncomputable def idxA (op : ByteArray) : Option Nat := match bB (op = opA 0) with | true => some 0 | false => match bB (op = opA 1) with | true => some 1 | false => match bB (op = opA 2) with | true => some 2 | false => match bB (op = opA 3) with | true => some 3 | false => match bB (op = opA 4) with | true => some 4 | false => match bB (op = opA 5) with | true => some 5 | false => match bB (op = opA 6) with | true => some 6 | false => none
theorem idx_0 {op : ByteArray}  (h : op = opA 0) : idxA op = some 0 := by unfold idxA; rw [bB_yes h]
theorem idx_1 {op : ByteArray} (h0 : ¬ op = opA 0) (h : op = opA 1) : idxA op = some 1 := by unfold idxA; rw [bB_no h0, bB_yes h]
theorem idx_2 {op : ByteArray} (h0 : ¬ op = opA 0) (h1 : ¬ op = opA 1) (h : op = opA 2) : idxA op = some 2 := by unfold idxA; rw [bB_no h0, bB_no h1, bB_yes h]
theorem idx_3 {op : ByteArray} (h0 : ¬ op = opA 0) (h1 : ¬ op = opA 1) (h2 : ¬ op = opA 2) (h : op = opA 3) : idxA op = some 3 := by unfold idxA; rw [bB_no h0, bB_no h1, bB_no h2, bB_yes h]
theorem idx_4 {op : ByteArray} (h0 : ¬ op = opA 0) (h1 : ¬ op = opA 1) (h2 : ¬ op = opA 2) (h3 : ¬ op = opA 3) (h : op = opA 4) : idxA op = some 4 := by unfold idxA; rw [bB_no h0, bB_no h1, bB_no h2, bB_no h3, bB_yes h]
theorem idx_5 {op : ByteArray} (h0 : ¬ op = opA 0) (h1 : ¬ op = opA 1) (h2 : ¬ op = opA 2) (h3 : ¬ op = opA 3) (h4 : ¬ op = opA 4) (h : op = opA 5) : idxA op = some 5 := by unfold idxA; rw [bB_no h0, bB_no h1, bB_no h2, bB_no h3, bB_no h4, bB_yes h]
theorem idx_6 {op : ByteArray} (h0 : ¬ op = opA 0) (h1 : ¬ op = opA 1) (h2 : ¬ op = opA 2) (h3 : ¬ op = opA 3) (h4 : ¬ op = opA 4) (h5 : ¬ op = opA 5) (h : op = opA 6) : idxA op = some 6 := by unfold idxA; rw [bB_no h0, bB_no h1, bB_no h2, bB_no h3, bB_no h4, bB_no h5, bB_yes h]
theorem idx_no {op : ByteArray} (h0 : ¬ op = opA 0) (h1 : ¬ op = opA 1) (h2 : ¬ op = opA 2) (h3 : ¬ op = opA 3) (h4 : ¬ op = opA 4) (h5 : ¬ op = opA 5) (h6 : ¬ op = opA 6) : idxA op = none := by unfold idxA; rw [bB_no h0, bB_no h1, bB_no h2, bB_no h3, bB_no h4, bB_no h5, bB_no h6]
theorem good_oneI : GoodI oneI := ⟨⟨⟨by decide, by decide⟩, ⟨by decide, by decide⟩, Nat.zero_le _⟩, rfl⟩
theorem good_powN (x : It) (n : Nat) : GoodI (powN x n) := by
  cases n with
  | zero => exact good_oneI
  | succ n => exact good_mulI _ _
theorem good_powI (x y : It) : GoodI (powI x y) := by
  unfold powI
  split
  · split
    · exact good_divI _ _
    · exact good_powN _ _
  · exact good_noI
theorem good_quoI (x y : It) : GoodI (quoI x y) := by unfold quoI; split; exact good_ofQ _; exact good_noI
theorem good_remI (x y : It) : GoodI (remI x y) := by unfold remI; split; exact good_ofQ _; exact good_noI
theorem good_fnA (i : Nat) (x y : It) : GoodI (fnA i x y) := by
  unfold fnA
  split
  · exact good_addI _ _
  · exact good_subI _ _
  · exact good_mulI _ _
  · exact good_divI _ _
  · exact good_powI _ _
  · exact good_remI _ _
  · exact good_quoI _ _
noncomputable def ariS (oi : Option Nat) (a b : Vec) : ByteArray := match bB (ValidV a ∧ ValidV b) with
  | false => badB
  | true => match oi with
    | none => unkB
    | some _ => match bB (Counts a ∧ Counts b) with
      | false => nonNumB
      | true => match bB (0 ≤ lgcN a b) with | false => lenB | true => ⟨#[]⟩
noncomputable def ariV (oi : Option Nat) (a b : Vec) : Vec := match bB (ValidV a ∧ ValidV b) with
  | false => noV
  | true => match oi with
    | none => noV
    | some i => match bB (Counts a ∧ Counts b) with
      | false => noV
      | true => match bB (0 ≤ lgcN a b) with | false => noV | true => mkN 2 (itF (fun j => fnA i ((itemsV a).getD (j % itL a) noI) ((itemsV b).getD (j % itL b) noI)) (lgcN a b).toNat) (namesL (itL a) (itL b) (lgcN a b).toNat (namesV a) (namesV b))
theorem ari_bad {oi : Option Nat} {a b : Vec} (h : ¬ (ValidV a ∧ ValidV b)) : ariV oi a b = noV ∧ ariS oi a b = badB := by unfold ariV ariS; rw [bB_no h]; exact ⟨rfl, rfl⟩
theorem ari_unk {a b : Vec} (h : ValidV a ∧ ValidV b) : ariV none a b = noV ∧ ariS none a b = unkB := by unfold ariV ariS; rw [bB_yes h]; exact ⟨rfl, rfl⟩
theorem ari_non {i : Nat} {a b : Vec} (h : ValidV a ∧ ValidV b) (hc : ¬ (Counts a ∧ Counts b)) : ariV (some i) a b = noV ∧ ariS (some i) a b = nonNumB := by unfold ariV ariS; rw [bB_yes h, bB_no hc]; exact ⟨rfl, rfl⟩
theorem ari_len {i : Nat} {a b : Vec} (h : ValidV a ∧ ValidV b) (hc : Counts a ∧ Counts b) (hn : ¬ 0 ≤ lgcN a b) : ariV (some i) a b = noV ∧ ariS (some i) a b = lenB := by unfold ariV ariS; rw [bB_yes h, bB_yes hc, bB_no hn]; exact ⟨rfl, rfl⟩
theorem ari_yes {i : Nat} {a b : Vec} (h : ValidV a ∧ ValidV b) (hc : Counts a ∧ Counts b) (hn : 0 ≤ lgcN a b) : ariV (some i) a b = mkN 2 (itF (fun j => fnA i ((itemsV a).getD (j % itL a) noI) ((itemsV b).getD (j % itL b) noI)) (lgcN a b).toNat) (namesL (itL a) (itL b) (lgcN a b).toNat (namesV a) (namesV b)) ∧ ariS (some i) a b = ⟨#[]⟩ := by
  unfold ariV ariS; rw [bB_yes h, bB_yes hc, bB_yes hn]; exact ⟨rfl, rfl⟩
theorem ariS_prb (oi : Option Nat) (a b : Vec) : ariS oi a b = prbB oi.isSome a b nonNumB := by
  unfold ariS prbB matchL lgcN
  cases oi <;> cases bB (ValidV a ∧ ValidV b) <;> cases bB (Counts a ∧ Counts b) <;> cases bB (0 ≤ sizeL (itL a) (itL b)) <;> rfl
theorem ariV_no {oi : Option Nat} {a b : Vec} (h : prbB oi.isSome a b nonNumB ≠ ⟨#[]⟩) : ariV oi a b = noV := by
  rw [← ariS_prb] at h
  unfold ariS at h
  unfold ariV
  cases oi <;> cases e1 : bB (ValidV a ∧ ValidV b) <;> cases e3 : bB (Counts a ∧ Counts b) <;> cases e4 : bB (0 ≤ lgcN a b) <;> simp only [e1, e3, e4] at h ⊢
  exact absurd rfl h
theorem prb_ok {a b : Vec} {u : ByteArray} (hu : u ≠ ⟨#[]⟩) (h : prbB true a b u = ⟨#[]⟩) : (ValidV a ∧ ValidV b) ∧ (Counts a ∧ Counts b) ∧ 0 ≤ lgcN a b := by
  unfold prbB matchL at h
  by_cases h1 : ValidV a ∧ ValidV b
  · rw [bB_yes h1] at h
    by_cases h3 : Counts a ∧ Counts b
    · rw [bB_yes h3] at h
      by_cases h4 : 0 ≤ sizeL (itL a) (itL b)
      · exact ⟨h1, h3, h4⟩
      · rw [bB_no h4] at h; exact absurd (show lenB = ⟨#[]⟩ from h) (by decide)
    · rw [bB_no h3] at h; exact absurd h hu
  · rw [bB_no h1] at h; exact absurd (show badB = ⟨#[]⟩ from h) (by decide)
theorem names_small {d : Nat} {a : Vec} (h : Small d a) : (namesV a).length ≤ 1048576 ∧ ∀ s ∈ namesV a, s.size ≤ 1048576 := by
  cases d with
  | zero => exact h.elim
  | succ d => obtain ⟨k, items, parts, names, cls, levels, code, env⟩ := a; exact ⟨h.2.2.1, h.2.2.2.2.2.2.1⟩
theorem ari_plain (oi : Option Nat) {d1 d2 : Nat} {a b : Vec} (h1 : Small d1 a) (h2 : Small d2 b) : PlainN (ariV oi a b) := by
  by_cases h : ValidV a ∧ ValidV b
  · cases oi with
    | none => rw [(ari_unk h).1]; exact .inl rfl
    | some i =>
      by_cases hc : Counts a ∧ Counts b
      · by_cases hn : 0 ≤ lgcN a b
        · rw [(ari_yes h hc hn).1]
          have hl : (lgcN a b).toNat ≤ 40 := by
            have := sizeL_le (itL_le h.1 hc.1) (itL_le h.2 hc.2)
            unfold lgcN
            omega
          have hnm : (namesL (itL a) (itL b) (lgcN a b).toNat (namesV a) (namesV b)).length ≤ 1048576 ∧ ∀ s ∈ namesL (itL a) (itL b) (lgcN a b).toNat (namesV a) (namesV b), s.size ≤ 1048576 := by
            unfold namesL
            split
            · exact names_small h1
            · split
              · exact names_small h2
              · exact ⟨Nat.zero_le _, fun s hs => by cases hs⟩
          refine .inr ⟨_, _, _, rfl, by decide, by rw [itF_len]; exact hl, fun x hx => ?_, hnm.1, hnm.2⟩
          obtain ⟨j, _, rfl⟩ := mem_itF hx
          have := good_fnA i ((itemsV a).getD (j % itL a) noI) ((itemsV b).getD (j % itL b) noI)
          exact ⟨this.1, by rw [this.2]; exact Nat.zero_le _⟩
        · rw [(ari_len h hc hn).1]; exact .inl rfl
      · rw [(ari_non h hc).1]; exact .inl rfl
  · rw [(ari_bad h).1]; exact .inl rfl
end Go.Proofs.Ytlnjjjoeblopeaa

/- The reference's differences (the region draws its order). -/
namespace Go.Proofs.Ytlnjjjoeblopeaa
set_option maxRecDepth 100000
open Go.RowKit
set_option linter.unusedVariables false

set_option maxHeartbeats 2000000 in
theorem specSub (x y : It) (w : World) (hx : x.t.size ≤ 9223372036854775807) (hy : y.t.size ≤ 9223372036854775807) :
    Calls Try.prog 90 #[.agg #[.int .i64 x.n, .int .i64 x.d, .string x.t], .agg #[.int .i64 y.n, .int .i64 y.d, .string y.t]] w fun e w' => e = .returned (.agg #[.int .i64 (subI x y).n, .int .i64 (subI x y).d, .string (subI x y).t]) ∧ Below w.heap.size w w' := by
  have X := Lib.hid (show subI x y = addI x (negI y) from rfl)
  have ht : (negI y).t.size ≤ 9223372036854775807 := by rw [negI_t]; decide
  obtain ⟨z, hz⟩ : ∃ z, negI y = z := ⟨_, rfl⟩
  have C := Lib.hid (hz ▸ specNeg y)
  rw [hz] at X ht
  clear hz
  have H := Lib.hid ht
  clear ht
  go_enter Try.func90, Try.ntmps90
  go_wp2
  go_region_with (first
    | (go_at_call 136; refine (C.out _ hy).mono ?_; rintro e w1 ⟨rfl, hb⟩; obtain ⟨hc, hf⟩ := bcell hb; have hz : w.heap.size + 2 < w1.heap.size := (by have := hb.size; simp at this; omega); have B1 := Lib.hid (below_then (below_drew' (below3 w _ _ _)) hb); have G := Lib.hid (blk_below (g := w.heap.size + 2) hb (blk_drew (blk_new _ _ (by simp)))); clear hb)
    | (go_at_call 91; refine (specAdd x z _ hx H.out).mono ?_; rintro e w2 ⟨rfl, hb⟩; obtain ⟨hc2, hf2⟩ := bcell hb; have B2 := Lib.hid (below_then B1.out hb); have G2 := Lib.hid (blk_below hb G.out); clear hb))
  all_goals
    go_wp2
    rw [X.out]
    exact item_ret rfl rfl rfl G2.out ⟨rfl, below_three B2.out (by omega) _ _ _⟩
end Go.Proofs.Ytlnjjjoeblopeaa

/- PowerOf, the reference's. -/
namespace Go.Proofs.Ytlnjjjoeblopeaa
set_option maxRecDepth 100000
open Go.RowKit
set_option linter.unusedVariables false

/-- Where the four blocks of the reference's PowerOf stand behind k rounds. -/
def PowAtS (w w2 : World) (x y : It) (k : Nat) (v : World) : Prop :=
  Below w.heap.size w v ∧ w2.heap.size < v.heap.size ∧
  v.heap[w.heap.size]? = some (.cells #[.int .i64 x.n, .int .i64 x.d, .string x.t] 66 (0, 0)) ∧ v.heap[w.heap.size + 1]? = some (.cells #[.int .i64 y.n, .int .i64 y.d, .string y.t] 66 (0, 0)) ∧ v.heap[w.heap.size + 2]? = some (.cells #[.int .i64 0, .int .i64 0, .string ⟨#[]⟩] 66 (0, 0)) ∧
  v.heap[w2.heap.size]? = some (.cells #[.int .i64 (powN x k).n, .int .i64 (powN x k).d, .string (powN x k).t] 66 (0, 0))

set_option maxHeartbeats 4000000 in
theorem specPow (x y : It) (w : World) (hx : x.t.size ≤ 9223372036854775807) (hy : y.t.size ≤ 9223372036854775807) :
    Calls Try.prog 122 #[.agg #[.int .i64 x.n, .int .i64 x.d, .string x.t], .agg #[.int .i64 y.n, .int .i64 y.d, .string y.t]] w fun e w' => e = .returned (.agg #[.int .i64 (powI x y).n, .int .i64 (powI x y).d, .string (powI x y).t]) ∧ Below w.heap.size w w' := by
  cases h : isN x
  · have X := Lib.hid (pow_no (powOk_b (y := y) (not_both1 h)))
    have NX := Lib.hid (show isN ⟨x.n, x.d, x.t⟩ = false from h)
    clear h
    go_enter Try.func122, Try.ntmps122
    go_wp2_with fail
    refine (specNumNo x.n x.d x.t _ hx NX.out).mono ?_
    rintro e w1 ⟨rfl, hb⟩
    obtain ⟨hc, hf⟩ := bcell hb
    have W1 := Lib.hid hb
    have B1 := Lib.hid (below_then (below3 w _ _ _) hb)
    have G1 := Lib.hid (blk_below (g := w.heap.size + 2) hb (blk_new _ _ (by simp)))
    have hz : w.heap.size + 2 < w1.heap.size := by have := hb.size; simp at this; omega
    clear hb
    go_wp2
    rw [X.out]
    exact item_ret rfl rfl rfl G1.out ⟨rfl, below_three B1.out (by omega) _ _ _⟩
  · cases k : isN y
    · have X := Lib.hid (pow_no (powOk_b (x := x) (not_both2 k)))
      have NX := Lib.hid (show isN ⟨x.n, x.d, x.t⟩ = true from h)
      have NY := Lib.hid (show isN ⟨y.n, y.d, y.t⟩ = false from k)
      clear h k
      go_enter Try.func122, Try.ntmps122
      go_wp2_with fail
      refine (specNumYes x.n x.d x.t _ hx NX.out).mono ?_
      rintro e w1 ⟨rfl, hb⟩
      obtain ⟨hc, hf⟩ := bcell hb
      have W1 := Lib.hid hb
      have B1 := Lib.hid (below_then (below3 w _ _ _) hb)
      have G1 := Lib.hid (blk_below (g := w.heap.size + 2) hb (blk_new _ _ (by simp)))
      have hz : w.heap.size + 2 < w1.heap.size := by have := hb.size; simp at this; omega
      clear hb
      go_wp2_with fail
      refine (specNumNo y.n y.d y.t _ hy NY.out).mono ?_
      rintro e w2 ⟨rfl, hb⟩
      have W2 := Lib.hid (W1.out.trans (hb.mono W1.out.size))
      clear hc hf
      obtain ⟨hc2, hf2⟩ := bcell W2.out
      have B2 := Lib.hid (below_then B1.out hb)
      have G2 := Lib.hid (blk_below hb G1.out)
      have hz2 : w.heap.size + 2 < w2.heap.size := by have := hb.size; omega
      clear hb
      go_wp2
      rw [X.out]
      exact item_ret rfl rfl rfl G2.out ⟨rfl, below_three B2.out (by omega) _ _ _⟩
    · have hB : both x y = true := both_iff.2 ⟨h, k⟩
      have yn := isN_iff.1 k
      have y0 : -999999999 ≤ y.n := yn.2.2.2.1
      have y1 : y.n ≤ 999999999 := yn.2.2.2.2.1
      clear yn
      have NX := Lib.hid (show isN ⟨x.n, x.d, x.t⟩ = true from h)
      have NY := Lib.hid (show isN ⟨y.n, y.d, y.t⟩ = true from k)
      by_cases d : y.d = 1
      · by_cases r : y.n < -20 ∨ 20 < y.n
        · have X := Lib.hid (pow_no (x := x) (powOk_n r))
          have R := Lib.hid r
          have c0 : 1 ≤ y.d := by omega
          have c1 : y.d ≤ 1 := by omega
          clear h k hB d r
          go_enter Try.func122, Try.ntmps122
          go_wp2_with fail
          refine (specNumYes x.n x.d x.t _ hx NX.out).mono ?_
          rintro e w1 ⟨rfl, hb⟩
          obtain ⟨hc, hf⟩ := bcell hb
          have W1 := Lib.hid hb
          have B1 := Lib.hid (below_then (below3 w _ _ _) hb)
          have G1 := Lib.hid (blk_below (g := w.heap.size + 2) hb (blk_new _ _ (by simp)))
          have hz : w.heap.size + 2 < w1.heap.size := by have := hb.size; simp at this; omega
          clear hb
          go_wp2_with fail
          refine (specNumYes y.n y.d y.t _ hy NY.out).mono ?_
          rintro e w2 ⟨rfl, hb⟩
          have W2 := Lib.hid (W1.out.trans (hb.mono W1.out.size))
          clear hc hf
          obtain ⟨hc2, hf2⟩ := bcell W2.out
          have B2 := Lib.hid (below_then B1.out hb)
          have G2 := Lib.hid (blk_below hb G1.out)
          have hz2 : w.heap.size + 2 < w2.heap.size := by have := hb.size; omega
          clear hb
          go_wp2_with fail
          refine (inNo y.n (-20) 20 _ R.out).mono ?_
          rintro e w' ⟨rfl, rfl⟩
          go_wp2
          rw [X.out]
          exact item_ret rfl rfl rfl G2.out ⟨rfl, below_three B2.out (by omega) _ _ _⟩
        · have n0 : -20 ≤ y.n := by omega
          have n1 : y.n ≤ 20 := by omega
          have O := Lib.hid (powOk_yes hB d n0 n1)
          have c0 : 1 ≤ y.d := by omega
          have c1 : y.d ≤ 1 := by omega
          clear h k hB d r
          have PS := Lib.hid (powN_small x)
          have HX := Lib.hid hx
          obtain ⟨m, hm⟩ : ∃ m, y.n.natAbs = m := ⟨_, rfl⟩
          have AB := Lib.hid (fun W => hm ▸ specAbs y.n W (by omega) (by omega))
          by_cases s : y.n < 0
          · have X := Lib.hid (show powI x y = divI oneI (powN x m) by rw [pow_neg O.out s, hm])
            have e2 : m ≤ 20 := by omega
            clear hm
            go_enter Try.func122, Try.ntmps122
            go_wp2_with fail
            refine (specNumYes x.n x.d x.t _ hx NX.out).mono ?_
            rintro e w1 ⟨rfl, hb⟩
            obtain ⟨hc, hf⟩ := bcell hb
            have W1 := Lib.hid hb
            have B1 := Lib.hid (below_then (below3 w _ _ _) hb)
            have G1 := Lib.hid (blk_below (g := w.heap.size + 2) hb (blk_new _ _ (by simp)))
            have hz : w.heap.size + 2 < w1.heap.size := by have := hb.size; simp at this; omega
            clear hb
            go_wp2_with fail
            refine (specNumYes y.n y.d y.t _ hy NY.out).mono ?_
            rintro e w2 ⟨rfl, hb⟩
            have W2 := Lib.hid (W1.out.trans (hb.mono W1.out.size))
            clear hc hf
            obtain ⟨hc2, hf2⟩ := bcell W2.out
            have B2 := Lib.hid (below_then B1.out hb)
            have G2 := Lib.hid (blk_below hb G1.out)
            have hz2 : w.heap.size + 2 < w2.heap.size := by have := hb.size; omega
            clear hb
            have GX := Lib.hid (blk_below (g := w.heap.size) W2.out (blk_old (blk_old (blk_new _ _ rfl))))
            have GY := Lib.hid (blk_below (g := w.heap.size + 1) W2.out (blk_old (blk_new _ _ (by simp))))
            obtain ⟨⟨cy0, cy1, cy2⟩, _, _, _⟩ := three GY.out
            have hz1 : w.heap.size + 1 < w2.heap.size := by omega
            have hz0 : w.heap.size < w2.heap.size := by omega
            clear hc2 hf2
            go_wp2_with fail
            refine (inYes y.n (-20) 20 _ n0 n1).mono ?_
            rintro e w' ⟨rfl, rfl⟩
            go_wp2
            go_loopw [6] (fun i wr => ∃ k : Nat, k ≤ m ∧ i = .int .i64 k ∧ PowAtS w w2 x y k wr) (fun i _ => m - (intOf i).toNat)
            case atStart => exact ⟨0, by omega, rfl, below_then B2.out (below1 w2 _), by simp, blk_old GX.out, blk_old GY.out, blk_old G2.out, blk_new _ _ rfl⟩
            case round =>
              rename_i wr
              obtain ⟨k, hk, rfl, P1, P2, P3, P4, P5, P7⟩ := hrel
              have B3 := Lib.hid P1
              have KX := Lib.hid P3
              have KY := Lib.hid P4
              have KR := Lib.hid P5
              have KP := Lib.hid P7
              clear P1 P3 P4 P5 P7 cy0 cy1 cy2
              have z0 : w.heap.size < wr.heap.size := by omega
              have z1 : w.heap.size + 1 < wr.heap.size := by omega
              have z2 : w.heap.size + 2 < wr.heap.size := by omega
              obtain ⟨⟨cx0, cx1, cx2⟩, _, _, _⟩ := three KX.out
              obtain ⟨⟨cy0, cy1, cy2⟩, _, _, _⟩ := three KY.out
              obtain ⟨⟨cp0, cp1, cp2⟩, _, _, _⟩ := three KP.out
              by_cases hlt : k < m
              · go_wp2_with fail
                refine (AB.out _).mono ?_
                rintro e w' ⟨rfl, rfl⟩
                go_wp2_with fail
                refine (specMul (powN x k) x _ (PS.out k) HX.out).mono ?_
                rintro e w3 ⟨rfl, hb⟩
                have MX := Lib.hid (blk_below hb KX.out)
                have MY := Lib.hid (blk_below hb KY.out)
                have MR := Lib.hid (blk_below hb KR.out)
                have MP := Lib.hid (blk_below hb KP.out)
                have B4 := Lib.hid (below_then B3.out hb)
                have hs := hb.size
                clear hb cx0 cx1 cx2 cy0 cy1 cy2 cp0 cp1 cp2
                obtain ⟨⟨cp0, cp1, cp2⟩, fp0, fp1, fp2⟩ := three MP.out
                go_wp2
                go_roundw
                case rel => exact ⟨k + 1, by omega, by go_num, below_three B4.out (by omega) _ _ _, by simp; omega, blk_set3' MX.out (by omega), blk_set3' MY.out (by omega), blk_set3' MR.out (by omega), cells_set3 MP.out⟩
                case measure => simp [intOf]; omega
              · have hkm : k = m := by omega
                subst hkm
                clear hlt hk
                go_wp2_with fail
                refine (AB.out _).mono ?_
                rintro e w' ⟨rfl, rfl⟩
                go_wp2_with fail
                refine (specDiv oneI (powN x k) _ one_small (PS.out k)).mono ?_
                rintro e w3 ⟨rfl, hb⟩
                have MR := Lib.hid (blk_below hb KR.out)
                have B4 := Lib.hid (below_then B3.out hb)
                clear hb cx0 cx1 cx2 cy0 cy1 cy2 cp0 cp1 cp2
                obtain ⟨⟨cp0, cp1, cp2⟩, fp0, fp1, fp2⟩ := three MR.out
                go_wp2
                rw [X.out]
                exact item_ret rfl rfl rfl MR.out ⟨rfl, below_three B4.out (by omega) _ _ _⟩

          · have X := Lib.hid (show powI x y = powN x m by rw [pow_pos O.out s, hm])
            have e2 : m ≤ 20 := by omega
            clear hm
            go_enter Try.func122, Try.ntmps122
            go_wp2_with fail
            refine (specNumYes x.n x.d x.t _ hx NX.out).mono ?_
            rintro e w1 ⟨rfl, hb⟩
            obtain ⟨hc, hf⟩ := bcell hb
            have W1 := Lib.hid hb
            have B1 := Lib.hid (below_then (below3 w _ _ _) hb)
            have G1 := Lib.hid (blk_below (g := w.heap.size + 2) hb (blk_new _ _ (by simp)))
            have hz : w.heap.size + 2 < w1.heap.size := by have := hb.size; simp at this; omega
            clear hb
            go_wp2_with fail
            refine (specNumYes y.n y.d y.t _ hy NY.out).mono ?_
            rintro e w2 ⟨rfl, hb⟩
            have W2 := Lib.hid (W1.out.trans (hb.mono W1.out.size))
            clear hc hf
            obtain ⟨hc2, hf2⟩ := bcell W2.out
            have B2 := Lib.hid (below_then B1.out hb)
            have G2 := Lib.hid (blk_below hb G1.out)
            have hz2 : w.heap.size + 2 < w2.heap.size := by have := hb.size; omega
            clear hb
            have GX := Lib.hid (blk_below (g := w.heap.size) W2.out (blk_old (blk_old (blk_new _ _ rfl))))
            have GY := Lib.hid (blk_below (g := w.heap.size + 1) W2.out (blk_old (blk_new _ _ (by simp))))
            obtain ⟨⟨cy0, cy1, cy2⟩, _, _, _⟩ := three GY.out
            have hz1 : w.heap.size + 1 < w2.heap.size := by omega
            have hz0 : w.heap.size < w2.heap.size := by omega
            clear hc2 hf2
            go_wp2_with fail
            refine (inYes y.n (-20) 20 _ n0 n1).mono ?_
            rintro e w' ⟨rfl, rfl⟩
            go_wp2
            go_loopw [6] (fun i wr => ∃ k : Nat, k ≤ m ∧ i = .int .i64 k ∧ PowAtS w w2 x y k wr) (fun i _ => m - (intOf i).toNat)
            case atStart => exact ⟨0, by omega, rfl, below_then B2.out (below1 w2 _), by simp, blk_old GX.out, blk_old GY.out, blk_old G2.out, blk_new _ _ rfl⟩
            case round =>
              rename_i wr
              obtain ⟨k, hk, rfl, P1, P2, P3, P4, P5, P7⟩ := hrel
              have B3 := Lib.hid P1
              have KX := Lib.hid P3
              have KY := Lib.hid P4
              have KR := Lib.hid P5
              have KP := Lib.hid P7
              clear P1 P3 P4 P5 P7 cy0 cy1 cy2
              have z0 : w.heap.size < wr.heap.size := by omega
              have z1 : w.heap.size + 1 < wr.heap.size := by omega
              have z2 : w.heap.size + 2 < wr.heap.size := by omega
              obtain ⟨⟨cx0, cx1, cx2⟩, _, _, _⟩ := three KX.out
              obtain ⟨⟨cy0, cy1, cy2⟩, _, _, _⟩ := three KY.out
              obtain ⟨⟨cp0, cp1, cp2⟩, _, _, _⟩ := three KP.out
              by_cases hlt : k < m
              · go_wp2_with fail
                refine (AB.out _).mono ?_
                rintro e w' ⟨rfl, rfl⟩
                go_wp2_with fail
                refine (specMul (powN x k) x _ (PS.out k) HX.out).mono ?_
                rintro e w3 ⟨rfl, hb⟩
                have MX := Lib.hid (blk_below hb KX.out)
                have MY := Lib.hid (blk_below hb KY.out)
                have MR := Lib.hid (blk_below hb KR.out)
                have MP := Lib.hid (blk_below hb KP.out)
                have B4 := Lib.hid (below_then B3.out hb)
                have hs := hb.size
                clear hb cx0 cx1 cx2 cy0 cy1 cy2 cp0 cp1 cp2
                obtain ⟨⟨cp0, cp1, cp2⟩, fp0, fp1, fp2⟩ := three MP.out
                go_wp2
                go_roundw
                case rel => exact ⟨k + 1, by omega, by go_num, below_three B4.out (by omega) _ _ _, by simp; omega, blk_set3' MX.out (by omega), blk_set3' MY.out (by omega), blk_set3' MR.out (by omega), cells_set3 MP.out⟩
                case measure => simp [intOf]; omega
              · have hkm : k = m := by omega
                subst hkm
                clear hlt hk
                go_wp2_with fail
                refine (AB.out _).mono ?_
                rintro e w' ⟨rfl, rfl⟩
                obtain ⟨⟨cr0, cr1, cr2⟩, fr0, fr1, fr2⟩ := three KR.out
                go_wp2
                rw [X.out]
                exact item_ret rfl rfl rfl KR.out ⟨rfl, below_three B3.out (by omega) _ _ _⟩

      · have X := Lib.hid (pow_no (x := x) (powOk_d d))
        clear h k hB
        go_enter Try.func122, Try.ntmps122
        go_wp2_with fail
        refine (specNumYes x.n x.d x.t _ hx NX.out).mono ?_
        rintro e w1 ⟨rfl, hb⟩
        obtain ⟨hc, hf⟩ := bcell hb
        have W1 := Lib.hid hb
        have B1 := Lib.hid (below_then (below3 w _ _ _) hb)
        have G1 := Lib.hid (blk_below (g := w.heap.size + 2) hb (blk_new _ _ (by simp)))
        have hz : w.heap.size + 2 < w1.heap.size := by have := hb.size; simp at this; omega
        clear hb
        go_wp2_with fail
        refine (specNumYes y.n y.d y.t _ hy NY.out).mono ?_
        rintro e w2 ⟨rfl, hb⟩
        have W2 := Lib.hid (W1.out.trans (hb.mono W1.out.size))
        clear hc hf
        obtain ⟨hc2, hf2⟩ := bcell W2.out
        have B2 := Lib.hid (below_then B1.out hb)
        have G2 := Lib.hid (blk_below hb G1.out)
        have hz2 : w.heap.size + 2 < w2.heap.size := by have := hb.size; omega
        clear hb
        go_wp2
        rw [X.out]
        exact item_ret rfl rfl rfl G2.out ⟨rfl, below_three B2.out (by omega) _ _ _⟩
end Go.Proofs.Ytlnjjjoeblopeaa

/- The reference's l5Apply. -/
namespace Go.Proofs.Ytlnjjjoeblopeaa
open Go.RowKit
set_option maxRecDepth 100000
set_option linter.unusedVariables false

set_option maxHeartbeats 2000000 in
theorem specApply (i : Nat) (hi : i < 7) (x y : It) (w : World) (hx : x.t.size ≤ 9223372036854775807) (hy : y.t.size ≤ 9223372036854775807) :
    Calls Try.prog 78 #[.string (opA i), .agg #[.int .i64 x.n, .int .i64 x.d, .string x.t], .agg #[.int .i64 y.n, .int .i64 y.d, .string y.t]] w fun e w' => e = .returned (.agg #[.int .i64 (fnA i x y).n, .int .i64 (fnA i x y).d, .string (fnA i x y).t]) ∧ Below w.heap.size w w' := by
  obtain ⟨w1, hw1⟩ : ∃ W, ((w.alloc (.cells #[.int .i64 x.n, .int .i64 x.d, .string x.t] 66)).alloc (.cells #[.int .i64 y.n, .int .i64 y.d, .string y.t] 66)).alloc (.cells #[.int .i64 0, .int .i64 0, .string ⟨#[]⟩] 66) = W := ⟨_, rfl⟩
  have hsz2 : ((w.alloc (.cells #[.int .i64 x.n, .int .i64 x.d, .string x.t] 66)).alloc (.cells #[.int .i64 y.n, .int .i64 y.d, .string y.t] 66)).heap.size = w.heap.size + 1 + 1 := by simp
  have B1 := Lib.hid (show Below w.heap.size w w1 from hw1 ▸ below3 w _ _ _)
  have K2 := Lib.hid (show w1.heap[w.heap.size + 1 + 1]? = some (.cells #[.int .i64 0, .int .i64 0, .string ⟨#[]⟩] 66 (0, 0)) from by rw [← hw1]; exact blk_new _ _ hsz2.symm)
  have EW := Lib.hid hw1
  have HX := Lib.hid hx
  have HY := Lib.hid hy
  clear hw1 hsz2 hx hy
  rcases (show i = 0 ∨ i = 1 ∨ i = 2 ∨ i = 3 ∨ i = 4 ∨ i = 5 ∨ i = 6 by omega) with rfl | rfl | rfl | rfl | rfl | rfl | rfl
  · show Calls Try.prog 78 #[.string ⟨#[43]⟩, .agg #[.int .i64 x.n, .int .i64 x.d, .string x.t], .agg #[.int .i64 y.n, .int .i64 y.d, .string y.t]] w fun e w' => e = .returned (.agg #[.int .i64 (addI x y).n, .int .i64 (addI x y).d, .string (addI x y).t]) ∧ Below w.heap.size w w'
    go_enter Try.func78, Try.ntmps78
    go_wp2_with fail
    rw [EW.out]
    refine (specAdd x y _ HX.out HY.out).mono ?_
    rintro e w2 ⟨rfl, b⟩
    have B2 := Lib.hid (below_then B1.out b)
    have K2 := Lib.hid (blk_below b K2.out)
    clear b
    obtain ⟨⟨z0, z1, z2⟩, f0, f1, f2⟩ := three K2.out
    go_wp2
    exact item_ret rfl rfl rfl K2.out ⟨rfl, below_three B2.out (by omega) _ _ _⟩
  · show Calls Try.prog 78 #[.string ⟨#[45]⟩, .agg #[.int .i64 x.n, .int .i64 x.d, .string x.t], .agg #[.int .i64 y.n, .int .i64 y.d, .string y.t]] w fun e w' => e = .returned (.agg #[.int .i64 (subI x y).n, .int .i64 (subI x y).d, .string (subI x y).t]) ∧ Below w.heap.size w w'
    go_enter Try.func78, Try.ntmps78
    go_wp2_with fail
    rw [EW.out]
    refine (specSub x y _ HX.out HY.out).mono ?_
    rintro e w2 ⟨rfl, b⟩
    have B2 := Lib.hid (below_then B1.out b)
    have K2 := Lib.hid (blk_below b K2.out)
    clear b
    obtain ⟨⟨z0, z1, z2⟩, f0, f1, f2⟩ := three K2.out
    go_wp2
    exact item_ret rfl rfl rfl K2.out ⟨rfl, below_three B2.out (by omega) _ _ _⟩
  · show Calls Try.prog 78 #[.string ⟨#[42]⟩, .agg #[.int .i64 x.n, .int .i64 x.d, .string x.t], .agg #[.int .i64 y.n, .int .i64 y.d, .string y.t]] w fun e w' => e = .returned (.agg #[.int .i64 (mulI x y).n, .int .i64 (mulI x y).d, .string (mulI x y).t]) ∧ Below w.heap.size w w'
    go_enter Try.func78, Try.ntmps78
    go_wp2_with fail
    rw [EW.out]
    refine (specMul x y _ HX.out HY.out).mono ?_
    rintro e w2 ⟨rfl, b⟩
    have B2 := Lib.hid (below_then B1.out b)
    have K2 := Lib.hid (blk_below b K2.out)
    clear b
    obtain ⟨⟨z0, z1, z2⟩, f0, f1, f2⟩ := three K2.out
    go_wp2
    exact item_ret rfl rfl rfl K2.out ⟨rfl, below_three B2.out (by omega) _ _ _⟩
  · show Calls Try.prog 78 #[.string ⟨#[47]⟩, .agg #[.int .i64 x.n, .int .i64 x.d, .string x.t], .agg #[.int .i64 y.n, .int .i64 y.d, .string y.t]] w fun e w' => e = .returned (.agg #[.int .i64 (divI x y).n, .int .i64 (divI x y).d, .string (divI x y).t]) ∧ Below w.heap.size w w'
    go_enter Try.func78, Try.ntmps78
    go_wp2_with fail
    rw [EW.out]
    refine (specDiv x y _ HX.out HY.out).mono ?_
    rintro e w2 ⟨rfl, b⟩
    have B2 := Lib.hid (below_then B1.out b)
    have K2 := Lib.hid (blk_below b K2.out)
    clear b
    obtain ⟨⟨z0, z1, z2⟩, f0, f1, f2⟩ := three K2.out
    go_wp2
    exact item_ret rfl rfl rfl K2.out ⟨rfl, below_three B2.out (by omega) _ _ _⟩
  · show Calls Try.prog 78 #[.string ⟨#[94]⟩, .agg #[.int .i64 x.n, .int .i64 x.d, .string x.t], .agg #[.int .i64 y.n, .int .i64 y.d, .string y.t]] w fun e w' => e = .returned (.agg #[.int .i64 (powI x y).n, .int .i64 (powI x y).d, .string (powI x y).t]) ∧ Below w.heap.size w w'
    go_enter Try.func78, Try.ntmps78
    go_wp2_with fail
    rw [EW.out]
    refine (specPow x y _ HX.out HY.out).mono ?_
    rintro e w2 ⟨rfl, b⟩
    have B2 := Lib.hid (below_then B1.out b)
    have K2 := Lib.hid (blk_below b K2.out)
    clear b
    obtain ⟨⟨z0, z1, z2⟩, f0, f1, f2⟩ := three K2.out
    go_wp2
    exact item_ret rfl rfl rfl K2.out ⟨rfl, below_three B2.out (by omega) _ _ _⟩
  · show Calls Try.prog 78 #[.string ⟨#[37, 37]⟩, .agg #[.int .i64 x.n, .int .i64 x.d, .string x.t], .agg #[.int .i64 y.n, .int .i64 y.d, .string y.t]] w fun e w' => e = .returned (.agg #[.int .i64 (remI x y).n, .int .i64 (remI x y).d, .string (remI x y).t]) ∧ Below w.heap.size w w'
    go_enter Try.func78, Try.ntmps78
    go_wp2_with fail
    rw [EW.out]
    refine (specRem x y _ HX.out HY.out).mono ?_
    rintro e w2 ⟨rfl, b⟩
    have B2 := Lib.hid (below_then B1.out b)
    have K2 := Lib.hid (blk_below b K2.out)
    clear b
    obtain ⟨⟨z0, z1, z2⟩, f0, f1, f2⟩ := three K2.out
    go_wp2
    exact item_ret rfl rfl rfl K2.out ⟨rfl, below_three B2.out (by omega) _ _ _⟩
  · show Calls Try.prog 78 #[.string ⟨#[37, 47, 37]⟩, .agg #[.int .i64 x.n, .int .i64 x.d, .string x.t], .agg #[.int .i64 y.n, .int .i64 y.d, .string y.t]] w fun e w' => e = .returned (.agg #[.int .i64 (quoI x y).n, .int .i64 (quoI x y).d, .string (quoI x y).t]) ∧ Below w.heap.size w w'
    go_enter Try.func78, Try.ntmps78
    go_wp2_with fail
    rw [EW.out]
    refine (specQuo x y _ HX.out HY.out).mono ?_
    rintro e w2 ⟨rfl, b⟩
    have B2 := Lib.hid (below_then B1.out b)
    have K2 := Lib.hid (blk_below b K2.out)
    clear b
    obtain ⟨⟨z0, z1, z2⟩, f0, f1, f2⟩ := three K2.out
    go_wp2
    exact item_ret rfl rfl rfl K2.out ⟨rfl, below_three B2.out (by omega) _ _ _⟩
end Go.Proofs.Ytlnjjjoeblopeaa

/- A map literal of texts to functions: written and looked up. -/
namespace Go.Proofs.Ytlnjjjoeblopeaa
open Go.RowKit
set_option maxRecDepth 100000
set_option linter.unusedVariables false
theorem run_ins {P : Program} {w : World} {mty kt et : TypeId} {r clock : Nat} {es : Array MapEntry} {s : ByteArray} {val : Value} (hm : P.underlying mty = some (.map kt et)) (hk : P.underlying kt = some .string) (hb : w.heap[r]? = some (.map es clock))
    (hf : Instr.findNow .string (.string s) es.toList 0 = some none) :
    (Instr.mapUpdate mty (.map (some r)) (.string s) val).run P w = .ok () { w with heap := w.heap.setIfInBounds r (.map (es.push { key := .string s, val := val, born := clock }) (clock + 1)) } := by
  have hc : (Instr.checkKey false 10000 kt (.string s)).run P w = .ok () w := MapKept.run_checkKey (k := .string s) hk (by simp [MapKept.IsKey]) false 9999
  simp [Instr.mapUpdate, run_underlying hm, MapKept.run_getObj_map hb, hc, MapKept.run_findKey hk hf, MapKept.run_setObj_map _ hb, Result.andThen]
theorem run_look_yes {P : Program} {w : World} {mty kt et : TypeId} {r clock i : Nat} {es : Array MapEntry} {s : ByteArray} {v : Value} (hm : P.underlying mty = some (.map kt et)) (hk : P.underlying kt = some .string) (hb : w.heap[r]? = some (.map es clock))
    (hf : Instr.findNow .string (.string s) es.toList 0 = some (some (i, v))) : (Instr.lookup mty (.map (some r)) (.string s) true).run P w = .ok (.tuple #[v, .bool true]) w := by
  have hc : (Instr.checkKey es.isEmpty 10000 kt (.string s)).run P w = .ok () w := MapKept.run_checkKey (k := .string s) hk (by simp [MapKept.IsKey]) _ 9999
  simp [Instr.lookup, run_underlying hm, MapKept.run_getObj_map hb, hc, MapKept.run_findKey hk hf, Result.andThen]
theorem run_look_no {P : Program} {w : World} {mty kt et : TypeId} {r clock : Nat} {es : Array MapEntry} {s : ByteArray} {z : Value} (hm : P.underlying mty = some (.map kt et)) (hk : P.underlying kt = some .string) (hb : w.heap[r]? = some (.map es clock))
    (hf : Instr.findNow .string (.string s) es.toList 0 = some none) (hz : (zeroValue et).run P w = .ok z w) : (Instr.lookup mty (.map (some r)) (.string s) true).run P w = .ok (.tuple #[z, .bool false]) w := by
  have hc : (Instr.checkKey es.isEmpty 10000 kt (.string s)).run P w = .ok () w := MapKept.run_checkKey (k := .string s) hk (by simp [MapKept.IsKey]) _ 9999
  simp [Instr.lookup, run_underlying hm, MapKept.run_getObj_map hb, hc, MapKept.run_findKey hk hf, hz, Result.andThen]
end Go.Proofs.Ytlnjjjoeblopeaa

/- The program's table of logical operators. -/
namespace Go.Proofs.Ytlnjjjoeblopeaa
open Go.RowKit
set_option maxRecDepth 100000
set_option linter.unusedVariables false
def putObj (w : World) (r : Nat) (o : Obj) : World := { w with heap := w.heap.setIfInBounds r o }
theorem putObj_at {w : World} {r : Nat} {o : Obj} (h : r < w.heap.size) : (putObj w r o).heap[r]? = some o := by simp [putObj, h]
theorem below_putObj {B : Nat} {a w : World} (h : Below B a w) {r : Nat} (hr : B ≤ r) (o : Obj) : Below B a (putObj w r o) :=
  h.trans ⟨rfl, rfl, rfl, by simp [Proofs.Ytlnjjjoeblopeaa.putObj], fun k hk => by simp only [Proofs.Ytlnjjjoeblopeaa.putObj]; rw [Array.getElem?_setIfInBounds_ne (by omega)]⟩
def opTab : Array MapEntry := #[{ key := .string ⟨#[38]⟩, val := .func (.func 97) #[] #[], born := 0 }, { key := .string ⟨#[124]⟩, val := .func (.func 98) #[] #[], born := 1 }]
theorem implOps (w : World) : Calls Try.prog 55 #[] w fun e w' => e = .returned (.map (some w.heap.size)) ∧ w'.heap[w.heap.size]? = some (.map opTab 2) ∧ Below w.heap.size w w' := by
  have hmm := @run_makeMap Try.prog
  have hb0 : (w.alloc (.map #[] 0)).heap[w.heap.size]? = some (.map #[] 0) := blk_new w _ rfl
  have hs : (w.alloc (.map #[] 0)).heap.size = w.heap.size + 1 := by simp
  have j1 := run_ins (P := Try.prog) (w := w.alloc (.map #[] 0)) (val := .func (.func 97) #[] #[]) (s := ⟨#[38]⟩) Try.underlying62 Try.underlying9 hb0 rfl
  obtain ⟨W1, hW1⟩ : ∃ W, putObj (w.alloc (.map #[] 0)) w.heap.size (.map ((#[] : Array MapEntry).push { key := .string ⟨#[38]⟩, val := .func (.func 97) #[] #[], born := 0 }) (0 + 1)) = W := ⟨_, rfl⟩
  have i1 : (Instr.mapUpdate 62 (.map (some w.heap.size)) (.string ⟨#[38]⟩) (.func (.func 97) #[] #[])).run Try.prog (w.alloc (.map #[] 0)) = .ok () W1 := hW1 ▸ j1
  have hb1 : W1.heap[w.heap.size]? = some (.map #[{ key := .string ⟨#[38]⟩, val := .func (.func 97) #[] #[], born := 0 }] 1) := hW1 ▸ putObj_at (by rw [hs]; omega)
  have B1 : Below w.heap.size w W1 := hW1 ▸ below_putObj (below1 w _) (Nat.le_refl _) _
  have j2 := run_ins (P := Try.prog) (w := W1) (val := .func (.func 98) #[] #[]) (s := ⟨#[124]⟩) Try.underlying62 Try.underlying9 hb1 (by rfl)
  obtain ⟨W2, hW2⟩ : ∃ W, putObj W1 w.heap.size (.map ((#[{ key := .string ⟨#[38]⟩, val := .func (.func 97) #[] #[], born := 0 }] : Array MapEntry).push { key := .string ⟨#[124]⟩, val := .func (.func 98) #[] #[], born := 1 }) (1 + 1)) = W := ⟨_, rfl⟩
  have i2 : (Instr.mapUpdate 62 (.map (some w.heap.size)) (.string ⟨#[124]⟩) (.func (.func 98) #[] #[])).run Try.prog W1 = .ok () W2 := hW2 ▸ j2
  have K2 := Lib.hid (show W2.heap[w.heap.size]? = some (.map opTab 2) from hW2 ▸ putObj_at (Array.getElem?_eq_some_iff.1 hb1).1)
  have B2 := Lib.hid (show Below w.heap.size w W2 from hW2 ▸ below_putObj B1 (Nat.le_refl _) _)
  clear hW1 hW2 hb0 hb1 B1 hs j1 j2
  go_enter Try.func55, Try.ntmps55
  go_wp2
  go_ret
  exact ⟨rfl, K2.out, B2.out⟩
theorem look_and {w : World} {g : Nat} (h : w.heap[g]? = some (.map opTab 2)) : (Instr.lookup 62 (.map (some g)) (.string ⟨#[38]⟩) true).run Try.prog w = .ok (.tuple #[.func (.func 97) #[] #[], .bool true]) w :=
  run_look_yes (i := 0) Try.underlying62 Try.underlying9 h (by rfl)
theorem look_or {w : World} {g : Nat} (h : w.heap[g]? = some (.map opTab 2)) : (Instr.lookup 62 (.map (some g)) (.string ⟨#[124]⟩) true).run Try.prog w = .ok (.tuple #[.func (.func 98) #[] #[], .bool true]) w :=
  run_look_yes (i := 1) Try.underlying62 Try.underlying9 h (by rfl)
end Go.Proofs.Ytlnjjjoeblopeaa

/- The program's table of arithmetic operators. -/
namespace Go.Proofs.Ytlnjjjoeblopeaa
open Go.RowKit
set_option maxRecDepth 100000
set_option linter.unusedVariables false

def ariTab : Array MapEntry := #[{ key := .string ⟨#[43]⟩, val := .func (.func 125) #[] #[], born := 0 }, { key := .string ⟨#[45]⟩, val := .func (.func 126) #[] #[], born := 1 }, { key := .string ⟨#[42]⟩, val := .func (.func 127) #[] #[], born := 2 }, { key := .string ⟨#[47]⟩, val := .func (.func 128) #[] #[], born := 3 }, { key := .string ⟨#[94]⟩, val := .func (.func 129) #[] #[], born := 4 }, { key := .string ⟨#[37, 37]⟩, val := .func (.func 130) #[] #[], born := 5 }, { key := .string ⟨#[37, 47, 37]⟩, val := .func (.func 131) #[] #[], born := 6 }]
set_option maxHeartbeats 1000000 in
theorem implAriOps (w : World) : Calls Try.prog 79 #[] w fun e w' => e = .returned (.map (some w.heap.size)) ∧ w'.heap[w.heap.size]? = some (.map ariTab 7) ∧ Below w.heap.size w w' := by
  have hmm := @run_makeMap Try.prog
  have hb0 : (w.alloc (.map #[] 0)).heap[w.heap.size]? = some (.map #[] 0) := blk_new w _ rfl
  have hs : w.heap.size < (w.alloc (.map #[] 0)).heap.size := by simp
  obtain ⟨W0, hW0⟩ : ∃ W, w.alloc (.map #[] 0) = W := ⟨_, rfl⟩
  have B0 : Below w.heap.size w W0 := hW0 ▸ below1 w _
  rw [hW0] at hb0 hs
  have EW := Lib.hid hW0
  obtain ⟨W1, hW1⟩ : ∃ W, putObj W0 w.heap.size (.map ((#[] : Array MapEntry).push { key := .string ⟨#[43]⟩, val := .func (.func 125) #[] #[], born := 0 }) (0 + 1)) = W := ⟨_, rfl⟩
  have i1 : (Instr.mapUpdate 86 (.map (some w.heap.size)) (.string ⟨#[43]⟩) (.func (.func 125) #[] #[])).run Try.prog W0 = .ok () W1 := hW1 ▸ run_ins (P := Try.prog) (w := W0) (val := .func (.func 125) #[] #[]) (s := ⟨#[43]⟩) Try.underlying86 Try.underlying9 hb0 (by rfl)
  have hb1 : W1.heap[w.heap.size]? = some (.map #[{ key := .string ⟨#[43]⟩, val := .func (.func 125) #[] #[], born := 0 }] 1) := hW1 ▸ putObj_at (Array.getElem?_eq_some_iff.1 hb0).1
  have B1 : Below w.heap.size w W1 := hW1 ▸ below_putObj B0 (Nat.le_refl _) _
  clear hW1 hb0 B0
  obtain ⟨W2, hW2⟩ : ∃ W, putObj W1 w.heap.size (.map ((#[{ key := .string ⟨#[43]⟩, val := .func (.func 125) #[] #[], born := 0 }] : Array MapEntry).push { key := .string ⟨#[45]⟩, val := .func (.func 126) #[] #[], born := 1 }) (1 + 1)) = W := ⟨_, rfl⟩
  have i2 : (Instr.mapUpdate 86 (.map (some w.heap.size)) (.string ⟨#[45]⟩) (.func (.func 126) #[] #[])).run Try.prog W1 = .ok () W2 := hW2 ▸ run_ins (P := Try.prog) (w := W1) (val := .func (.func 126) #[] #[]) (s := ⟨#[45]⟩) Try.underlying86 Try.underlying9 hb1 (by rfl)
  have hb2 : W2.heap[w.heap.size]? = some (.map #[{ key := .string ⟨#[43]⟩, val := .func (.func 125) #[] #[], born := 0 }, { key := .string ⟨#[45]⟩, val := .func (.func 126) #[] #[], born := 1 }] 2) := hW2 ▸ putObj_at (Array.getElem?_eq_some_iff.1 hb1).1
  have B2 : Below w.heap.size w W2 := hW2 ▸ below_putObj B1 (Nat.le_refl _) _
  clear hW2 hb1 B1
  obtain ⟨W3, hW3⟩ : ∃ W, putObj W2 w.heap.size (.map ((#[{ key := .string ⟨#[43]⟩, val := .func (.func 125) #[] #[], born := 0 }, { key := .string ⟨#[45]⟩, val := .func (.func 126) #[] #[], born := 1 }] : Array MapEntry).push { key := .string ⟨#[42]⟩, val := .func (.func 127) #[] #[], born := 2 }) (2 + 1)) = W := ⟨_, rfl⟩
  have i3 : (Instr.mapUpdate 86 (.map (some w.heap.size)) (.string ⟨#[42]⟩) (.func (.func 127) #[] #[])).run Try.prog W2 = .ok () W3 := hW3 ▸ run_ins (P := Try.prog) (w := W2) (val := .func (.func 127) #[] #[]) (s := ⟨#[42]⟩) Try.underlying86 Try.underlying9 hb2 (by rfl)
  have hb3 : W3.heap[w.heap.size]? = some (.map #[{ key := .string ⟨#[43]⟩, val := .func (.func 125) #[] #[], born := 0 }, { key := .string ⟨#[45]⟩, val := .func (.func 126) #[] #[], born := 1 }, { key := .string ⟨#[42]⟩, val := .func (.func 127) #[] #[], born := 2 }] 3) := hW3 ▸ putObj_at (Array.getElem?_eq_some_iff.1 hb2).1
  have B3 : Below w.heap.size w W3 := hW3 ▸ below_putObj B2 (Nat.le_refl _) _
  clear hW3 hb2 B2
  obtain ⟨W4, hW4⟩ : ∃ W, putObj W3 w.heap.size (.map ((#[{ key := .string ⟨#[43]⟩, val := .func (.func 125) #[] #[], born := 0 }, { key := .string ⟨#[45]⟩, val := .func (.func 126) #[] #[], born := 1 }, { key := .string ⟨#[42]⟩, val := .func (.func 127) #[] #[], born := 2 }] : Array MapEntry).push { key := .string ⟨#[47]⟩, val := .func (.func 128) #[] #[], born := 3 }) (3 + 1)) = W := ⟨_, rfl⟩
  have i4 : (Instr.mapUpdate 86 (.map (some w.heap.size)) (.string ⟨#[47]⟩) (.func (.func 128) #[] #[])).run Try.prog W3 = .ok () W4 := hW4 ▸ run_ins (P := Try.prog) (w := W3) (val := .func (.func 128) #[] #[]) (s := ⟨#[47]⟩) Try.underlying86 Try.underlying9 hb3 (by rfl)
  have hb4 : W4.heap[w.heap.size]? = some (.map #[{ key := .string ⟨#[43]⟩, val := .func (.func 125) #[] #[], born := 0 }, { key := .string ⟨#[45]⟩, val := .func (.func 126) #[] #[], born := 1 }, { key := .string ⟨#[42]⟩, val := .func (.func 127) #[] #[], born := 2 }, { key := .string ⟨#[47]⟩, val := .func (.func 128) #[] #[], born := 3 }] 4) := hW4 ▸ putObj_at (Array.getElem?_eq_some_iff.1 hb3).1
  have B4 : Below w.heap.size w W4 := hW4 ▸ below_putObj B3 (Nat.le_refl _) _
  clear hW4 hb3 B3
  obtain ⟨W5, hW5⟩ : ∃ W, putObj W4 w.heap.size (.map ((#[{ key := .string ⟨#[43]⟩, val := .func (.func 125) #[] #[], born := 0 }, { key := .string ⟨#[45]⟩, val := .func (.func 126) #[] #[], born := 1 }, { key := .string ⟨#[42]⟩, val := .func (.func 127) #[] #[], born := 2 }, { key := .string ⟨#[47]⟩, val := .func (.func 128) #[] #[], born := 3 }] : Array MapEntry).push { key := .string ⟨#[94]⟩, val := .func (.func 129) #[] #[], born := 4 }) (4 + 1)) = W := ⟨_, rfl⟩
  have i5 : (Instr.mapUpdate 86 (.map (some w.heap.size)) (.string ⟨#[94]⟩) (.func (.func 129) #[] #[])).run Try.prog W4 = .ok () W5 := hW5 ▸ run_ins (P := Try.prog) (w := W4) (val := .func (.func 129) #[] #[]) (s := ⟨#[94]⟩) Try.underlying86 Try.underlying9 hb4 (by rfl)
  have hb5 : W5.heap[w.heap.size]? = some (.map #[{ key := .string ⟨#[43]⟩, val := .func (.func 125) #[] #[], born := 0 }, { key := .string ⟨#[45]⟩, val := .func (.func 126) #[] #[], born := 1 }, { key := .string ⟨#[42]⟩, val := .func (.func 127) #[] #[], born := 2 }, { key := .string ⟨#[47]⟩, val := .func (.func 128) #[] #[], born := 3 }, { key := .string ⟨#[94]⟩, val := .func (.func 129) #[] #[], born := 4 }] 5) := hW5 ▸ putObj_at (Array.getElem?_eq_some_iff.1 hb4).1
  have B5 : Below w.heap.size w W5 := hW5 ▸ below_putObj B4 (Nat.le_refl _) _
  clear hW5 hb4 B4
  obtain ⟨W6, hW6⟩ : ∃ W, putObj W5 w.heap.size (.map ((#[{ key := .string ⟨#[43]⟩, val := .func (.func 125) #[] #[], born := 0 }, { key := .string ⟨#[45]⟩, val := .func (.func 126) #[] #[], born := 1 }, { key := .string ⟨#[42]⟩, val := .func (.func 127) #[] #[], born := 2 }, { key := .string ⟨#[47]⟩, val := .func (.func 128) #[] #[], born := 3 }, { key := .string ⟨#[94]⟩, val := .func (.func 129) #[] #[], born := 4 }] : Array MapEntry).push { key := .string ⟨#[37, 37]⟩, val := .func (.func 130) #[] #[], born := 5 }) (5 + 1)) = W := ⟨_, rfl⟩
  have i6 : (Instr.mapUpdate 86 (.map (some w.heap.size)) (.string ⟨#[37, 37]⟩) (.func (.func 130) #[] #[])).run Try.prog W5 = .ok () W6 := hW6 ▸ run_ins (P := Try.prog) (w := W5) (val := .func (.func 130) #[] #[]) (s := ⟨#[37, 37]⟩) Try.underlying86 Try.underlying9 hb5 (by rfl)
  have hb6 : W6.heap[w.heap.size]? = some (.map #[{ key := .string ⟨#[43]⟩, val := .func (.func 125) #[] #[], born := 0 }, { key := .string ⟨#[45]⟩, val := .func (.func 126) #[] #[], born := 1 }, { key := .string ⟨#[42]⟩, val := .func (.func 127) #[] #[], born := 2 }, { key := .string ⟨#[47]⟩, val := .func (.func 128) #[] #[], born := 3 }, { key := .string ⟨#[94]⟩, val := .func (.func 129) #[] #[], born := 4 }, { key := .string ⟨#[37, 37]⟩, val := .func (.func 130) #[] #[], born := 5 }] 6) := hW6 ▸ putObj_at (Array.getElem?_eq_some_iff.1 hb5).1
  have B6 : Below w.heap.size w W6 := hW6 ▸ below_putObj B5 (Nat.le_refl _) _
  clear hW6 hb5 B5
  obtain ⟨W7, hW7⟩ : ∃ W, putObj W6 w.heap.size (.map ((#[{ key := .string ⟨#[43]⟩, val := .func (.func 125) #[] #[], born := 0 }, { key := .string ⟨#[45]⟩, val := .func (.func 126) #[] #[], born := 1 }, { key := .string ⟨#[42]⟩, val := .func (.func 127) #[] #[], born := 2 }, { key := .string ⟨#[47]⟩, val := .func (.func 128) #[] #[], born := 3 }, { key := .string ⟨#[94]⟩, val := .func (.func 129) #[] #[], born := 4 }, { key := .string ⟨#[37, 37]⟩, val := .func (.func 130) #[] #[], born := 5 }] : Array MapEntry).push { key := .string ⟨#[37, 47, 37]⟩, val := .func (.func 131) #[] #[], born := 6 }) (6 + 1)) = W := ⟨_, rfl⟩
  have i7 : (Instr.mapUpdate 86 (.map (some w.heap.size)) (.string ⟨#[37, 47, 37]⟩) (.func (.func 131) #[] #[])).run Try.prog W6 = .ok () W7 := hW7 ▸ run_ins (P := Try.prog) (w := W6) (val := .func (.func 131) #[] #[]) (s := ⟨#[37, 47, 37]⟩) Try.underlying86 Try.underlying9 hb6 (by rfl)
  have hb7 : W7.heap[w.heap.size]? = some (.map #[{ key := .string ⟨#[43]⟩, val := .func (.func 125) #[] #[], born := 0 }, { key := .string ⟨#[45]⟩, val := .func (.func 126) #[] #[], born := 1 }, { key := .string ⟨#[42]⟩, val := .func (.func 127) #[] #[], born := 2 }, { key := .string ⟨#[47]⟩, val := .func (.func 128) #[] #[], born := 3 }, { key := .string ⟨#[94]⟩, val := .func (.func 129) #[] #[], born := 4 }, { key := .string ⟨#[37, 37]⟩, val := .func (.func 130) #[] #[], born := 5 }, { key := .string ⟨#[37, 47, 37]⟩, val := .func (.func 131) #[] #[], born := 6 }] 7) := hW7 ▸ putObj_at (Array.getElem?_eq_some_iff.1 hb6).1
  have B7 : Below w.heap.size w W7 := hW7 ▸ below_putObj B6 (Nat.le_refl _) _
  clear hW7 hb6 B6
  have K7 := Lib.hid (show W7.heap[w.heap.size]? = some (.map ariTab 7) from hb7)
  have BB := Lib.hid B7
  clear hb7 B7
  have j1 : (Instr.mapUpdate 86 (.map (some w.heap.size)) (.string ⟨#[43]⟩) (.func (.func 125) #[] #[])).run Try.prog (w.alloc (.map #[] 0)) = .ok () W1 := by rw [EW.out]; exact i1
  clear i1 hW0 hs
  go_enter Try.func79, Try.ntmps79
  go_wp2
  go_ret
  exact ⟨rfl, K7.out, BB.out⟩
theorem lookA_0 {w : World} {g : Nat} (h : w.heap[g]? = some (.map ariTab 7)) : (Instr.lookup 86 (.map (some g)) (.string ⟨#[43]⟩) true).run Try.prog w = .ok (.tuple #[.func (.func 125) #[] #[], .bool true]) w :=
  run_look_yes (i := 0) Try.underlying86 Try.underlying9 h (by rfl)
theorem lookA_1 {w : World} {g : Nat} (h : w.heap[g]? = some (.map ariTab 7)) : (Instr.lookup 86 (.map (some g)) (.string ⟨#[45]⟩) true).run Try.prog w = .ok (.tuple #[.func (.func 126) #[] #[], .bool true]) w :=
  run_look_yes (i := 1) Try.underlying86 Try.underlying9 h (by rfl)
theorem lookA_2 {w : World} {g : Nat} (h : w.heap[g]? = some (.map ariTab 7)) : (Instr.lookup 86 (.map (some g)) (.string ⟨#[42]⟩) true).run Try.prog w = .ok (.tuple #[.func (.func 127) #[] #[], .bool true]) w :=
  run_look_yes (i := 2) Try.underlying86 Try.underlying9 h (by rfl)
theorem lookA_3 {w : World} {g : Nat} (h : w.heap[g]? = some (.map ariTab 7)) : (Instr.lookup 86 (.map (some g)) (.string ⟨#[47]⟩) true).run Try.prog w = .ok (.tuple #[.func (.func 128) #[] #[], .bool true]) w :=
  run_look_yes (i := 3) Try.underlying86 Try.underlying9 h (by rfl)
theorem lookA_4 {w : World} {g : Nat} (h : w.heap[g]? = some (.map ariTab 7)) : (Instr.lookup 86 (.map (some g)) (.string ⟨#[94]⟩) true).run Try.prog w = .ok (.tuple #[.func (.func 129) #[] #[], .bool true]) w :=
  run_look_yes (i := 4) Try.underlying86 Try.underlying9 h (by rfl)
theorem lookA_5 {w : World} {g : Nat} (h : w.heap[g]? = some (.map ariTab 7)) : (Instr.lookup 86 (.map (some g)) (.string ⟨#[37, 37]⟩) true).run Try.prog w = .ok (.tuple #[.func (.func 130) #[] #[], .bool true]) w :=
  run_look_yes (i := 5) Try.underlying86 Try.underlying9 h (by rfl)
theorem lookA_6 {w : World} {g : Nat} (h : w.heap[g]? = some (.map ariTab 7)) : (Instr.lookup 86 (.map (some g)) (.string ⟨#[37, 47, 37]⟩) true).run Try.prog w = .ok (.tuple #[.func (.func 131) #[] #[], .bool true]) w :=
  run_look_yes (i := 6) Try.underlying86 Try.underlying9 h (by rfl)
end Go.Proofs.Ytlnjjjoeblopeaa

/- A struct literal of a vector with items and names. -/
namespace Go.Proofs.Ytlnjjjoeblopeaa
open Go.RowKit
set_option maxRecDepth 100000
theorem build_v3 {w : World} {k : Int} {a c : Option Addr} {n m n' m' : Nat} : (Instr.build 31 #[(0, .int .i64 k), (1, .slice a n m), (3, .slice c n' m')]).run Try.prog w = .ok (.agg #[.int .i64 k, .slice a n m, .slice none 0 0, .slice c n' m', .slice none 0 0, .slice none 0 0, .int .i64 0, .int .i64 0]) w := by
  kernel_rfl
end Go.Proofs.Ytlnjjjoeblopeaa

/- LogicOf of the program. -/
namespace Go.Proofs.Ytlnjjjoeblopeaa
open Go.RowKit
set_option maxRecDepth 100000
set_option linter.unusedVariables false

theorem own_pair {w : World} {k : Int} {l : List It} {names : List ByteArray} {a : Option Addr} {c : Nat} {na : Option Addr} {nc : Nat} {Fi Fn : List Nat} {lo mid hi : Nat} (hi1 : OwnIts w a l Fi) (n1 : Fi.Nodup) (r1 : ∀ b ∈ Fi, lo ≤ b ∧ b < mid) (c1 : l.length ≤ c)
    (hT : OwnTxs w na names Fn) (n2 : Fn.Nodup) (r2 : ∀ b ∈ Fn, mid ≤ b ∧ b < hi) (c2 : names.length ≤ nc) (h1 : lo ≤ mid) (h2 : mid ≤ hi) : Own 1 (mkN k l names) (.agg #[.int .i64 k, .slice a l.length c, .slice none 0 0, .slice na names.length nc, .slice none 0 0, .slice none 0 0, .int .i64 0, .int .i64 0]) lo hi w := by
  refine ⟨Fi ++ Fn, ?_, ?_, ?_⟩
  · show OwnVec w 1 (.mk k l [] names [] [] 0 0) _ _
    unfold OwnVec
    exact ⟨a, c, none, 0, na, nc, none, 0, none, 0, Fi, [], Fn, [], [], rfl, by simp, ⟨c1, Nat.le_refl _, c2, Nat.le_refl _, Nat.le_refl _⟩, hi1, hT, .inl ⟨rfl, rfl⟩, .inl ⟨rfl, rfl⟩, .inl ⟨rfl, rfl⟩⟩
  · rw [List.nodup_append]
    exact ⟨n1, n2, fun x hx y hy e => by have := r1 x hx; have := r2 y hy; omega⟩
  · intro b hb
    rcases List.mem_append.1 hb with h | h
    · have := r1 b h; omega
    · have := r2 b h; omega
section
variable {ops : Array Oper} {Q : Exit → Act → World → Prop} {S : World → Prop}
variable {r : List (Nat × Bool)} {a : Act} {e : List (Nat × Value)} {w : World} {i d : Nat} {g : Option (Nat × Bool)}
theorem run_bld {x y : Operand} {sa sb : Option Addr} {n m n' m' : Nat} (ho : opAt ops i = some (some d, .build 31 #[(0, .const (.int .i64 1)), (1, x), (3, y)], g)) (hd : Nat.blt d a.tmps.size = true) (hw : wantE ops a e g = some true)
    (hx : lookO a e x = .slice sa n m) (hy : lookO a e y = .slice sb n' m') (hS : S w)
    (h : RunE Try.prog ops Q S r a ((d, .agg #[.int .i64 1, .slice sa n m, .slice none 0 0, .slice sb n' m', .slice none 0 0, .slice none 0 0, .int .i64 0, .int .i64 0]) :: e) w) : RunE Try.prog ops Q S ((i, false) :: r) a e w := by
  have hc : lookO a e (.const (.int .i64 1)) = .int .i64 1 := rfl
  refine run_eff ho hd hw (fun o h1 => ?_) hS h
  unfold execOp
  simp only [h1, List.map_toArray, List.map_cons, List.map_nil, hx, hy, hc]
  exact run_v build_v3
end
theorem store_vecN {w : World} {b : Nat} {z0 z1 z2 z3 z4 z5 z6 z7 c0 c1 c2 c3 c4 c5 c6 c7 : Value} (h : w.heap[b]? = some (.cells #[z0, z1, z2, z3, z4, z5, z6, z7] 31 (0, 0))) (h1 : (#[c0, c1, c2, c3, c4, c5, c6, c7] : Array Value).all (·.oneCell') = true) :
    (Instr.storeAt 31 (.pointer (some ⟨b, 0, none⟩)) (.agg #[c0, c1, c2, c3, c4, c5, c6, c7])).run Try.prog w = .ok () (w.setRow b #[c0, c1, c2, c3, c4, c5, c6, c7]) := by
  have e := run_storeVar_row (P := Try.prog) w b _ 31 #[z0, z1, z2, z3, z4, z5, z6, z7] #[c0, c1, c2, c3, c4, c5, c6, c7] h infoVec rfl h1
  simp only [Instr.storeAt, Instr.sureAddr, Sem.run_bind, Sem.run_pure, Result.andThen_ok, e]
theorem bytes_ne {x y : ByteArray} (h : ¬ x = y) : (x == y) = false := by
  obtain ⟨a⟩ := x
  obtain ⟨b⟩ := y
  show (a == b) = false
  rw [beq_eq_false_iff_ne]
  intro e
  exact h (by rw [e])
set_option maxHeartbeats 4000000 in
theorem implLogicOf (d0 d1 : Nat) (a b : Vec) (op : ByteArray) (va vb : Value) (lo hi : Nat) (w : World) (h0 : VecAt lo hi w d0 a va) (h1 : VecAt lo hi w d1 b vb) (hhi : hi ≤ w.heap.size) (hsm0 : Small d0 a) (hsm1 : Small d1 b) :
    Calls Try.prog 17 #[.string op, va, vb] w (ResVS 1 (lgcV op a b) (lgcS op a b) w) := by
  have PB := Lib.hid (fun (w1 : World) (hb : Below w.heap.size w w1) (known : Bool) => implPrb d0 d1 a b va vb known nonLogB lo hi w1 (h0.below hb hhi) (h1.below hb hhi) (Nat.le_trans hhi hb.size) hsm0 hsm1)
  obtain ⟨VA, hVA⟩ : ∃ V, a = V := ⟨_, rfl⟩
  obtain ⟨VB, hVB⟩ : ∃ V, b = V := ⟨_, rfl⟩
  rw [hVA, hVB] at PB
  rw [hVA, hVB]
  obtain ⟨k0, items0, parts0, names0, cls0, lev0, code0, env0⟩ := a
  obtain ⟨d0', ai0, ci0, ap0, cp0, an0, cn0, ac0, cc0, al0, cl0, ed0, rfl, hI0, hN0, hC0, hL0, hP0⟩ := vecAt_open h0
  have ln0 : names0.length ≤ 1048576 := by subst ed0; exact hsm0.2.2.1
  have li0 : items0.length ≤ 1048576 := by subst ed0; exact hsm0.1
  have lp0 : parts0.length ≤ 1048576 := by subst ed0; exact hsm0.2.1
  obtain ⟨k1, items1, parts1, names1, cls1, lev1, code1, env1⟩ := b
  obtain ⟨d1', ai1, ci1, ap1, cp1, an1, cn1, ac1, cc1, al1, cl1, ed1, rfl, hI1, hN1, hC1, hL1, hP1⟩ := vecAt_open h1
  have ln1 : names1.length ≤ 1048576 := by subst ed1; exact hsm1.2.2.1
  have li1 : items1.length ≤ 1048576 := by subst ed1; exact hsm1.1
  have lp1 : parts1.length ≤ 1048576 := by subst ed1; exact hsm1.2.1
  go_enter Try.func17, Try.ntmps17
  go_wp2_with fail
  obtain ⟨w1, hw1⟩ : ∃ W, ((w.alloc (.cells #[.int .i64 k0, .slice ai0 items0.length ci0, .slice ap0 parts0.length cp0, .slice an0 names0.length cn0, .slice ac0 cls0.length cc0, .slice al0 lev0.length cl0, .int .i64 code0, .int .i64 env0] 31)).alloc (.cells #[.int .i64 k1, .slice ai1 items1.length ci1, .slice ap1 parts1.length cp1, .slice an1 names1.length cn1, .slice ac1 cls1.length cc1, .slice al1 lev1.length cl1, .int .i64 code1, .int .i64 env1] 31)).alloc (.cells #[.int .i64 0, .slice none 0 0, .slice none 0 0, .slice none 0 0, .slice none 0 0, .slice none 0 0, .int .i64 0, .int .i64 0] 31) = W := ⟨_, rfl⟩
  have hsz1 : (w.alloc (.cells #[.int .i64 k0, .slice ai0 items0.length ci0, .slice ap0 parts0.length cp0, .slice an0 names0.length cn0, .slice ac0 cls0.length cc0, .slice al0 lev0.length cl0, .int .i64 code0, .int .i64 env0] 31)).heap.size = w.heap.size + 1 := by simp
  have hsz2 : ((w.alloc (.cells #[.int .i64 k0, .slice ai0 items0.length ci0, .slice ap0 parts0.length cp0, .slice an0 names0.length cn0, .slice ac0 cls0.length cc0, .slice al0 lev0.length cl0, .int .i64 code0, .int .i64 env0] 31)).alloc (.cells #[.int .i64 k1, .slice ai1 items1.length ci1, .slice ap1 parts1.length cp1, .slice an1 names1.length cn1, .slice ac1 cls1.length cc1, .slice al1 lev1.length cl1, .int .i64 code1, .int .i64 env1] 31)).heap.size = w.heap.size + 1 + 1 := by simp
  have B1 := Lib.hid (show Below w.heap.size w w1 from hw1 ▸ (below2 w _ _).alloc (by simp; omega) _)
  have KA := Lib.hid (show w1.heap[w.heap.size]? = some (.cells #[.int .i64 k0, .slice ai0 items0.length ci0, .slice ap0 parts0.length cp0, .slice an0 names0.length cn0, .slice ac0 cls0.length cc0, .slice al0 lev0.length cl0, .int .i64 code0, .int .i64 env0] 31 (0, 0)) from hw1 ▸ blk_old (blk_old (blk_new w _ rfl)))
  have KB := Lib.hid (show w1.heap[w.heap.size + 1]? = some (.cells #[.int .i64 k1, .slice ai1 items1.length ci1, .slice ap1 parts1.length cp1, .slice an1 names1.length cn1, .slice ac1 cls1.length cc1, .slice al1 lev1.length cl1, .int .i64 code1, .int .i64 env1] 31 (0, 0)) from hw1 ▸ blk_old (hsz1 ▸ blk_new (w.alloc (.cells #[.int .i64 k0, .slice ai0 items0.length ci0, .slice ap0 parts0.length cp0, .slice an0 names0.length cn0, .slice ac0 cls0.length cc0, .slice al0 lev0.length cl0, .int .i64 code0, .int .i64 env0] 31)) (.cells #[.int .i64 k1, .slice ai1 items1.length ci1, .slice ap1 parts1.length cp1, .slice an1 names1.length cn1, .slice ac1 cls1.length cc1, .slice al1 lev1.length cl1, .int .i64 code1, .int .i64 env1] 31) rfl))
  have KR := Lib.hid (show w1.heap[w.heap.size + 1 + 1]? = some (.cells #[.int .i64 0, .slice none 0 0, .slice none 0 0, .slice none 0 0, .slice none 0 0, .slice none 0 0, .int .i64 0, .int .i64 0] 31 (0, 0)) from hw1 ▸ hsz2 ▸ blk_new ((w.alloc (.cells #[.int .i64 k0, .slice ai0 items0.length ci0, .slice ap0 parts0.length cp0, .slice an0 names0.length cn0, .slice ac0 cls0.length cc0, .slice al0 lev0.length cl0, .int .i64 code0, .int .i64 env0] 31)).alloc (.cells #[.int .i64 k1, .slice ai1 items1.length ci1, .slice ap1 parts1.length cp1, .slice an1 names1.length cn1, .slice ac1 cls1.length cc1, .slice al1 lev1.length cl1, .int .i64 code1, .int .i64 env1] 31)) (.cells #[.int .i64 0, .slice none 0 0, .slice none 0 0, .slice none 0 0, .slice none 0 0, .slice none 0 0, .int .i64 0, .int .i64 0] 31) rfl)
  rw [hw1]
  clear hw1 hsz1 hsz2
  with_reducible refine (implOps w1).mono ?_
  rintro e w2 ⟨rfl, hm, b'⟩
  have B2 := Lib.hid (below_then B1.out b')
  have KA := Lib.hid (blk_below b' KA.out)
  have KB := Lib.hid (blk_below b' KB.out)
  have KR := Lib.hid (blk_below b' KR.out)
  obtain ⟨gm, hgm⟩ : ∃ g, w1.heap.size = g := ⟨_, rfl⟩
  rw [hgm] at hm ⊢
  have MP := Lib.hid hm
  have hgw2 := (Array.getElem?_eq_some_iff.1 KR.out).1
  have hgw3 : w.heap.size < w2.heap.size := by omega
  have hgw4 : w.heap.size + 1 < w2.heap.size := by omega
  clear b' hgm hm
  obtain ⟨ka0, ka1, ka2, ka3, ka4, ka5, ka6, ka7⟩ := vec8 KA.out
  obtain ⟨kb0, kb1, kb2, kb3, kb4, kb5, kb6, kb7⟩ := vec8 KB.out
  by_cases hand : op = ⟨#[38]⟩
  · subst hand
    have hop : (⟨#[38]⟩ : ByteArray) = andB ∨ (⟨#[38]⟩ : ByteArray) = orB := .inl rfl
    have lk := look_and MP.out
    go_wp2_with fail
    obtain ⟨w3, hw3⟩ : ∃ W, w2.alloc (.cells #[.func (.func 97) #[] #[]] 60) = W := ⟨_, rfl⟩
    have B3 := Lib.hid (show Below w.heap.size w w3 from hw3 ▸ B2.out.alloc B2.out.size _)
    have KF := Lib.hid (show w3.heap[w2.heap.size]? = some (.cells #[.func (.func 97) #[] #[]] 60 (0, 0)) from hw3 ▸ blk_new w2 _ rfl)
    have KA := Lib.hid (show w3.heap[w.heap.size]? = some (.cells #[.int .i64 k0, .slice ai0 items0.length ci0, .slice ap0 parts0.length cp0, .slice an0 names0.length cn0, .slice ac0 cls0.length cc0, .slice al0 lev0.length cl0, .int .i64 code0, .int .i64 env0] 31 (0, 0)) from hw3 ▸ blk_old KA.out)
    have KB := Lib.hid (show w3.heap[w.heap.size + 1]? = some (.cells #[.int .i64 k1, .slice ai1 items1.length ci1, .slice ap1 parts1.length cp1, .slice an1 names1.length cn1, .slice ac1 cls1.length cc1, .slice al1 lev1.length cl1, .int .i64 code1, .int .i64 env1] 31 (0, 0)) from hw3 ▸ blk_old KB.out)
    have KR := Lib.hid (show w3.heap[w.heap.size + 1 + 1]? = some (.cells #[.int .i64 0, .slice none 0 0, .slice none 0 0, .slice none 0 0, .slice none 0 0, .slice none 0 0, .int .i64 0, .int .i64 0] 31 (0, 0)) from hw3 ▸ blk_old KR.out)
    have GW := Lib.hid (show w.heap.size + 1 + 1 < w2.heap.size from hgw2)
    rw [hw3]
    clear hw3 lk
    obtain ⟨gc, hgc⟩ : ∃ g, w2.heap.size = g := ⟨_, rfl⟩
    rw [hgc] at KF GW ⊢
    clear hgc ka0 ka1 ka2 ka3 ka4 ka5 ka6 ka7 kb0 kb1 kb2 kb3 kb4 kb5 kb6 kb7
    obtain ⟨ka0, ka1, ka2, ka3, ka4, ka5, ka6, ka7⟩ := vec8 KA.out
    obtain ⟨kb0, kb1, kb2, kb3, kb4, kb5, kb6, kb7⟩ := vec8 KB.out
    go_wp2_with fail
    refine (PB.out w3 B3.out true).mono ?_
    rintro e w4 ⟨rfl, b⟩
    have B4 := Lib.hid (below_then B3.out b)
    have KA := Lib.hid (blk_below b KA.out)
    have KB := Lib.hid (blk_below b KB.out)
    have KR := Lib.hid (blk_below b KR.out)
    have KF := Lib.hid (blk_below b KF.out)
    clear b ka0 ka1 ka2 ka3 ka4 ka5 ka6 ka7 kb0 kb1 kb2 kb3 kb4 kb5 kb6 kb7
    have XS := Lib.hid (show lgcS ⟨#[38]⟩ VA VB = prbB true VA VB nonLogB by rw [lgcS_prb, bB_yes hop])
    by_cases hp : prbB true VA VB nonLogB = ⟨#[]⟩
    · have OK := Lib.hid (lgcV_ok (op := ⟨#[38]⟩) (a := VA) (b := VB) (by rw [bB_yes hop]; exact hp))
      rw [hp]
      rw [hp] at XS
      obtain ⟨hv, _, hcc, hnn⟩ := OK.out
      have XV := Lib.hid (lgc_yes hv hop hcc hnn)
      have EA := Lib.hid (show itL VA = items0.length by rw [← hVA]; rfl)
      have EB := Lib.hid (show itL VB = items1.length by rw [← hVB]; rfl)
      have ma : items0.length ≤ 40 := by rw [← EA.out]; exact itL_le hv.1 hcc.1
      have mb : items1.length ≤ 40 := by rw [← EB.out]; exact itL_le hv.2 hcc.2
      have XA : ∀ i, i < items0.length → NumIt (items0.getD i noI) := fun i hi => num_at (by rw [hVA]; exact hv.1) (by rw [hVA]; exact hcc.1) hi
      have XB : ∀ i, i < items1.length → NumIt (items1.getD i noI) := fun i hi => num_at (by rw [hVB]; exact hv.2) (by rw [hVB]; exact hcc.2) hi
      have FA : FlatOk k0 items0 parts0.length names0 cls0 lev0 code0 env0 := by have h := hv.1; rw [← hVA] at h; exact h.1.flat
      have FB : FlatOk k1 items1 parts1.length names1 cls1 lev1 code1 env1 := by have h := hv.2; rw [← hVB] at h; exact h.1.flat
      have CRI := Lib.hid (fun (W : World) (hH : HeldC w W ([(w.heap.size, 31, #[.int .i64 k0, .slice ai0 items0.length ci0, .slice ap0 parts0.length cp0, .slice an0 names0.length cn0, .slice ac0 cls0.length cc0, .slice al0 lev0.length cl0, .int .i64 code0, .int .i64 env0]), ((w.heap.size + 1), 31, #[.int .i64 k1, .slice ai1 items1.length ci1, .slice ap1 parts1.length cp1, .slice an1 names1.length cn1, .slice ac1 cls1.length cc1, .slice al1 lev1.length cl1, .int .i64 code1, .int .i64 env1]), (gc, 60, #[.func (.func 97) #[] #[]])])) => implRecIts 58 #[.pointer (some ⟨gc, 0, none⟩)] (fun x y => logI (aL (truthI x) (truthI y))) items0 items1 ai0 ai1 ci0 ci1 lo hi items0.length items1.length W (hI0.below hH.1 hhi) (hI1.below hH.1 hhi) (Nat.le_trans hhi hH.1.size) rfl rfl ma mb (by kernel_rfl)
        (fun i j W' hi' hj' hb' => implClo 97 aL (items0.getD i noI) (items1.getD j noI) gc W' (by kernel_rfl) (fun W => (implAnd3 _ _ W (truth_three _) (truth_three _)).mono (by rintro e w' ⟨rfl, rfl⟩; exact ⟨rfl, Below.refl _ _⟩)) (aL_three _ _) (XA i hi') (XB j hj') (blk_below hb' (heldC_at hH (List.Mem.tail _ (List.Mem.tail _ (List.Mem.head _)))))))
      have CRN := Lib.hid (fun (W : World) (hH : HeldC w W ([(w.heap.size, 31, #[.int .i64 k0, .slice ai0 items0.length ci0, .slice ap0 parts0.length cp0, .slice an0 names0.length cn0, .slice ac0 cls0.length cc0, .slice al0 lev0.length cl0, .int .i64 code0, .int .i64 env0]), ((w.heap.size + 1), 31, #[.int .i64 k1, .slice ai1 items1.length ci1, .slice ap1 parts1.length cp1, .slice an1 names1.length cn1, .slice ac1 cls1.length cc1, .slice al1 lev1.length cl1, .int .i64 code1, .int .i64 env1]), (gc, 60, #[.func (.func 97) #[] #[]])])) => implRecNames k0 names0 ai0 ap0 an0 ac0 al0 items0.length ci0 parts0.length cp0 cn0 cls0.length cc0 lev0.length cl0 code0 env0 k1 names1 ai1 ap1 an1 ac1 al1 items1.length ci1 parts1.length cp1 cn1 cls1.length cc1 lev1.length cl1 code1 env1 lo hi W (hN0.below hH.1 hhi) (hN1.below hH.1 hhi) (Nat.le_trans hhi hH.1.size) ln0 ln1 li0 li1)
      go_upto_region 6 with (fail)
      have KR4 := KR
      have H := Lib.hid (show HeldC w w4 ([(w.heap.size, 31, #[.int .i64 k0, .slice ai0 items0.length ci0, .slice ap0 parts0.length cp0, .slice an0 names0.length cn0, .slice ac0 cls0.length cc0, .slice al0 lev0.length cl0, .int .i64 code0, .int .i64 env0]), ((w.heap.size + 1), 31, #[.int .i64 k1, .slice ai1 items1.length ci1, .slice ap1 parts1.length cp1, .slice an1 names1.length cn1, .slice ac1 cls1.length cc1, .slice al1 lev1.length cl1, .int .i64 code1, .int .i64 env1]), (gc, 60, #[.func (.func 97) #[] #[]])]) from heldC_cons (heldC_cons (heldC_cons ⟨B4.out, (fun _ h => by cases h)⟩ KF.out) KB.out) KA.out)
      refine run_region (ops := (opsOf Try.f17 6)) (S := fun w' => HeldC w w' ([(w.heap.size, 31, #[.int .i64 k0, .slice ai0 items0.length ci0, .slice ap0 parts0.length cp0, .slice an0 names0.length cn0, .slice ac0 cls0.length cc0, .slice al0 lev0.length cl0, .int .i64 code0, .int .i64 env0]), ((w.heap.size + 1), 31, #[.int .i64 k1, .slice ai1 items1.length ci1, .slice ap1 parts1.length cp1, .slice an1 names1.length cn1, .slice ac1 cls1.length cc1, .slice al1 lev1.length cl1, .int .i64 code1, .int .i64 env1]), (gc, 60, #[.func (.func 97) #[] #[]])])) [(0, true), (1, true), (2, true), (3, true), (4, true), (6, true), (7, true), (5, false), (8, false), (9, false), (10, false), (11, true)] (by kernel_rfl) (by kernel_rfl) (by kernel_rfl) (by kernel_rfl) (by kernel_rfl) (fun _ _ _ _ _ h => h) (heldC_drew H.out) ?_
      have H := Lib.hid (heldC_drew H.out)
      have KR := Lib.hid (blk_below (below_drew' (Below.refl _ _)) KR.out)
      refine runC_partV (b := w.heap.size) (by kernel_rfl) (show opAt (opsOf Try.f17 6) 0 = some (some 27, .fieldAddr 31 (.tmp 4) 1, none) from by kernel_rfl) (by kernel_rfl) (by kernel_rfl) (by kernel_rfl) ?_
      refine runC_cell (b := w.heap.size) (j := 1) (v := .slice ai0 items0.length ci0) load_its (show opAt (opsOf Try.f17 6) 1 = some (some 28, .load 28 (.tmp 27), none) from by kernel_rfl) (by kernel_rfl) (by kernel_rfl) (by kernel_rfl) (List.Mem.head _) rfl ?_
      refine runC_partV (b := (w.heap.size + 1)) (by kernel_rfl) (show opAt (opsOf Try.f17 6) 2 = some (some 29, .fieldAddr 31 (.tmp 5) 1, none) from by kernel_rfl) (by kernel_rfl) (by kernel_rfl) (by kernel_rfl) ?_
      refine runC_cell (b := (w.heap.size + 1)) (j := 1) (v := .slice ai1 items1.length ci1) load_its (show opAt (opsOf Try.f17 6) 3 = some (some 30, .load 28 (.tmp 29), none) from by kernel_rfl) (by kernel_rfl) (by kernel_rfl) (by kernel_rfl) (List.Mem.tail _ (List.Mem.head _)) rfl ?_
      refine run_mov (v := .func (.func 58) #[] #[.pointer (some ⟨gc, 0, none⟩)]) (show opAt (opsOf Try.f17 6) 4 = some (some 31, .move (.tmp 11), none) from by kernel_rfl) (by kernel_rfl) (by kernel_rfl) (by kernel_rfl) ?_
      refine runC_vec (b := w.heap.size) (show opAt (opsOf Try.f17 6) 6 = some (some 33, .load 31 (.tmp 4), none) from by kernel_rfl) (by kernel_rfl) (by kernel_rfl) (by kernel_rfl) (List.Mem.head _) ?_
      refine runC_vec (b := (w.heap.size + 1)) (show opAt (opsOf Try.f17 6) 7 = some (some 34, .load 31 (.tmp 5), none) from by kernel_rfl) (by kernel_rfl) (by kernel_rfl) (by kernel_rfl) (List.Mem.tail _ (List.Mem.head _)) ?_
      refine run_call (args := [.slice ai0 items0.length ci0, .slice ai1 items1.length ci1, .func (.func 58) #[] #[.pointer (some ⟨gc, 0, none⟩)]]) (show opAt (opsOf Try.f17 6) 5 = some (some 32, .call { callee := .value (.func 61), args := [(.tmp 28), (.tmp 30), (.tmp 31)].toArray, argTypes := [28, 28, 70].toArray }, none) from by kernel_rfl) (by kernel_rfl) (by kernel_rfl) (by kernel_rfl) (by kernel_rfl) ?_
      refine (CRI.out _ H.out).mono ?_
      rintro en rw1 ⟨vi, rfl, hit⟩
      obtain ⟨si, ni, ci, rfl⟩ := hit.form
      have OI := Lib.hid (own_of_its hit.row)
      have IR0 := Lib.hid hit.below.size
      have KR := Lib.hid (blk_below hit.below KR.out)
      have IR := Lib.hid hit
      refine ⟨_, rfl, heldC_call H.out hit.below, ?_⟩
      have SB := Lib.hid H.out.1.size
      have H := Lib.hid (heldC_call H.out hit.below)
      clear hit
      refine run_call (args := [.agg #[.int .i64 k0, .slice ai0 items0.length ci0, .slice ap0 parts0.length cp0, .slice an0 names0.length cn0, .slice ac0 cls0.length cc0, .slice al0 lev0.length cl0, .int .i64 code0, .int .i64 env0], .agg #[.int .i64 k1, .slice ai1 items1.length ci1, .slice ap1 parts1.length cp1, .slice an1 names1.length cn1, .slice ac1 cls1.length cc1, .slice al1 lev1.length cl1, .int .i64 code1, .int .i64 env1]]) (show opAt (opsOf Try.f17 6) 8 = some (some 35, .call { callee := .value (.func 62), args := [(.tmp 33), (.tmp 34)].toArray, argTypes := [31, 31].toArray }, none) from by kernel_rfl) (by kernel_rfl) (by kernel_rfl) (by kernel_rfl) (by kernel_rfl) ?_
      refine (CRN.out _ H.out).mono ?_
      rintro en rw2 ⟨⟨vn, rfl, hcp⟩, hb⟩
      have CP := Lib.hid hcp
      obtain ⟨sn, nn, cn, rfl⟩ : ∃ s n c, vn = .slice s n c := by obtain ⟨s, c, F, e, _⟩ := hcp; exact ⟨s, _, c, e⟩
      refine ⟨_, rfl, heldC_call H.out hb, ?_⟩
      have BN := Lib.hid hb
      have KR := Lib.hid (blk_below hb KR.out)
      have H := Lib.hid (heldC_call H.out hb)
      clear hcp hb
      refine run_bld (sa := si) (n := ni) (m := ci) (sb := sn) (n' := nn) (m' := cn) (show opAt (opsOf Try.f17 6) 9 = some (some 36, .build 31 #[(0, .const (.int .i64 1)), (1, .tmp 32), (3, .tmp 35)], none) from by kernel_rfl) (by kernel_rfl) (by kernel_rfl) (by kernel_rfl) (by kernel_rfl) H.out ?_
      refine run_store (w' := rw2.setRow (w.heap.size + 1 + 1) #[.int .i64 1, .slice si ni ci, .slice none 0 0, .slice sn nn cn, .slice none 0 0, .slice none 0 0, .int .i64 0, .int .i64 0]) (show opAt (opsOf Try.f17 6) 10 = some (none, .store 31 (.tmp 6) (.tmp 36), none) from by kernel_rfl) (by kernel_rfl) (by kernel_rfl) (by kernel_rfl) (store_vecN KR.out (by simp [Value.oneCell'])) ⟨below_row H.out.1 (show w.heap.size ≤ w.heap.size + 1 + 1 by omega) _, fun q hq => row_old (H.out.2 q hq) (by
        have := GW.out
        rcases List.mem_cons.1 hq with rfl | hq
        · simp only; omega
        rcases List.mem_cons.1 hq with rfl | hq
        · simp only; omega
        · obtain rfl := List.mem_singleton.1 hq
          simp only; omega)⟩ ?_
      refine run_asg (v := .string ⟨#[]⟩) (show opAt (opsOf Try.f17 6) 11 = some (some 7, .assign (.const (.string ⟨#[]⟩)), none) from by kernel_rfl) (by kernel_rfl) (by kernel_rfl) (by kernel_rfl) ?_
      refine run_done ?_
      simp only [putAll, Act.put, List.setIfInBounds_toArray, List.set_cons_zero, List.set_cons_succ]
      have XF := Lib.hid (show lgcV ⟨#[38]⟩ VA VB = mkN 1 (itF (fun i => logI (aL (truthI (items0.getD (i % items0.length) noI)) (truthI (items1.getD (i % items1.length) noI)))) (recN items0.length items1.length)) (namesR (recN items0.length items1.length) names0 names1) from by
        have la : lenV k0 items0.length parts0.length = items0.length := len_counts (by rw [hVA]; exact hv.1) (by rw [hVA]; exact hcc.1)
        have lb : lenV k1 items1.length parts1.length = items1.length := len_counts (by rw [hVB]; exact hv.2) (by rw [hVB]; exact hcc.2)
        have hN : (lgcN VA VB).toNat = recN items0.length items1.length := by rw [← EA.out, ← EB.out]; exact size_rec hnn
        have nA : namesV VA = names0 := by rw [← hVA]; rfl
        have nB : namesV VB = names1 := by rw [← hVB]; rfl
        have hF : (fun i => logI (lgcF ⟨#[38]⟩ VA VB i)) = (fun i => logI (aL (truthI (items0.getD (i % items0.length) noI)) (truthI (items1.getD (i % items1.length) noI)))) := by
          funext i
          unfold lgcF
          rw [conn_and, ← hVA, ← hVB]
          rfl
        rw [XV.out.1, hN, EA.out, EB.out, nA, nB, hF, names_same (by have := FA.h_names; rw [la] at this; exact this) (by have := FB.h_names; rw [lb] at this; exact this)])
      obtain ⟨a', c', Fi, e, o1, n1, r1, c1⟩ := OI.out
      obtain ⟨na, nc, Fn, e2, o2, n2, r2, c2⟩ := CP.out
      simp only [Value.slice.injEq] at e e2
      obtain ⟨rfl, rfl, rfl⟩ := e
      obtain ⟨rfl, rfl, rfl⟩ := e2
      have FIN := Lib.hid (own_pair (k := 1) (o1.kept (fun b hb => BN.out.block b (r1 b hb).2)) n1 r1 c1 o2 n2 r2 c2 (by have := IR0.out; omega) BN.out.size)
      have hr5 : w.heap.size + 1 + 1 < w4.heap.size := (Array.getElem?_eq_some_iff.1 KR4.out).1
      go_wp2
      rw [XF.out, XV.out.2]
      exact vec_ret0S rfl rfl rfl rfl (row_set KR.out) ⟨_, rfl, (by
        obtain ⟨F, q1, q2, q3⟩ := FIN.out.out
        exact ⟨F, q1.kept _ _ _ _ (fun b hb => row_old rfl (by have h9 : w4.heap.size ≤ b := (q3 b hb).1; omega)), q2, fun b hb => ⟨Nat.le_trans (show w.heap.size ≤ w4.heap.size by omega) (q3 b hb).1, Nat.lt_of_lt_of_le (q3 b hb).2 (below_row (Below.refl 0 rw2) (Nat.zero_le _) _).size⟩⟩), below_row H.out.1 (show w.heap.size ≤ w.heap.size + 1 + 1 by omega) _⟩
    · have XX := Lib.hid (lgcV_no (op := ⟨#[38]⟩) (a := VA) (b := VB) (by rw [bB_yes hop]; exact hp))
      obtain ⟨R, hR⟩ : ∃ R, prbB true VA VB nonLogB = R := ⟨_, rfl⟩
      rw [hR] at hp XS ⊢
      have hRb : (R.toList == []) = false := by have h := str_not hp; rw [ByteArray.toList_eq ⟨#[]⟩] at h; exact h
      clear hp hR hop
      obtain ⟨z0, z1, z2, z3, z4, z5, z6, z7⟩ := vec8 KR.out
      obtain ⟨f0, f1, f2, f3, f4, f5, f6, f7⟩ := free8 KR.out
      go_wp2
      rw [XX.out, XS.out]
      exact vec_endS rfl rfl rfl rfl KR.out (zeroS _ w _ (put8_below B4.out (show w.heap.size ≤ w.heap.size + 1 + 1 by omega)))
  · by_cases hor : op = ⟨#[124]⟩
    · subst hor
      have hop : (⟨#[124]⟩ : ByteArray) = andB ∨ (⟨#[124]⟩ : ByteArray) = orB := .inr rfl
      clear hand
      have lk := look_or MP.out
      go_wp2_with fail
      obtain ⟨w3, hw3⟩ : ∃ W, w2.alloc (.cells #[.func (.func 98) #[] #[]] 60) = W := ⟨_, rfl⟩
      have B3 := Lib.hid (show Below w.heap.size w w3 from hw3 ▸ B2.out.alloc B2.out.size _)
      have KF := Lib.hid (show w3.heap[w2.heap.size]? = some (.cells #[.func (.func 98) #[] #[]] 60 (0, 0)) from hw3 ▸ blk_new w2 _ rfl)
      have KA := Lib.hid (show w3.heap[w.heap.size]? = some (.cells #[.int .i64 k0, .slice ai0 items0.length ci0, .slice ap0 parts0.length cp0, .slice an0 names0.length cn0, .slice ac0 cls0.length cc0, .slice al0 lev0.length cl0, .int .i64 code0, .int .i64 env0] 31 (0, 0)) from hw3 ▸ blk_old KA.out)
      have KB := Lib.hid (show w3.heap[w.heap.size + 1]? = some (.cells #[.int .i64 k1, .slice ai1 items1.length ci1, .slice ap1 parts1.length cp1, .slice an1 names1.length cn1, .slice ac1 cls1.length cc1, .slice al1 lev1.length cl1, .int .i64 code1, .int .i64 env1] 31 (0, 0)) from hw3 ▸ blk_old KB.out)
      have KR := Lib.hid (show w3.heap[w.heap.size + 1 + 1]? = some (.cells #[.int .i64 0, .slice none 0 0, .slice none 0 0, .slice none 0 0, .slice none 0 0, .slice none 0 0, .int .i64 0, .int .i64 0] 31 (0, 0)) from hw3 ▸ blk_old KR.out)
      have GW := Lib.hid (show w.heap.size + 1 + 1 < w2.heap.size from hgw2)
      rw [hw3]
      clear hw3 lk
      obtain ⟨gc, hgc⟩ : ∃ g, w2.heap.size = g := ⟨_, rfl⟩
      rw [hgc] at KF GW ⊢
      clear hgc ka0 ka1 ka2 ka3 ka4 ka5 ka6 ka7 kb0 kb1 kb2 kb3 kb4 kb5 kb6 kb7
      obtain ⟨ka0, ka1, ka2, ka3, ka4, ka5, ka6, ka7⟩ := vec8 KA.out
      obtain ⟨kb0, kb1, kb2, kb3, kb4, kb5, kb6, kb7⟩ := vec8 KB.out
      go_wp2_with fail
      refine (PB.out w3 B3.out true).mono ?_
      rintro e w4 ⟨rfl, b⟩
      have B4 := Lib.hid (below_then B3.out b)
      have KA := Lib.hid (blk_below b KA.out)
      have KB := Lib.hid (blk_below b KB.out)
      have KR := Lib.hid (blk_below b KR.out)
      have KF := Lib.hid (blk_below b KF.out)
      clear b ka0 ka1 ka2 ka3 ka4 ka5 ka6 ka7 kb0 kb1 kb2 kb3 kb4 kb5 kb6 kb7
      have XS := Lib.hid (show lgcS ⟨#[124]⟩ VA VB = prbB true VA VB nonLogB by rw [lgcS_prb, bB_yes hop])
      by_cases hp : prbB true VA VB nonLogB = ⟨#[]⟩
      · have OK := Lib.hid (lgcV_ok (op := ⟨#[124]⟩) (a := VA) (b := VB) (by rw [bB_yes hop]; exact hp))
        rw [hp]
        rw [hp] at XS
        obtain ⟨hv, _, hcc, hnn⟩ := OK.out
        have XV := Lib.hid (lgc_yes hv hop hcc hnn)
        have EA := Lib.hid (show itL VA = items0.length by rw [← hVA]; rfl)
        have EB := Lib.hid (show itL VB = items1.length by rw [← hVB]; rfl)
        have ma : items0.length ≤ 40 := by rw [← EA.out]; exact itL_le hv.1 hcc.1
        have mb : items1.length ≤ 40 := by rw [← EB.out]; exact itL_le hv.2 hcc.2
        have XA : ∀ i, i < items0.length → NumIt (items0.getD i noI) := fun i hi => num_at (by rw [hVA]; exact hv.1) (by rw [hVA]; exact hcc.1) hi
        have XB : ∀ i, i < items1.length → NumIt (items1.getD i noI) := fun i hi => num_at (by rw [hVB]; exact hv.2) (by rw [hVB]; exact hcc.2) hi
        have FA : FlatOk k0 items0 parts0.length names0 cls0 lev0 code0 env0 := by have h := hv.1; rw [← hVA] at h; exact h.1.flat
        have FB : FlatOk k1 items1 parts1.length names1 cls1 lev1 code1 env1 := by have h := hv.2; rw [← hVB] at h; exact h.1.flat
        have CRI := Lib.hid (fun (W : World) (hH : HeldC w W ([(w.heap.size, 31, #[.int .i64 k0, .slice ai0 items0.length ci0, .slice ap0 parts0.length cp0, .slice an0 names0.length cn0, .slice ac0 cls0.length cc0, .slice al0 lev0.length cl0, .int .i64 code0, .int .i64 env0]), ((w.heap.size + 1), 31, #[.int .i64 k1, .slice ai1 items1.length ci1, .slice ap1 parts1.length cp1, .slice an1 names1.length cn1, .slice ac1 cls1.length cc1, .slice al1 lev1.length cl1, .int .i64 code1, .int .i64 env1]), (gc, 60, #[.func (.func 98) #[] #[]])])) => implRecIts 58 #[.pointer (some ⟨gc, 0, none⟩)] (fun x y => logI (oL (truthI x) (truthI y))) items0 items1 ai0 ai1 ci0 ci1 lo hi items0.length items1.length W (hI0.below hH.1 hhi) (hI1.below hH.1 hhi) (Nat.le_trans hhi hH.1.size) rfl rfl ma mb (by kernel_rfl)
          (fun i j W' hi' hj' hb' => implClo 98 oL (items0.getD i noI) (items1.getD j noI) gc W' (by kernel_rfl) (fun W => (implOr3 _ _ W (truth_three _) (truth_three _)).mono (by rintro e w' ⟨rfl, rfl⟩; exact ⟨rfl, Below.refl _ _⟩)) (oL_three _ _) (XA i hi') (XB j hj') (blk_below hb' (heldC_at hH (List.Mem.tail _ (List.Mem.tail _ (List.Mem.head _)))))))
        have CRN := Lib.hid (fun (W : World) (hH : HeldC w W ([(w.heap.size, 31, #[.int .i64 k0, .slice ai0 items0.length ci0, .slice ap0 parts0.length cp0, .slice an0 names0.length cn0, .slice ac0 cls0.length cc0, .slice al0 lev0.length cl0, .int .i64 code0, .int .i64 env0]), ((w.heap.size + 1), 31, #[.int .i64 k1, .slice ai1 items1.length ci1, .slice ap1 parts1.length cp1, .slice an1 names1.length cn1, .slice ac1 cls1.length cc1, .slice al1 lev1.length cl1, .int .i64 code1, .int .i64 env1]), (gc, 60, #[.func (.func 98) #[] #[]])])) => implRecNames k0 names0 ai0 ap0 an0 ac0 al0 items0.length ci0 parts0.length cp0 cn0 cls0.length cc0 lev0.length cl0 code0 env0 k1 names1 ai1 ap1 an1 ac1 al1 items1.length ci1 parts1.length cp1 cn1 cls1.length cc1 lev1.length cl1 code1 env1 lo hi W (hN0.below hH.1 hhi) (hN1.below hH.1 hhi) (Nat.le_trans hhi hH.1.size) ln0 ln1 li0 li1)
        go_upto_region 6 with (fail)
        have KR4 := KR
        have H := Lib.hid (show HeldC w w4 ([(w.heap.size, 31, #[.int .i64 k0, .slice ai0 items0.length ci0, .slice ap0 parts0.length cp0, .slice an0 names0.length cn0, .slice ac0 cls0.length cc0, .slice al0 lev0.length cl0, .int .i64 code0, .int .i64 env0]), ((w.heap.size + 1), 31, #[.int .i64 k1, .slice ai1 items1.length ci1, .slice ap1 parts1.length cp1, .slice an1 names1.length cn1, .slice ac1 cls1.length cc1, .slice al1 lev1.length cl1, .int .i64 code1, .int .i64 env1]), (gc, 60, #[.func (.func 98) #[] #[]])]) from heldC_cons (heldC_cons (heldC_cons ⟨B4.out, (fun _ h => by cases h)⟩ KF.out) KB.out) KA.out)
        refine run_region (ops := (opsOf Try.f17 6)) (S := fun w' => HeldC w w' ([(w.heap.size, 31, #[.int .i64 k0, .slice ai0 items0.length ci0, .slice ap0 parts0.length cp0, .slice an0 names0.length cn0, .slice ac0 cls0.length cc0, .slice al0 lev0.length cl0, .int .i64 code0, .int .i64 env0]), ((w.heap.size + 1), 31, #[.int .i64 k1, .slice ai1 items1.length ci1, .slice ap1 parts1.length cp1, .slice an1 names1.length cn1, .slice ac1 cls1.length cc1, .slice al1 lev1.length cl1, .int .i64 code1, .int .i64 env1]), (gc, 60, #[.func (.func 98) #[] #[]])])) [(0, true), (1, true), (2, true), (3, true), (4, true), (6, true), (7, true), (5, false), (8, false), (9, false), (10, false), (11, true)] (by kernel_rfl) (by kernel_rfl) (by kernel_rfl) (by kernel_rfl) (by kernel_rfl) (fun _ _ _ _ _ h => h) (heldC_drew H.out) ?_
        have H := Lib.hid (heldC_drew H.out)
        have KR := Lib.hid (blk_below (below_drew' (Below.refl _ _)) KR.out)
        refine runC_partV (b := w.heap.size) (by kernel_rfl) (show opAt (opsOf Try.f17 6) 0 = some (some 27, .fieldAddr 31 (.tmp 4) 1, none) from by kernel_rfl) (by kernel_rfl) (by kernel_rfl) (by kernel_rfl) ?_
        refine runC_cell (b := w.heap.size) (j := 1) (v := .slice ai0 items0.length ci0) load_its (show opAt (opsOf Try.f17 6) 1 = some (some 28, .load 28 (.tmp 27), none) from by kernel_rfl) (by kernel_rfl) (by kernel_rfl) (by kernel_rfl) (List.Mem.head _) rfl ?_
        refine runC_partV (b := (w.heap.size + 1)) (by kernel_rfl) (show opAt (opsOf Try.f17 6) 2 = some (some 29, .fieldAddr 31 (.tmp 5) 1, none) from by kernel_rfl) (by kernel_rfl) (by kernel_rfl) (by kernel_rfl) ?_
        refine runC_cell (b := (w.heap.size + 1)) (j := 1) (v := .slice ai1 items1.length ci1) load_its (show opAt (opsOf Try.f17 6) 3 = some (some 30, .load 28 (.tmp 29), none) from by kernel_rfl) (by kernel_rfl) (by kernel_rfl) (by kernel_rfl) (List.Mem.tail _ (List.Mem.head _)) rfl ?_
        refine run_mov (v := .func (.func 58) #[] #[.pointer (some ⟨gc, 0, none⟩)]) (show opAt (opsOf Try.f17 6) 4 = some (some 31, .move (.tmp 11), none) from by kernel_rfl) (by kernel_rfl) (by kernel_rfl) (by kernel_rfl) ?_
        refine runC_vec (b := w.heap.size) (show opAt (opsOf Try.f17 6) 6 = some (some 33, .load 31 (.tmp 4), none) from by kernel_rfl) (by kernel_rfl) (by kernel_rfl) (by kernel_rfl) (List.Mem.head _) ?_
        refine runC_vec (b := (w.heap.size + 1)) (show opAt (opsOf Try.f17 6) 7 = some (some 34, .load 31 (.tmp 5), none) from by kernel_rfl) (by kernel_rfl) (by kernel_rfl) (by kernel_rfl) (List.Mem.tail _ (List.Mem.head _)) ?_
        refine run_call (args := [.slice ai0 items0.length ci0, .slice ai1 items1.length ci1, .func (.func 58) #[] #[.pointer (some ⟨gc, 0, none⟩)]]) (show opAt (opsOf Try.f17 6) 5 = some (some 32, .call { callee := .value (.func 61), args := [(.tmp 28), (.tmp 30), (.tmp 31)].toArray, argTypes := [28, 28, 70].toArray }, none) from by kernel_rfl) (by kernel_rfl) (by kernel_rfl) (by kernel_rfl) (by kernel_rfl) ?_
        refine (CRI.out _ H.out).mono ?_
        rintro en rw1 ⟨vi, rfl, hit⟩
        obtain ⟨si, ni, ci, rfl⟩ := hit.form
        have OI := Lib.hid (own_of_its hit.row)
        have IR0 := Lib.hid hit.below.size
        have KR := Lib.hid (blk_below hit.below KR.out)
        have IR := Lib.hid hit
        refine ⟨_, rfl, heldC_call H.out hit.below, ?_⟩
        have SB := Lib.hid H.out.1.size
        have H := Lib.hid (heldC_call H.out hit.below)
        clear hit
        refine run_call (args := [.agg #[.int .i64 k0, .slice ai0 items0.length ci0, .slice ap0 parts0.length cp0, .slice an0 names0.length cn0, .slice ac0 cls0.length cc0, .slice al0 lev0.length cl0, .int .i64 code0, .int .i64 env0], .agg #[.int .i64 k1, .slice ai1 items1.length ci1, .slice ap1 parts1.length cp1, .slice an1 names1.length cn1, .slice ac1 cls1.length cc1, .slice al1 lev1.length cl1, .int .i64 code1, .int .i64 env1]]) (show opAt (opsOf Try.f17 6) 8 = some (some 35, .call { callee := .value (.func 62), args := [(.tmp 33), (.tmp 34)].toArray, argTypes := [31, 31].toArray }, none) from by kernel_rfl) (by kernel_rfl) (by kernel_rfl) (by kernel_rfl) (by kernel_rfl) ?_
        refine (CRN.out _ H.out).mono ?_
        rintro en rw2 ⟨⟨vn, rfl, hcp⟩, hb⟩
        have CP := Lib.hid hcp
        obtain ⟨sn, nn, cn, rfl⟩ : ∃ s n c, vn = .slice s n c := by obtain ⟨s, c, F, e, _⟩ := hcp; exact ⟨s, _, c, e⟩
        refine ⟨_, rfl, heldC_call H.out hb, ?_⟩
        have BN := Lib.hid hb
        have KR := Lib.hid (blk_below hb KR.out)
        have H := Lib.hid (heldC_call H.out hb)
        clear hcp hb
        refine run_bld (sa := si) (n := ni) (m := ci) (sb := sn) (n' := nn) (m' := cn) (show opAt (opsOf Try.f17 6) 9 = some (some 36, .build 31 #[(0, .const (.int .i64 1)), (1, .tmp 32), (3, .tmp 35)], none) from by kernel_rfl) (by kernel_rfl) (by kernel_rfl) (by kernel_rfl) (by kernel_rfl) H.out ?_
        refine run_store (w' := rw2.setRow (w.heap.size + 1 + 1) #[.int .i64 1, .slice si ni ci, .slice none 0 0, .slice sn nn cn, .slice none 0 0, .slice none 0 0, .int .i64 0, .int .i64 0]) (show opAt (opsOf Try.f17 6) 10 = some (none, .store 31 (.tmp 6) (.tmp 36), none) from by kernel_rfl) (by kernel_rfl) (by kernel_rfl) (by kernel_rfl) (store_vecN KR.out (by simp [Value.oneCell'])) ⟨below_row H.out.1 (show w.heap.size ≤ w.heap.size + 1 + 1 by omega) _, fun q hq => row_old (H.out.2 q hq) (by
          have := GW.out
          rcases List.mem_cons.1 hq with rfl | hq
          · simp only; omega
          rcases List.mem_cons.1 hq with rfl | hq
          · simp only; omega
          · obtain rfl := List.mem_singleton.1 hq
            simp only; omega)⟩ ?_
        refine run_asg (v := .string ⟨#[]⟩) (show opAt (opsOf Try.f17 6) 11 = some (some 7, .assign (.const (.string ⟨#[]⟩)), none) from by kernel_rfl) (by kernel_rfl) (by kernel_rfl) (by kernel_rfl) ?_
        refine run_done ?_
        simp only [putAll, Act.put, List.setIfInBounds_toArray, List.set_cons_zero, List.set_cons_succ]
        have XF := Lib.hid (show lgcV ⟨#[124]⟩ VA VB = mkN 1 (itF (fun i => logI (oL (truthI (items0.getD (i % items0.length) noI)) (truthI (items1.getD (i % items1.length) noI)))) (recN items0.length items1.length)) (namesR (recN items0.length items1.length) names0 names1) from by
          have la : lenV k0 items0.length parts0.length = items0.length := len_counts (by rw [hVA]; exact hv.1) (by rw [hVA]; exact hcc.1)
          have lb : lenV k1 items1.length parts1.length = items1.length := len_counts (by rw [hVB]; exact hv.2) (by rw [hVB]; exact hcc.2)
          have hN : (lgcN VA VB).toNat = recN items0.length items1.length := by rw [← EA.out, ← EB.out]; exact size_rec hnn
          have nA : namesV VA = names0 := by rw [← hVA]; rfl
          have nB : namesV VB = names1 := by rw [← hVB]; rfl
          have hF : (fun i => logI (lgcF ⟨#[124]⟩ VA VB i)) = (fun i => logI (oL (truthI (items0.getD (i % items0.length) noI)) (truthI (items1.getD (i % items1.length) noI)))) := by
            funext i
            unfold lgcF
            rw [conn_or (by decide), ← hVA, ← hVB]
            rfl
          rw [XV.out.1, hN, EA.out, EB.out, nA, nB, hF, names_same (by have := FA.h_names; rw [la] at this; exact this) (by have := FB.h_names; rw [lb] at this; exact this)])
        obtain ⟨a', c', Fi, e, o1, n1, r1, c1⟩ := OI.out
        obtain ⟨na, nc, Fn, e2, o2, n2, r2, c2⟩ := CP.out
        simp only [Value.slice.injEq] at e e2
        obtain ⟨rfl, rfl, rfl⟩ := e
        obtain ⟨rfl, rfl, rfl⟩ := e2
        have FIN := Lib.hid (own_pair (k := 1) (o1.kept (fun b hb => BN.out.block b (r1 b hb).2)) n1 r1 c1 o2 n2 r2 c2 (by have := IR0.out; omega) BN.out.size)
        have hr5 : w.heap.size + 1 + 1 < w4.heap.size := (Array.getElem?_eq_some_iff.1 KR4.out).1
        go_wp2
        rw [XF.out, XV.out.2]
        exact vec_ret0S rfl rfl rfl rfl (row_set KR.out) ⟨_, rfl, (by
          obtain ⟨F, q1, q2, q3⟩ := FIN.out.out
          exact ⟨F, q1.kept _ _ _ _ (fun b hb => row_old rfl (by have h9 : w4.heap.size ≤ b := (q3 b hb).1; omega)), q2, fun b hb => ⟨Nat.le_trans (show w.heap.size ≤ w4.heap.size by omega) (q3 b hb).1, Nat.lt_of_lt_of_le (q3 b hb).2 (below_row (Below.refl 0 rw2) (Nat.zero_le _) _).size⟩⟩), below_row H.out.1 (show w.heap.size ≤ w.heap.size + 1 + 1 by omega) _⟩
      · have XX := Lib.hid (lgcV_no (op := ⟨#[124]⟩) (a := VA) (b := VB) (by rw [bB_yes hop]; exact hp))
        obtain ⟨R, hR⟩ : ∃ R, prbB true VA VB nonLogB = R := ⟨_, rfl⟩
        rw [hR] at hp XS ⊢
        have hRb : (R.toList == []) = false := by have h := str_not hp; rw [ByteArray.toList_eq ⟨#[]⟩] at h; exact h
        clear hp hR hop
        obtain ⟨z0, z1, z2, z3, z4, z5, z6, z7⟩ := vec8 KR.out
        obtain ⟨f0, f1, f2, f3, f4, f5, f6, f7⟩ := free8 KR.out
        go_wp2
        rw [XX.out, XS.out]
        exact vec_endS rfl rfl rfl rfl KR.out (zeroS _ w _ (put8_below B4.out (show w.heap.size ≤ w.heap.size + 1 + 1 by omega)))
    · have hop : ¬ (op = andB ∨ op = orB) := fun h => h.elim hand hor
      have f1 : (op == (⟨#[38]⟩ : ByteArray)) = false := bytes_ne hand
      have f2 : (op == (⟨#[124]⟩ : ByteArray)) = false := bytes_ne hor
      have lk := run_look_no (P := Try.prog) (s := op) (z := .nilFunc) Try.underlying62 Try.underlying9 MP.out (by simp [opTab, Instr.findNow, Instr.sameNow, f1, f2]) (by kernel_rfl)
      go_wp2_with fail
      obtain ⟨w3, hw3⟩ : ∃ W, w2.alloc (.cells #[.nilFunc] 60) = W := ⟨_, rfl⟩
      have B3 := Lib.hid (show Below w.heap.size w w3 from hw3 ▸ B2.out.alloc B2.out.size _)
      have KR := Lib.hid (show w3.heap[w.heap.size + 1 + 1]? = some (.cells #[.int .i64 0, .slice none 0 0, .slice none 0 0, .slice none 0 0, .slice none 0 0, .slice none 0 0, .int .i64 0, .int .i64 0] 31 (0, 0)) from hw3 ▸ blk_old KR.out)
      rw [hw3]
      clear hw3 lk
      refine (PB.out w3 B3.out false).mono ?_
      rintro e w4 ⟨rfl, b⟩
      have B4 := Lib.hid (below_then B3.out b)
      have KR := Lib.hid (blk_below b KR.out)
      clear b ka0 ka1 ka2 ka3 ka4 ka5 ka6 ka7 kb0 kb1 kb2 kb3 kb4 kb5 kb6 kb7
      have XS := Lib.hid (show lgcS op VA VB = prbB false VA VB nonLogB by rw [lgcS_prb, bB_no hop])
      have hp : prbB false VA VB nonLogB ≠ ⟨#[]⟩ := by
        unfold prbB
        cases bB (ValidV VA ∧ ValidV VB)
        · exact (by decide : badB ≠ ⟨#[]⟩)
        · exact (by decide : unkB ≠ ⟨#[]⟩)
      have XX := Lib.hid (lgcV_no (op := op) (a := VA) (b := VB) (by rw [bB_no hop]; exact hp))
      obtain ⟨R, hR⟩ : ∃ R, prbB false VA VB nonLogB = R := ⟨_, rfl⟩
      rw [hR] at hp XS ⊢
      have hRb : (R.toList == []) = false := by have h := str_not hp; rw [ByteArray.toList_eq ⟨#[]⟩] at h; exact h
      clear hp hR hop
      obtain ⟨z0, z1, z2, z3, z4, z5, z6, z7⟩ := vec8 KR.out
      obtain ⟨f0, f1, f2, f3, f4, f5, f6, f7⟩ := free8 KR.out
      go_wp2
      rw [XX.out, XS.out]
      exact vec_endS rfl rfl rfl rfl KR.out (zeroS _ w _ (put8_below B4.out (show w.heap.size ≤ w.heap.size + 1 + 1 by omega)))
end Go.Proofs.Ytlnjjjoeblopeaa

/- The problem of one operand, in the program; an item that is appended. -/
namespace Go.Proofs.Ytlnjjjoeblopeaa
open Go.RowKit
set_option maxRecDepth 100000
set_option linter.unusedVariables false

/-- An item that is appended to a local slice, where the region does not draw its order. -/
theorem wpList_appIt {w0 w : World} {ops : Array Oper} {rest : List Oper} {o : Oper} {a : Act} {Q : Exit → Act → World → Prop} (hgd : o.guard = none) (s x : Operand)
    (ho : o.op = .call { callee := .builtin .append, args := #[s, x], argTypes := #[28, 28] }) (z : It) (l : List It) (v0 : Value) (b : Nat) (hs : a.eval s = v0) (hx : a.eval x = .slice (some ⟨b, 0, none⟩) 1 1)
    (hr : ItR w0 w l v0) (hb : w.heap[b]? = some (.cells #[.int .i64 z.n, .int .i64 z.d, .string z.t] 66 (0, 0))) (hn : l.length ≤ 1048576)
    (h : ∀ v' w', ItR w0 w' (l ++ [z]) v' → wpList Try.prog ops Q rest (a.put o.dst v') w') : wpList Try.prog ops Q (o :: rest) a w := by
  obtain ⟨i0, hi0, hz0, hz1, hz2⟩ := info_parts infoItm3
  refine wpList_append_own w hgd s x 28 ho w0.heap.size 66 i0 _ 3 32 Try.underlying28 hi0 hz0 hz1 hz2 rfl (by decide) v0 l.length (itCells l) hs hr.row ⟨b, 0, none⟩ 1 1 (itCells [z]) hx rfl (fun j u hj => ?_) (itCells_one _) (by unfold maxLen; omega) (by omega) hr.below.size (fun v' w' h1 h2 _ => ?_)
  · have hlt : j < 3 := by have := (List.getElem?_eq_some_iff.1 hj).1; simpa [itCells] using this
    rw [addr_add, Nat.zero_add]
    refine cellOf hb ?_
    rw [← hj]
    rcases (show j = 0 ∨ j = 1 ∨ j = 2 by omega) with rfl | rfl | rfl <;> rfl
  · have e1 : l.length + 1 = (l ++ [z]).length := by simp
    have e2 : itCells l ++ itCells [z] = itCells (l ++ [z]) := (itCells_app l [z]).symm
    rw [e1, e2] at h1
    exact h v' w' ⟨h1, hr.below.grown h2 hr.below.size (fun r hr' => (hr.row.lt r hr').1)⟩
theorem implPrb1 (d : Nat) (v : Vec) (val : Value) (u : ByteArray) (lo hi : Nat) (w : World) (hv : VecAt lo hi w d v val) (hhi : hi ≤ w.heap.size) (hsm : Small d v) :
    Calls Try.prog 73 #[val, .string u] w fun e w' => e = .returned (.string (smyS u v)) ∧ Below w.heap.size w w' := by
  have C1 := Lib.hid (fun (w1 : World) (hb : Below w.heap.size w w1) => implIsVector d v val lo hi w1 (hv.below hb hhi) (Nat.le_trans hhi hb.size) hsm)
  obtain ⟨VV, hVV⟩ : ∃ V, v = V := ⟨_, rfl⟩
  rw [hVV] at C1 ⊢
  obtain ⟨kk, items, parts, names, cls, levels, code, env⟩ := v
  obtain ⟨d', ai, ci, ap, cp, an, cn, ac, cc, al, cl, ed, rfl, hI, hN, hC, hL, hP⟩ := vecAt_open hv
  have XC : Counts VV ↔ (kk ≤ 2 ∧ levels.length = 0) := by rw [← hVV]; exact Iff.rfl
  clear hv hI hN hC hL hP hsm ed hVV
  go_enter Try.func73, Try.ntmps73
  go_wp2_with fail
  obtain ⟨w1, hw1⟩ : ∃ W, w.alloc (.cells #[.int .i64 kk, .slice ai items.length ci, .slice ap parts.length cp, .slice an names.length cn, .slice ac cls.length cc, .slice al levels.length cl, .int .i64 code, .int .i64 env] 31) = W := ⟨_, rfl⟩
  have B1 := Lib.hid (show Below w.heap.size w w1 from hw1 ▸ below1 w _)
  have KA := Lib.hid (show w1.heap[w.heap.size]? = some (.cells #[.int .i64 kk, .slice ai items.length ci, .slice ap parts.length cp, .slice an names.length cn, .slice ac cls.length cc, .slice al levels.length cl, .int .i64 code, .int .i64 env] 31 (0, 0)) from hw1 ▸ blk_new w _ rfl)
  rw [hw1]
  clear hw1
  with_reducible refine (C1.out _ B1.out).mono ?_
  rintro e w2 ⟨rfl, b⟩
  have B2 := Lib.hid (below_then B1.out b)
  have KA2 := Lib.hid (blk_below b KA.out)
  clear b
  obtain ⟨k0, k1, k2, k3, k4, k5, k6, k7⟩ := vec8 KA2.out
  by_cases q : ValidV VV
  · rw [bB_yes q]
    by_cases hc : Counts VV
    · have XS := Lib.hid (smy_yes q hc (fun _ => noI) false u).2.1
      have HC := XC.1 hc
      have CO := Lib.hid (fun W => implCountsY kk ai ap an ac al items.length ci parts.length cp names.length cn cls.length cc levels.length cl code env W HC.1 HC.2)
      clear q hc HC XC
      go_wp2_with fail
      with_reducible refine (CO.out _).mono ?_
      rintro e w3 ⟨rfl, b⟩
      have B3 := Lib.hid (below_then B2.out b)
      clear b
      go_wp2
      go_ret
      exact ⟨by rw [XS.out]; rfl, B3.out⟩
    · have XS := Lib.hid (smy_non q hc (fun _ => noI) false u).2.1
      have CO := Lib.hid (fun W => implCountsN kk ai ap an ac al items.length ci parts.length cp names.length cn cls.length cc levels.length cl code env W (fun h => hc (XC.2 h)))
      clear q hc XC
      go_wp2_with fail
      with_reducible refine (CO.out _).mono ?_
      rintro e w3 ⟨rfl, b⟩
      have B3 := Lib.hid (below_then B2.out b)
      clear b
      go_wp2
      go_ret
      exact ⟨by rw [XS.out]; rfl, B3.out⟩
  · rw [bB_no q]
    have XS := Lib.hid (smy_bad q (fun _ => noI) false u).2.1
    clear q XC
    go_wp2
    go_ret
    exact ⟨by rw [XS.out]; rfl, B2.out⟩
end Go.Proofs.Ytlnjjjoeblopeaa

/- Chapter 6 in the program: what a summary is made of, folds. -/
namespace Go.Proofs.Ytlnjjjoeblopeaa
open Go.RowKit
set_option maxRecDepth 100000
set_option linter.unusedVariables false

theorem keep_no {x : It} (h : NumIt x) (hd : x.d = 0) : keepI true x = false := by unfold keepI; simp [hd]
theorem keep_yes {x : It} (hd : ¬ x.d = 0) : keepI true x = true := by unfold keepI; simp [hd]
set_option maxHeartbeats 2000000 in
theorem implKnown (l : List It) (sa : Option Addr) (c lo hi : Nat) (w : World) (hI : ItemsAt lo hi w sa l) (hhi : hi ≤ w.heap.size) (hn : l.length ≤ 1048576) (hx : ∀ i, i < l.length → NumIt (l.getD i noI)) :
    Calls Try.prog 138 #[.slice sa l.length c] w fun e w' => ∃ v, e = .returned v ∧ ItR w w' (pickL true l) v := by
  have AI := Lib.hid (fun (k : Nat) (w1 : World) (hk : k < l.length) (hb : Below w.heap.size w w1) => (hI.below hb hhi).at_ hk)
  have XI := Lib.hid hx
  have TY := Lib.hid (fun k (hk : k < l.length) h => pickL_yes (drop := true) hk h)
  have TS := Lib.hid (fun k (hk : k < l.length) h => pickL_skip (drop := true) hk h)
  have TF := Lib.hid (show pickL true (l.take l.length) = pickL true l by rw [List.take_length])
  obtain ⟨n, hn'⟩ : ∃ n, l.length = n := ⟨_, rfl⟩
  rw [hn'] at AI XI TY TS TF hn ⊢
  have ST := Lib.hid (show ItR w w (pickL true (l.take 0)) (.slice none 0 0) from by rw [pickL_zero]; exact ⟨⟨rfl, .inl ⟨rfl, rfl⟩⟩, Below.refl _ _⟩)
  clear hn' hI hx
  go_enter Try.func138, Try.ntmps138
  go_wp2
  go_loopw [3, 8] (fun v i wr => ∃ k : Nat, k ≤ n ∧ i = .int .i64 k ∧ ItR w wr (pickL true (l.take k)) v) (fun _ i _ => n - (intOf i).toNat)
  case atStart => exact ⟨0, Nat.zero_le _, rfl, ST.out⟩
  case round =>
    obtain ⟨k, hk, rfl, hir⟩ := hrel
    have IR := Lib.hid hir
    clear hir
    by_cases hlt : k < n
    · obtain ⟨ba, off, rfl, hbB, c0, c1, c2⟩ := AI.out _ _ hlt IR.out.below
      have hbw : ba < wr.heap.size := Nat.lt_of_lt_of_le (Nat.lt_of_lt_of_le hbB hhi) IR.out.below.size
      have hxn := XI.out k hlt
      have hxt : txtI l k = ⟨#[]⟩ := hxn.t
      rw [hxt] at c2
      obtain ⟨⟨xn, xd, xt⟩, hx⟩ : ∃ x : It, l.getD k noI = x := ⟨_, rfl⟩
      rw [hx] at hxn
      obtain rfl : xt = ⟨#[]⟩ := hxn.t
      simp only [hx] at c0 c1
      by_cases hd : xd = 0
      · have NX := Lib.hid (TS.out k hlt (by rw [hx]; exact keep_no hxn hd))
        obtain ⟨rfl, rfl⟩ : xn = 0 ∧ xd = 0 := by have := hxn.z hd; exact ⟨congrArg It.n this, hd⟩
        have IN := Lib.hid (NX.out ▸ IR.out.keep (below1 wr (.cells #[.int .i64 0, .int .i64 0, .string ⟨#[]⟩] 66)))
        clear hx hd hxn hxt
        go_wp2
        go_roundw
        case rel => exact ⟨k + 1, by omega, by go_num, IN.out⟩
        case measure => simp [intOf]; omega
      · have NX := Lib.hid (TY.out k hlt (by rw [hx]; exact keep_yes hd))
        have hdb : (xd == 0) = false := beq_eq_false_iff_ne.2 hd
        have LN := Lib.hid (show (pickL true (l.take k)).length ≤ 1048576 by have := pickL_kept true l k; omega)
        rw [hx] at NX
        obtain ⟨w2, hw2⟩ : ∃ W, wr.alloc (.cells #[.int .i64 xn, .int .i64 xd, .string ⟨#[]⟩] 66) = W := ⟨_, rfl⟩
        have IR2 := Lib.hid (show ItR w w2 (pickL true (l.take k)) _ from hw2 ▸ IR.out.keep (below1 wr (.cells #[.int .i64 xn, .int .i64 xd, .string ⟨#[]⟩] 66)))
        have ES := Lib.hid (show wr.heap.size + 1 = w2.heap.size from hw2 ▸ (by simp))
        have EW := Lib.hid hw2
        clear hx hd hxn hxt hw2
        go_wp2_with (at_builtin; go_loud (rw [EW.out]; refine wpList_appIt rfl _ _ rfl ⟨xn, xd, ⟨#[]⟩⟩ (pickL true (l.take k)) _ _ rfl rfl (IR2.out.keep (below1 w2 _)) (blk_new w2 _ ES.out) LN.out ?_))
        intro v' w3 hir
        have IN := Lib.hid (NX.out ▸ hir)
        clear hir
        go_wp2
        go_roundw
        case rel => exact ⟨k + 1, by omega, by go_num, IN.out⟩
        case measure => simp [intOf]; omega
    · obtain rfl : k = n := by omega
      have IN := Lib.hid (TF.out ▸ IR.out)
      go_wp2
      go_ret
      exact ⟨_, rfl, IN.out⟩
/-- The elements of which a summary is made, as summarizedItems answers them. -/
def TakenI (drop : Bool) (u : ByteArray) (v : Vec) (w : World) (e : Ending) (w' : World) : Prop :=
  ∃ (sa : Option Addr) (n c : Nat), e = .returned (.tuple #[.slice sa n c, .string (smyS u v)]) ∧ n = (smyL drop v).length ∧ ItemsAt 0 w'.heap.size w' sa (smyL drop v) ∧ Below w.heap.size w w'
theorem items_nil (lo hi : Nat) (w : World) (a : Option Addr) : ItemsAt lo hi w a [] := fun i x h => by cases h
theorem ItR.items {w wr : World} {l : List It} {v : Value} (h : ItR w wr l v) : ∃ sa c, v = .slice sa l.length c ∧ ItemsAt w.heap.size wr.heap.size wr sa l := by
  obtain ⟨a, c, Fi, rfl, ho, hn, hr, hc⟩ := own_of_its h.row
  exact ⟨a, c, rfl, ho.at_ (fun b hb => hr b hb)⟩
set_option maxHeartbeats 2000000 in
theorem implTaken (d : Nat) (v : Vec) (val : Value) (drop : Bool) (u : ByteArray) (hu : ¬ u = ⟨#[]⟩) (lo hi : Nat) (w : World) (hv : VecAt lo hi w d v val) (hhi : hi ≤ w.heap.size) (hsm : Small d v) :
    Calls Try.prog 93 #[val, .bool drop, .string u] w (TakenI drop u v w) := by
  have CP := Lib.hid (fun (w1 : World) (hb : Below w.heap.size w w1) => implPrb1 d v val u lo hi w1 (hv.below hb hhi) (Nat.le_trans hhi hb.size) hsm)
  obtain ⟨VV, hVV⟩ : ∃ V, v = V := ⟨_, rfl⟩
  rw [hVV] at CP ⊢
  obtain ⟨kk, items, parts, names, cls, levels, code, env⟩ := v
  obtain ⟨d', ai, ci, ap, cp, an, cn, ac, cc, al, cl, ed, rfl, hI, hN, hC, hL, hP⟩ := vecAt_open hv
  have li : items.length ≤ 1048576 := by subst ed; exact hsm.1
  have XN := Lib.hid (fun (h : ValidV VV) (hc : Counts VV) (i : Nat) (hi : i < items.length) => (by rw [← hVV] at h hc; exact num_at h hc hi : NumIt (items.getD i noI)))
  have XE := Lib.hid (show itemsV VV = items by rw [← hVV]; rfl)
  have AT := Lib.hid (fun (w1 : World) (hb : Below w.heap.size w w1) => hI.below hb hhi)
  clear hv hI hN hC hL hP hsm ed hVV
  go_enter Try.func93, Try.ntmps93
  go_wp2_with fail
  obtain ⟨w1, hw1⟩ : ∃ W, w.alloc (.cells #[.int .i64 kk, .slice ai items.length ci, .slice ap parts.length cp, .slice an names.length cn, .slice ac cls.length cc, .slice al levels.length cl, .int .i64 code, .int .i64 env] 31) = W := ⟨_, rfl⟩
  have B1 := Lib.hid (show Below w.heap.size w w1 from hw1 ▸ below1 w _)
  have KA := Lib.hid (show w1.heap[w.heap.size]? = some (.cells #[.int .i64 kk, .slice ai items.length ci, .slice ap parts.length cp, .slice an names.length cn, .slice ac cls.length cc, .slice al levels.length cl, .int .i64 code, .int .i64 env] 31 (0, 0)) from hw1 ▸ blk_new w _ rfl)
  rw [hw1]
  clear hw1
  with_reducible refine (CP.out _ B1.out).mono ?_
  rintro e w2 ⟨rfl, b⟩
  have B2 := Lib.hid (below_then B1.out b)
  have KA2 := Lib.hid (blk_below b KA.out)
  clear b
  obtain ⟨k0, k1, k2, k3, k4, k5, k6, k7⟩ := vec8 KA2.out
  by_cases hs : smyS u VV = ⟨#[]⟩
  · have HV : ValidV VV ∧ Counts VV := by
      by_cases q : ValidV VV
      · by_cases hc : Counts VV
        · exact ⟨q, hc⟩
        · rw [(smy_non q hc (fun _ => noI) drop u).2.1] at hs; exact absurd hs hu
      · rw [(smy_bad q (fun _ => noI) drop u).2.1] at hs; exact absurd hs (by decide)
    have XL := Lib.hid (show smyL drop VV = pickL drop items by rw [(smy_yes HV.1 HV.2 (fun _ => noI) drop u).1, XE.out])
    have XI := Lib.hid (XN.out HV.1 HV.2)
    have XS := Lib.hid hs
    rw [hs]
    clear HV hs XN
    cases drop with
    | true =>
      have CK := Lib.hid (fun (w1 : World) (hb : Below w.heap.size w w1) => implKnown items ai ci lo hi w1 (AT.out w1 hb) (Nat.le_trans hhi hb.size) li XI.out)
      go_wp2_with fail
      with_reducible refine (CK.out _ B2.out).mono ?_
      rintro e w3 ⟨v, rfl, hir⟩
      obtain ⟨sa, c, rfl, hit⟩ := hir.items
      have B3 := Lib.hid (below_then B2.out hir.below)
      have IT := Lib.hid hit
      clear hir hit
      go_wp2
      go_ret2
      exact ⟨sa, _, c, by rw [XS.out]; rfl, by rw [XL.out], by rw [XL.out]; exact IT.out.wide (Nat.zero_le _) (Nat.le_refl _), B3.out⟩
    | false =>
      have IT := Lib.hid (AT.out w2 B2.out)
      rw [pickL_no] at XL
      have B2s := B2.out.size
      go_wp2
      go_ret2
      exact ⟨ai, _, ci, by rw [XS.out]; rfl, by rw [XL.out], by rw [XL.out]; exact IT.out.wide (Nat.zero_le _) (by omega), B2.out⟩
  · have XL := Lib.hid (show smyL drop VV = [] by
      by_cases q : ValidV VV
      · by_cases hc : Counts VV
        · exact absurd (smy_yes q hc (fun _ => noI) drop u).2.1 hs
        · exact (smy_non q hc (fun _ => noI) drop u).1
      · exact (smy_bad q (fun _ => noI) drop u).1)
    obtain ⟨R, hR⟩ : ∃ R, smyS u VV = R := ⟨_, rfl⟩
    have XS := Lib.hid hR
    rw [hR] at hs ⊢
    have hRb : (R.toList == []) = false := by have h := str_not hs; rw [ByteArray.toList_eq ⟨#[]⟩] at h; exact h
    clear hs hR
    go_wp2
    go_ret2
    exact ⟨none, 0, 0, by rw [XS.out]; rfl, by rw [XL.out]; rfl, by rw [XL.out]; exact items_nil _ _ _ _, B2.out⟩
set_option maxHeartbeats 2000000 in
/-- A fold of items, for any function's value. -/
theorem implFold (fid : FuncId) (cap : Array Value) (G : It → It → It) (P : It → Prop) (l : List It) (s : It) (sa : Option Addr) (c lo hi : Nat) (w : World) (hI : ItemsAt lo hi w sa l) (hhi : hi ≤ w.heap.size) (hn : l.length ≤ 1048576) (hgo : callsGo Try.prog fid = true)
    (hG : ∀ x i W, P x → i < l.length → Below w.heap.size w W → Calls Try.prog fid (#[] ++ #[.agg #[.int .i64 x.n, .int .i64 x.d, .string x.t], .agg #[.int .i64 (l.getD i noI).n, .int .i64 (l.getD i noI).d, .string (l.getD i noI).t]] ++ cap) W fun e w' => e = .returned (.agg #[.int .i64 (G x (l.getD i noI)).n, .int .i64 (G x (l.getD i noI)).d, .string (G x (l.getD i noI)).t]) ∧ Below W.heap.size W w')
    (hs : P s) (hP : ∀ x i, P x → i < l.length → P (G x (l.getD i noI))) :
    Calls Try.prog 132 #[.slice sa l.length c, .agg #[.int .i64 s.n, .int .i64 s.d, .string s.t], .func (.func fid) #[] cap] w fun e w' => e = .returned (.agg #[.int .i64 (l.foldl G s).n, .int .i64 (l.foldl G s).d, .string (l.foldl G s).t]) ∧ Below w.heap.size w w' := by
  have AI := Lib.hid (fun (k : Nat) (w1 : World) (hk : k < l.length) (hb : Below w.heap.size w w1) => (hI.below hb hhi).at_ hk)
  have CG := Lib.hid hG
  have PG := Lib.hid hP
  have F0 := Lib.hid (show P ((l.take 0).foldl G s) by rw [fold_zero]; exact hs)
  have E0 := Lib.hid (fold_zero G s l)
  have FS := Lib.hid (fun k (hk : k < l.length) => fold_one G s hk)
  have FF := Lib.hid (fold_full G s l)
  have GO := Lib.hid hgo
  obtain ⟨n, hn'⟩ : ∃ n, l.length = n := ⟨_, rfl⟩
  rw [hn'] at AI CG PG FS FF hn ⊢
  obtain ⟨Z, hZ⟩ : ∃ Z, l.foldl G s = Z := ⟨_, rfl⟩
  rw [hZ] at FF ⊢
  obtain ⟨f, hf⟩ : ∃ f : Nat → It, (fun k => (l.take k).foldl G s) = f := ⟨_, rfl⟩
  have hfk : ∀ k, (l.take k).foldl G s = f k := fun k => by rw [← hf]
  rw [hfk] at F0 E0 FF
  have FS := Lib.hid (fun k (hk : k < n) => (by rw [← hfk, ← hfk]; exact FS.out k hk : f (k + 1) = G (f k) (l.getD k noI)))
  clear hn' hI hG hP hs hgo hZ hf hfk
  go_enter Try.func132, Try.ntmps132
  go_wp2
  go_loopw [13] (fun i wr => ∃ k : Nat, k ≤ n ∧ i = .int .i64 k ∧ P (f k) ∧ Below w.heap.size w wr ∧ wr.heap[w.heap.size + 1]? = some (.cells #[.int .i64 0, .int .i64 0, .string ⟨#[]⟩] 66 (0, 0)) ∧ wr.heap[w.heap.size + 1 + 1]? = some (.cells #[.int .i64 (f k).n, .int .i64 (f k).d, .string (f k).t] 66 (0, 0))) (fun i _ => n - (intOf i).toNat)
  case atStart =>
    refine ⟨0, Nat.zero_le _, rfl, F0.out, below3 w _ _ _, ?_, ?_⟩
    · exact blk_old (blk_new _ _ (by simp))
    · rw [E0.out]; exact blk_new _ _ (by simp)
  case round =>
    obtain ⟨k, hk, rfl, hp, hb, hz, hf⟩ := hrel
    have BB := Lib.hid hb
    have PK := Lib.hid hp
    have KZ := Lib.hid hz
    have KF := Lib.hid hf
    clear hb hp hz hf
    by_cases hlt : k < n
    · obtain ⟨ba, off, rfl, hbB, c0, c1, c2'⟩ := AI.out _ _ hlt BB.out
      have hbw : ba < wr.heap.size := Nat.lt_of_lt_of_le (Nat.lt_of_lt_of_le hbB hhi) BB.out.size
      have c2 : wr.cell? ⟨ba, off + k * 3 + 2, none⟩ = some (.string (l.getD k noI).t) := c2'
      clear c2'
      have CO := Lib.hid (fun W hB => CG.out (f k) k W PK.out hlt hB)
      have PN := Lib.hid (by rw [FS.out k hlt]; exact PG.out (f k) k PK.out hlt : P (f (k + 1)))
      have NX := Lib.hid (FS.out k hlt)
      obtain ⟨x, hx⟩ : ∃ x, l.getD k noI = x := ⟨_, rfl⟩
      rw [hx] at c0 c1 c2 CO NX
      clear hx
      have hzr := (Array.getElem?_eq_some_iff.1 KF.out).1
      go_upto_region 5 with (fail)
      obtain ⟨w5, hw5⟩ : ∃ W, wr.alloc (.cells #[.int .i64 x.n, .int .i64 x.d, .string x.t] 66) = W := ⟨_, rfl⟩
      have B5 := Lib.hid (show Below w.heap.size w w5 from hw5 ▸ BB.out.alloc BB.out.size _)
      have KX := Lib.hid (show w5.heap[wr.heap.size]? = some (.cells #[.int .i64 x.n, .int .i64 x.d, .string x.t] 66 (0, 0)) from hw5 ▸ blk_new wr _ rfl)
      have KZ := Lib.hid (show w5.heap[w.heap.size + 1]? = some (.cells #[.int .i64 0, .int .i64 0, .string ⟨#[]⟩] 66 (0, 0)) from hw5 ▸ blk_old KZ.out)
      have KF := Lib.hid (show w5.heap[w.heap.size + 1 + 1]? = some (.cells #[.int .i64 (f k).n, .int .i64 (f k).d, .string (f k).t] 66 (0, 0)) from hw5 ▸ blk_old KF.out)
      rw [hw5]
      clear hw5
      obtain ⟨gx, hgx⟩ : ∃ g, wr.heap.size = g := ⟨_, rfl⟩
      rw [hgx] at KX hzr ⊢
      clear hgx
      have H := Lib.hid (show HeldC w w5 ([(gx, 66, #[.int .i64 x.n, .int .i64 x.d, .string x.t]), ((w.heap.size + 1 + 1), 66, #[.int .i64 ((f k).n), .int .i64 ((f k).d), .string (f k).t]), ((w.heap.size + 1), 66, #[.int .i64 0, .int .i64 0, .string ⟨#[]⟩])]) from heldC_cons (heldC_cons (heldC_cons ⟨B5.out, (fun _ h => by cases h)⟩ KZ.out) KF.out) KX.out)
      refine run_region_seq (ops := (opsOf Try.f132 5)) (S := fun w' => HeldC w w' ([(gx, 66, #[.int .i64 x.n, .int .i64 x.d, .string x.t]), ((w.heap.size + 1 + 1), 66, #[.int .i64 ((f k).n), .int .i64 ((f k).d), .string (f k).t]), ((w.heap.size + 1), 66, #[.int .i64 0, .int .i64 0, .string ⟨#[]⟩])])) [(0, true), (1, true), (2, true), (3, false), (4, false)] (by kernel_rfl) (by kernel_rfl) (by kernel_rfl) H.out ?_
      refine run_mov (v := .func (.func fid) #[] cap) (show opAt (opsOf Try.f132 5) 0 = some (some 17, .move (.tmp 2), none) from by kernel_rfl) (by kernel_rfl) (by kernel_rfl) (by kernel_rfl) ?_
      refine runC_itm (b := (w.heap.size + 1 + 1)) (show opAt (opsOf Try.f132 5) 1 = some (some 18, .load 66 (.tmp 7), none) from by kernel_rfl) (by kernel_rfl) (by kernel_rfl) (by kernel_rfl) (List.Mem.tail _ (List.Mem.head _)) ?_
      refine runC_itm (b := gx) (show opAt (opsOf Try.f132 5) 2 = some (some 19, .load 66 (.tmp 9), none) from by kernel_rfl) (by kernel_rfl) (by kernel_rfl) (by kernel_rfl) (List.Mem.head _) ?_
      refine run_callv (f := fid) (first := #[]) (cap := cap) (args := [.agg #[.int .i64 ((f k).n), .int .i64 ((f k).d), .string (f k).t], .agg #[.int .i64 x.n, .int .i64 x.d, .string x.t]]) (show opAt (opsOf Try.f132 5) 3 = some (some 20, .call { callee := .value (.tmp 17), args := [(.tmp 18), (.tmp 19)].toArray, argTypes := [66, 66].toArray }, none) from by kernel_rfl) (by kernel_rfl) (by kernel_rfl) (by kernel_rfl) GO.out (by kernel_rfl) ?_
      refine (CO.out _ H.out.1).mono ?_
      rintro en rw1 ⟨rfl, hb⟩
      refine ⟨_, rfl, heldC_call H.out hb, ?_⟩
      have H := Lib.hid (heldC_call H.out hb)
      clear hb
      refine run_last (by kernel_rfl) (show opAt (opsOf Try.f132 5) 4 = some (none, .store 66 (.tmp 7) (.tmp 20), none) from by kernel_rfl) (by kernel_rfl) (by kernel_rfl) (by kernel_rfl) (store_item (u := .int .i64 (G (f k) x).n) (v := .int .i64 (G (f k) x).d) (q := .string (G (f k) x).t) (heldC_at H.out (List.Mem.tail _ (List.Mem.head _))) rfl rfl rfl) ?_
      refine run_done ?_
      simp only [putAll, Act.put, List.setIfInBounds_toArray, List.set_cons_zero, List.set_cons_succ]
      have HZ := Lib.hid (heldC_at H.out (List.Mem.tail _ (List.Mem.tail _ (List.Mem.head _))))
      have HF := Lib.hid (heldC_at H.out (List.Mem.tail _ (List.Mem.head _)))
      have HB := Lib.hid H.out.1
      go_wp2
      go_roundw
      case rel => exact ⟨k + 1, by omega, by go_num, PN.out, below_row HB.out (show w.heap.size ≤ w.heap.size + 1 + 1 by omega) _, row_old HZ.out (by omega), by rw [NX.out]; exact row_set HF.out⟩
      case measure => simp [intOf]; omega
    · obtain rfl : k = n := by omega
      have KF := Lib.hid (FF.out ▸ KF.out)
      obtain ⟨⟨z0, z1, z2⟩, f0, f1, f2⟩ := three KZ.out
      obtain ⟨⟨y0, y1, y2⟩, _⟩ := three KF.out
      go_wp2
      exact item_ret rfl rfl rfl KZ.out ⟨rfl, below_three BB.out (by omega) _ _ _⟩
end Go.Proofs.Ytlnjjjoeblopeaa

/- An answer of one number, in the reference. -/
namespace Go.Proofs.Ytlnjjjoeblopeaa
open Go.RowKit
set_option maxRecDepth 100000
set_option linter.unusedVariables false

set_option maxHeartbeats 1000000 in
theorem specOne6 (z : It) (w : World) : Calls Try.prog 81 #[.agg #[.int .i64 z.n, .int .i64 z.d, .string z.t]] w (ResV 1 (vecOf 2 [z]) w) := by
  obtain ⟨w3, hw3⟩ : ∃ W, ((w.alloc (.cells #[.int .i64 z.n, .int .i64 z.d, .string z.t] 66)).alloc (.cells #[.int .i64 2, .slice (some ⟨w.heap.size + 1 + 1, 0, none⟩) 1 1, .slice none 0 0, .slice none 0 0, .slice none 0 0, .slice none 0 0, .int .i64 0, .int .i64 0] 31)).alloc (.cells #[.int .i64 z.n, .int .i64 z.d, .string z.t] 66) = W := ⟨_, rfl⟩
  have hsz1 : (w.alloc (.cells #[.int .i64 z.n, .int .i64 z.d, .string z.t] 66)).heap.size = w.heap.size + 1 := by simp
  have hsz2 : ((w.alloc (.cells #[.int .i64 z.n, .int .i64 z.d, .string z.t] 66)).alloc (.cells #[.int .i64 2, .slice (some ⟨w.heap.size + 1 + 1, 0, none⟩) 1 1, .slice none 0 0, .slice none 0 0, .slice none 0 0, .slice none 0 0, .int .i64 0, .int .i64 0] 31)).heap.size = w.heap.size + 1 + 1 := by simp
  have B3 := Lib.hid (show Below w.heap.size w w3 from hw3 ▸ below3 w _ _ _)
  have KR := Lib.hid (show w3.heap[w.heap.size + 1]? = some (.cells #[.int .i64 2, .slice (some ⟨w.heap.size + 1 + 1, 0, none⟩) 1 1, .slice none 0 0, .slice none 0 0, .slice none 0 0, .slice none 0 0, .int .i64 0, .int .i64 0] 31 (0, 0)) from by rw [← hw3]; exact blk_old (blk_new _ _ hsz1.symm))
  have KZ := Lib.hid (show w3.heap[w.heap.size + 1 + 1]? = some (.cells #[.int .i64 z.n, .int .i64 z.d, .string z.t] 66 (0, 0)) from by rw [← hw3]; exact blk_new _ _ hsz2.symm)
  have EW := Lib.hid hw3
  clear hsz1 hsz2 hw3
  go_enter Try.func81, Try.ntmps81
  go_wp2
  rw [EW.out]
  have hz3 := (Array.getElem?_eq_some_iff.1 KZ.out).1
  exact vec_ret0 rfl rfl rfl KR.out ⟨_, rfl, (own_one (k := 2) KZ.out).wide (by omega) (by omega), B3.out⟩
end Go.Proofs.Ytlnjjjoeblopeaa
