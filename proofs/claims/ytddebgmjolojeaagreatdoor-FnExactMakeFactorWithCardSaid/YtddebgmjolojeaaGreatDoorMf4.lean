/- The codes of a vector's elements: the reference. -/
import Derived.Test.YtddebgmjolojeaaGreatDoorRows
import Derived.Test.YtddebgmjolojeaaGreatDoorMf3
import Derived.Test.YtddebgmjolojeaaGreatDoorMf2
import Derived.Test.YtddebgmjolojeaaGreatDoorMf1
import Derived.WalkKit
import Derived.OwnWalk
import Derived.Deep.DeepCutAuto
import Derived.Lib.Hide
namespace Go.Proofs.YtddebgmjolojeaaGreatDoor
open Go.RowKit
set_option maxRecDepth 100000
set_option linter.unusedVariables false

theorem cell_below {w w' : World} {b j : Nat} {u : Value} (hb : Below w.heap.size w w') (hlt : b < w.heap.size) (h : w.cell? ⟨b, j, none⟩ = some u) : w'.cell? ⟨b, j, none⟩ = some u := (hb.cell hlt).trans h
theorem field_txt {w : World} {z : It} : (Instr.field 62 (.agg #[.int .i64 z.n, .int .i64 z.d, .string z.t]) 2).run Tryz.prog w = .ok (.string z.t) w := by
  kernel_rfl
theorem cnv_d {k j : Int} {x : It} (h : ItOk k x) : (x.d = 0 → (cnvI k j x).d = 0) ∧ (¬ x.d = 0 → ¬ (cnvI k j x).d = 0) := by
  refine ⟨fun e => by rw [cnv_same (.inr (.inr e))]; exact e, fun e => ?_⟩
  unfold cnvI
  split
  · exact e
  · split
    · exact (by decide : ¬ (1 : Int) = 0)
    · exact (by decide : ¬ (1 : Int) = 0)
section
variable {ops : Array Oper} {Q : Exit → Act → World → Prop} {S : World → Prop}
variable {r : List (Nat × Bool)} {a : Act} {e : List (Nat × Value)} {w : World} {i d : Nat} {g : Option (Nat × Bool)}
/-- The text of an item. -/
theorem run_fldT {z : It} {x : Operand} (ho : opAt ops i = some (some d, .field 62 x 2, g)) (hd : Nat.blt d a.tmps.size = true) (hw : wantE ops a e g = some true) (hx : lookO a e x = .agg #[.int .i64 z.n, .int .i64 z.d, .string z.t])
    (h : RunE Tryz.prog ops Q S r a ((d, .string z.t) :: e) w) : RunE Tryz.prog ops Q S ((i, true) :: r) a e w :=
  run_yield ho hd hw (fun o w' h1 _ => by
    unfold execOp; rw [h1]
    simp only [hx]
    exact run_v field_txt) h
end
/-- A vector whose items have been appended to, but not yet stored. -/
structure AppM (w w0 wr : World) (b : Nat) (kind : Int) (l : List It) (sa : Option Addr) (sn sc : Nat) (sa' : Option Addr) (sn' sc' : Nat) (na : Option Addr) (nn nc : Nat) : Prop where
  vec : wr.heap[b]? = some (.cells #[.int .i64 kind, .slice sa sn sc, .slice none 0 0, .slice na nn nc, .slice none 0 0, .slice none 0 0, .int .i64 0, .int .i64 0] 32 (0, 0))
  row : wr.ownsRow w0.heap.size 62 3 (.slice sa' sn' sc') l.length (itCells l)
  kept : ∀ g, g < w0.heap.size → g ≠ b → wr.heap[g]? = w0.heap[g]?
  size : w0.heap.size ≤ wr.heap.size
  below : Below w.heap.size w wr
  lt : b < w0.heap.size
  ge : w.heap.size ≤ b
theorem AppM.store {w w0 wr : World} {b : Nat} {kind : Int} {l : List It} {sa sa' : Option Addr} {sn sc sn' sc' : Nat} {na : Option Addr} {nn nc : Nat} (h : AppM w w0 wr b kind l sa sn sc sa' sn' sc' na nn nc) : AppK w w0 (wr.setCell ⟨b, 1, none⟩ (.slice sa' sn' sc')) b kind l sa' sn' sc' na nn nc := by
  have hk : ∀ g, g ≠ b → (wr.setCell ⟨b, 1, none⟩ (.slice sa' sn' sc')).heap[g]? = wr.heap[g]? := fun g hg => Below.heap_setCell _ _ _ _ hg
  refine ⟨?_, ownsRow_kept h.row (fun j hj => hk j (by have := (h.row.lt j hj).1; have := h.lt; omega)), fun g hg hn => (hk g hn).trans (h.kept g hg hn), by have := h.size; simp; exact this, h.below.setCell (show w.heap.size ≤ b from h.ge) _, h.lt, h.ge⟩
  exact blk_set (i := 1) h.vec _
theorem wpList_appK {w w0 wr : World} {b : Nat} {kind : Int} {l : List It} {sa : Option Addr} {sn sc : Nat} {na : Option Addr} {nn nc : Nat} {ops : Array Oper} {rest : List Oper} {o : Oper} {a : Act} {Q : Exit → Act → World → Prop} (hgd : o.guard = none) (s x : Operand)
    (ho : o.op = .call { callee := .builtin .append, args := #[s, x], argTypes := #[29, 29] }) (z : It) (h : AppK w w0 wr b kind l sa sn sc na nn nc) (g : Nat) (hs : a.eval s = .slice sa sn sc) (hx : a.eval x = .slice (some ⟨g, 0, none⟩) 1 1)
    {W : World} (hW : W = wr.alloc (.cells #[.int .i64 z.n, .int .i64 z.d, .string z.t] 62)) (hg : g = wr.heap.size) (hn : l.length ≤ 1048576)
    (hK : ∀ sa' sn' sc' w', AppM w w0 w' b kind (l ++ [z]) sa sn sc sa' sn' sc' na nn nc → wpList Tryz.prog ops Q rest (a.put o.dst (.slice sa' sn' sc')) w') : wpList Tryz.prog ops Q (o :: rest) a W := by
  obtain ⟨i0, hi0, hz0, hz1, hz2⟩ := info_parts infoItm3
  have h' := h.keep (hW ▸ below1 wr _ : Below wr.heap.size wr W)
  have hb : W.heap[g]? = some (.cells #[.int .i64 z.n, .int .i64 z.d, .string z.t] 62 (0, 0)) := by rw [hW]; exact blk_new _ _ hg
  refine wpList_append_own W hgd s x 29 ho w0.heap.size 62 i0 _ 3 32 Tryz.underlying29 hi0 hz0 hz1 hz2 rfl (by decide) _ l.length (itCells l) hs h'.row ⟨g, 0, none⟩ 1 1 (itCells [z]) hx rfl (fun j u hj => ?_) (itCells_one _) (by unfold maxLen; omega) (by omega) h'.size (fun v' w' h1 h2 _ => ?_)
  · have hlt : j < 3 := by have := (List.getElem?_eq_some_iff.1 hj).1; simpa [itCells] using this
    rw [addr_add, Nat.zero_add]
    exact cellOf hb (by simpa [itCells] using hj)
  · have h1' : w'.ownsRow w0.heap.size 62 3 v' (l ++ [z]).length (itCells (l ++ [z])) := by rw [itCells_app, List.length_append]; exact h1
    obtain ⟨sa', sn', e⟩ : ∃ sa' sn' , ∃ sc', v' = .slice sa' sn' sc' := by
      obtain ⟨a', c', _, e, _⟩ := own_of_its h1'
      exact ⟨a', _, c', e⟩
    obtain ⟨sc', rfl⟩ := e
    have far : ∀ k, (Value.slice sa sn sc).ownBlock = some k → w0.heap.size ≤ k := fun k hk => (h'.row.lt k hk).1
    refine hK sa' sn' sc' w' ⟨(h2.block b (Nat.lt_of_lt_of_le h'.lt h'.size) (fun e => by have := far b e.symm; have := h'.lt; omega)).trans h'.vec, h1', fun k hk hne => (h2.block k (Nat.lt_of_lt_of_le hk h'.size) (fun e => by have := far k e.symm; omega)).trans (h'.kept k hk hne), Nat.le_trans h'.size h2.size, h'.below.grown h2 h'.below.size (fun r hr => by have := far r hr; have := h'.lt; have := h'.ge; omega), h'.lt, h'.ge⟩
set_option maxHeartbeats 8000000 in
theorem specCodes (d : Nat) (kk : Int) (items : List It) (parts : List Vec) (names cls levels : List ByteArray) (code env : Int) (val : Value) (lo hi : Nat) (w : World) (hv : VecAt lo hi w d (.mk kk items parts names cls levels code env) val) (hhi : hi ≤ w.heap.size) (ok : AtmOk kk items levels) (la : Option Addr) (lc : Nat) (lv : List ByteArray) (hT : TextsAt lo hi w la lv) (hlen : lv.length ≤ 1048576) :
    Calls Tryz.prog 44 #[val, .slice la lv.length lc] w (ResV 1 (vecOf 2 (codL lv (txsL kk items levels))) w) := by
  have CP := Lib.hid (fun (W : World) (hb : Below w.heap.size w W) => specPlain d kk items parts names cls levels code env val lo hi W (hv.below hb hhi) (Nat.le_trans hhi hb.size) ok)
  obtain ⟨d', ai, ci, ap, cp, an, cn, ac, cc, al, cl, ed, rfl, hI, hN, hC, hL, hP⟩ := vecAt_open hv
  have CF := Lib.hid (fun (W : World) (hb : Below w.heap.size w W) (s : ByteArray) => (by exact specFindAt s la lv.length lc (txtS lv) hi W (hT.below hb hhi).strs (by omega) : Calls Tryz.prog 59 #[.slice la lv.length lc, .string s] W fun e w' => e = .returned (.int .i64 (atF lv s)) ∧ W = w'))
  have XV := Lib.hid (show vecOf 2 (codL lv (txsL kk items levels)) = mkN 2 (itF (fun i => codI lv (cnvI (plnK kk levels) 3 ((plnL levels items).getD i noI))) items.length) [] from by
    unfold codL
    rw [txsL_len]; show vecOf 2 _ = vecOf 2 _; congr 1; unfold itF; exact List.map_congr_left (fun i hi => by rw [txsL, cnvL_at (by rw [plnL_len]; exact List.mem_range.1 hi)]))
  obtain ⟨RV, hRV⟩ : ∃ y, vecOf 2 (codL lv (txsL kk items levels)) = y := ⟨_, rfl⟩
  rw [hRV] at XV ⊢
  have hpk := ok.pk
  have PI := Lib.hid (fun (i : Nat) (hi : i < items.length) => ok.pln hi)
  have hl := ok.len
  have hXl := plnL_len levels items
  obtain ⟨X, hX⟩ : ∃ X, plnL levels items = X := ⟨_, rfl⟩
  obtain ⟨K, hK⟩ : ∃ K, plnK kk levels = K := ⟨_, rfl⟩
  rw [hX] at CP XV PI hXl
  rw [hK] at CP XV PI hpk
  have NL := Lib.hid (fun W n => specNum2 n W)
  have ZI := Lib.hid (fun s => atF_in lv s)
  obtain ⟨nl, hnl⟩ : ∃ nl, lv.length = nl := ⟨_, rfl⟩
  rw [hnl] at CF ZI hlen ⊢
  clear hv hI hN hC hL hP ed hX hK hT hnl hRV ok
  go_enter Tryz.func44, Tryz.ntmps44
  go_wp2_with fail
  obtain ⟨w1, hw1⟩ : ∃ W, ((w.alloc (.cells #[.int .i64 kk, .slice ai items.length ci, .slice ap parts.length cp, .slice an names.length cn, .slice ac cls.length cc, .slice al levels.length cl, .int .i64 code, .int .i64 env] 32)).alloc (.cells #[.int .i64 0, .slice none 0 0, .slice none 0 0, .slice none 0 0, .slice none 0 0, .slice none 0 0, .int .i64 0, .int .i64 0] 32)).alloc (.cells #[.int .i64 2, .slice none 0 0, .slice none 0 0, .slice none 0 0, .slice none 0 0, .slice none 0 0, .int .i64 0, .int .i64 0] 32) = W := ⟨_, rfl⟩
  have hsz : (w.alloc (.cells #[.int .i64 kk, .slice ai items.length ci, .slice ap parts.length cp, .slice an names.length cn, .slice ac cls.length cc, .slice al levels.length cl, .int .i64 code, .int .i64 env] 32)).heap.size = w.heap.size + 1 := by simp
  have hsz2 : ((w.alloc (.cells #[.int .i64 kk, .slice ai items.length ci, .slice ap parts.length cp, .slice an names.length cn, .slice ac cls.length cc, .slice al levels.length cl, .int .i64 code, .int .i64 env] 32)).alloc (.cells #[.int .i64 0, .slice none 0 0, .slice none 0 0, .slice none 0 0, .slice none 0 0, .slice none 0 0, .int .i64 0, .int .i64 0] 32)).heap.size = w.heap.size + 1 + 1 := by simp
  have B1 := Lib.hid (show Below w.heap.size w w1 from hw1 ▸ ((below1 w _).alloc (by simp) _).alloc (by simp; omega) _)
  have KR := Lib.hid (show w1.heap[w.heap.size + 1]? = some (.cells #[.int .i64 0, .slice none 0 0, .slice none 0 0, .slice none 0 0, .slice none 0 0, .slice none 0 0, .int .i64 0, .int .i64 0] 32 (0, 0)) from hw1 ▸ blk_old (hsz ▸ blk_new (w.alloc (.cells #[.int .i64 kk, .slice ai items.length ci, .slice ap parts.length cp, .slice an names.length cn, .slice ac cls.length cc, .slice al levels.length cl, .int .i64 code, .int .i64 env] 32)) (.cells #[.int .i64 0, .slice none 0 0, .slice none 0 0, .slice none 0 0, .slice none 0 0, .slice none 0 0, .int .i64 0, .int .i64 0] 32) rfl))
  have KB := Lib.hid (show w1.heap[w.heap.size + 1 + 1]? = some (.cells #[.int .i64 2, .slice none 0 0, .slice none 0 0, .slice none 0 0, .slice none 0 0, .slice none 0 0, .int .i64 0, .int .i64 0] 32 (0, 0)) from hw1 ▸ hsz2 ▸ blk_new ((w.alloc (.cells #[.int .i64 kk, .slice ai items.length ci, .slice ap parts.length cp, .slice an names.length cn, .slice ac cls.length cc, .slice al levels.length cl, .int .i64 code, .int .i64 env] 32)).alloc (.cells #[.int .i64 0, .slice none 0 0, .slice none 0 0, .slice none 0 0, .slice none 0 0, .slice none 0 0, .int .i64 0, .int .i64 0] 32)) (.cells #[.int .i64 2, .slice none 0 0, .slice none 0 0, .slice none 0 0, .slice none 0 0, .slice none 0 0, .int .i64 0, .int .i64 0] 32) rfl)
  have Z1 := Lib.hid (show w1.heap.size = w.heap.size + 1 + 1 + 1 from hw1 ▸ (by simp))
  rw [hw1]
  clear hw1 hsz hsz2
  with_reducible refine (CP.out _ B1.out).mono ?_
  rintro e w3 ⟨y, rfl, ho, b⟩
  have hv3 := ho.vatL (Nat.le_refl _) (Nat.le_refl _)
  obtain ⟨d3, bi, di, bp, dp, bn, dn, bc, dc, bl, dl, ed, rfl, hI, _⟩ := vecAt_open (show VecAt w1.heap.size w3.heap.size w3 1 (.mk K X [] [] [] [] 0 0) y from hv3)
  rw [hXl]
  have HX := Lib.hid hI
  have B3 := Lib.hid (below_then B1.out b)
  have S3 := Lib.hid b.size
  have KR := Lib.hid (blk_below b KR.out)
  have KB := Lib.hid (blk_below b KB.out)
  clear b hv3 ed hI ho CP
  simp only [List.length_nil]
  obtain ⟨n, hn⟩ : ∃ n, items.length = n := ⟨_, rfl⟩
  rw [hn] at hl PI XV hXl ⊢
  clear hn
  obtain ⟨w0, hw0⟩ : ∃ W, w3.alloc (.cells #[.int .i64 K, .slice bi n di, .slice bp 0 dp, .slice bn 0 dn, .slice bc 0 dc, .slice bl 0 dl, .int .i64 0, .int .i64 0] 32) = W := ⟨_, rfl⟩
  have b0 : Below w3.heap.size w3 w0 := hw0 ▸ below1 w3 _
  have KY := Lib.hid (show w0.heap[w3.heap.size]? = some (.cells #[.int .i64 K, .slice bi n di, .slice bp 0 dp, .slice bn 0 dn, .slice bc 0 dc, .slice bl 0 dl, .int .i64 0, .int .i64 0] 32 (0, 0)) from hw0 ▸ blk_new w3 _ rfl)
  have B0 := Lib.hid (below_then B3.out b0)
  have KR := Lib.hid (blk_below b0 KR.out)
  have KB := Lib.hid (blk_below b0 KB.out)
  have HX := Lib.hid (HX.out.below b0 (Nat.le_refl _))
  have S0 := Lib.hid b0.size
  have EW0 := Lib.hid hw0
  clear b0 hw0
  go_wp2
  rw [EW0.out]
  obtain ⟨yb, hyb⟩ : ∃ yb, w3.heap.size = yb := ⟨_, rfl⟩
  have hS3 := S3.out
  have hS0 := S0.out
  have hZ1 := Z1.out
  rw [hyb] at KY HX hS3 hS0 ⊢
  obtain ⟨b, hb⟩ : ∃ b, w.heap.size + 1 + 1 = b := ⟨_, rfl⟩
  rw [hb] at KB ⊢
  have hyl := (Array.getElem?_eq_some_iff.1 KY.out).1
  have hby : b < yb := by omega
  have hrb : w.heap.size + 1 < b := by omega
  have hwb : w.heap.size ≤ b := by omega
  have hb1 : b < w1.heap.size := by omega
  clear hyb EW0 S3 S0 Z1
  have ST := Lib.hid (show AppK w w0 w0 b 2 (itF (fun i => codI lv (cnvI K 3 (X.getD i noI))) 0) none 0 0 none 0 0 from AppK.start KB.out B0.out hwb)
  have AI := Lib.hid (fun (k : Nat) (wr : World) (hk : k < n) (hk' : ∀ g, g < w0.heap.size → g ≠ b → wr.heap[g]? = w0.heap[g]?) => HX.out.loopK (.inl (by omega)) (by omega) hk' (by rw [hXl]; exact hk))
  have CI := Lib.hid (fun (k : Nat) (hk : k < n) (wr : World) (W : World) (hb : Below wr.heap.size wr W) => specCnv K 3 (X.getD k noI) W (PI.out k hk) hpk.1 hpk.2.1 (Int.le_refl _))
  have OKZ := Lib.hid (fun (k : Nat) (hk : k < n) => cnv_ok (j := 3) (PI.out k hk) hpk.2.1 (Int.le_refl _))
  have DZ := Lib.hid (fun (k : Nat) (hk : k < n) => cnv_d (j := 3) (PI.out k hk))
  clear HX PI hpk hb
  go_loopw [7] (fun i wr => ∃ (k : Nat) (sa : Option Addr) (sn sc : Nat), k ≤ n ∧ i = .int .i64 k ∧ AppK w w0 wr b 2 (itF (fun i => codI lv (cnvI K 3 (X.getD i noI))) k) sa sn sc none 0 0) (fun i _ => n - (intOf i).toNat)
  case atStart => exact ⟨0, none, 0, 0, Nat.zero_le _, rfl, ST.out⟩
  case round =>
    obtain ⟨k, sa, sn, sc, hk, rfl, hap⟩ := hrel
    have AP := Lib.hid hap
    have KYr := Lib.hid (hap.blk KY.out (by omega))
    clear hap
    obtain ⟨y0, y1, y2, y3, y4, y5, y6, y7⟩ := vec8 KYr.out
    by_cases hlt : k < n
    · obtain ⟨ba, off, rfl, hbB, c0, c1, c2⟩ := AI.out k wr hlt AP.out.kept
      have CK := Lib.hid (fun W hb => CI.out k hlt wr W hb)
      have OZ := Lib.hid (OKZ.out k hlt)
      have DK := DZ.out k hlt
      have NX := Lib.hid (itF_succ (fun i => codI lv (cnvI K 3 (X.getD i noI))) k)
      obtain ⟨y, hy⟩ : ∃ y : It, cnvI K 3 (X.getD k noI) = y := ⟨_, rfl⟩
      rw [hy] at CK NX OZ DK
      obtain ⟨x, hx⟩ : ∃ x : It, X.getD k noI = x := ⟨_, rfl⟩
      rw [hx] at c0 c1 c2 CK DK
      have C0 := Lib.hid c0
      have C1 := Lib.hid c1
      have C2 := Lib.hid c2
      have LN := Lib.hid (show (itF (fun i => codI lv (cnvI K 3 (X.getD i noI))) k).length ≤ 1048576 by rw [itF_len]; omega)
      have hbw : ba < wr.heap.size := Nat.lt_of_lt_of_le hbB AP.out.size
      clear hx hy c0 c1 c2
      go_wp2
      have H := Lib.hid (show HeldC wr wr ([(yb, 32, #[.int .i64 K, .slice (some ⟨ba, off, none⟩) n di, .slice bp 0 dp, .slice bn 0 dn, .slice bc 0 dc, .slice bl 0 dl, .int .i64 0, .int .i64 0])]) from ⟨Below.refl _ _, fun q hq => by obtain rfl := List.mem_singleton.1 hq; exact KYr.out⟩)
      refine run_region (ops := (opsOf Tryz.f44 6)) (S := fun w' => HeldC wr w' ([(yb, 32, #[.int .i64 K, .slice (some ⟨ba, off, none⟩) n di, .slice bp 0 dp, .slice bn 0 dn, .slice bc 0 dc, .slice bl 0 dl, .int .i64 0, .int .i64 0])])) [(0, true), (1, true), (2, true), (3, true), (4, true), (5, true), (6, true), (7, true), (8, false), (9, true), (10, false), (11, true)] (by kernel_rfl) (by kernel_rfl) (by kernel_rfl) (by kernel_rfl) (by kernel_rfl) (fun _ _ _ _ _ h => h) (heldC_drew H.out) ?_
      have H := Lib.hid (heldC_drew H.out)
      have AP := Lib.hid (AP.out.keep (below_drew' (Below.refl _ _)))
      refine run_mov (v := .slice la nl lc) (show opAt (opsOf Tryz.f44 6) 0 = some (some 19, .move (.tmp 1), none) from by kernel_rfl) (by kernel_rfl) (by kernel_rfl) (by kernel_rfl) ?_
      refine runC_partV (b := yb) (by kernel_rfl) (show opAt (opsOf Tryz.f44 6) 1 = some (some 20, .fieldAddr 32 (.tmp 6) 0, none) from by kernel_rfl) (by kernel_rfl) (by kernel_rfl) (by kernel_rfl) ?_
      refine runC_cell (b := yb) (j := 0) (v := .int .i64 K) load_int (show opAt (opsOf Tryz.f44 6) 2 = some (some 21, .load 3 (.tmp 20), none) from by kernel_rfl) (by kernel_rfl) (by kernel_rfl) (by kernel_rfl) (List.Mem.head _) rfl ?_
      refine runC_partV (b := yb) (by kernel_rfl) (show opAt (opsOf Tryz.f44 6) 3 = some (some 22, .fieldAddr 32 (.tmp 6) 1, none) from by kernel_rfl) (by kernel_rfl) (by kernel_rfl) (by kernel_rfl) ?_
      refine runC_cell (b := yb) (j := 1) (v := .slice (some ⟨ba, off, none⟩) n di) load_its (show opAt (opsOf Tryz.f44 6) 4 = some (some 23, .load 29 (.tmp 22), none) from by kernel_rfl) (by kernel_rfl) (by kernel_rfl) (by kernel_rfl) (List.Mem.head _) rfl ?_
      refine run_mov (v := .int .i64 (k : Int)) (show opAt (opsOf Tryz.f44 6) 5 = some (some 24, .move (.tmp 7), none) from by kernel_rfl) (by kernel_rfl) (by kernel_rfl) (by kernel_rfl) ?_
      refine run_idx3 (n := n) (c := di) (b := ba) (off := off) (k := k) (show opAt (opsOf Tryz.f44 6) 6 = some (some 25, .indexAddr 29 (.tmp 23) (.tmp 24), none) from by kernel_rfl) (by kernel_rfl) (by kernel_rfl) (by kernel_rfl) (by kernel_rfl) hlt ?_
      refine runC_oldI (b := ba) (j := off + k * 3) (z := x) (show opAt (opsOf Tryz.f44 6) 7 = some (some 26, .load 62 (.tmp 25), none) from by kernel_rfl) (by kernel_rfl) (by kernel_rfl) (by kernel_rfl) hbw C0.out C1.out C2.out ?_
      refine run_call (args := [.int .i64 K, .int .i64 3, .agg #[.int .i64 x.n, .int .i64 x.d, .string x.t]]) (show opAt (opsOf Tryz.f44 6) 8 = some (some 27, .call { callee := .value (.func 60), args := [(.tmp 21), (.const (.int .i64 3)), (.tmp 26)].toArray, argTypes := [3, 3, 62].toArray }, none) from by kernel_rfl) (by kernel_rfl) (by kernel_rfl) (by kernel_rfl) (by kernel_rfl) ?_
      refine (CK.out _ H.out.1).mono ?_
      rintro en rw1 ⟨rfl, hb⟩
      refine ⟨_, rfl, heldC_call H.out hb, ?_⟩
      have H := Lib.hid (heldC_call H.out hb)
      have AP := Lib.hid (AP.out.keep hb)
      have CX0 := Lib.hid (cell_below hb hbw C0.out)
      have CX1 := Lib.hid (cell_below hb hbw C1.out)
      clear hb
      refine run_fldT (z := y) (show opAt (opsOf Tryz.f44 6) 9 = some (some 28, .field 62 (.tmp 27) 2, none) from by kernel_rfl) (by kernel_rfl) (by kernel_rfl) (by kernel_rfl) ?_
      refine run_call (args := [.slice la nl lc, .string y.t]) (show opAt (opsOf Tryz.f44 6) 10 = some (some 29, .call { callee := .value (.func 59), args := [(.tmp 19), (.tmp 28)].toArray, argTypes := [24, 9].toArray }, none) from by kernel_rfl) (by kernel_rfl) (by kernel_rfl) (by kernel_rfl) (by kernel_rfl) ?_
      refine (CF.out _ AP.out.below y.t).mono ?_
      rintro en rw2 ⟨rfl, rfl⟩
      refine ⟨_, rfl, H.out, ?_⟩
      refine run_asg (v := .int .i64 (atF lv y.t)) (show opAt (opsOf Tryz.f44 6) 11 = some (some 8, .assign (.tmp 29), none) from by kernel_rfl) (by kernel_rfl) (by kernel_rfl) (by kernel_rfl) ?_
      refine run_done ?_
      simp only [putAll, Act.put, List.setIfInBounds_toArray, List.set_cons_zero, List.set_cons_succ]
      have KY1 := Lib.hid (heldC_at H.out (List.Mem.head _))
      have hbw1 : ba < rw1.heap.size := Nat.lt_of_lt_of_le hbw H.out.1.size
      clear H KYr CK y0 y1 y2 y3 y4 y5 y6 y7 C0 C1 C2
      obtain ⟨y0, y1, y2, y3, y4, y5, y6, y7⟩ := vec8 KY1.out
      have c1 := CX1.out
      by_cases hd : x.d = 0
      · have EZ := codI_no (lv := lv) (x := y) (.inl (DK.1 hd))
        rw [EZ] at NX
        clear EZ DK
        rw [hd] at c1
        clear CX0 CX1 hd
        have KBv := Lib.hid AP.out.vec
        obtain ⟨a0, a1, a2, a3, a4, a5, a6, a7⟩ := vec8 KBv.out
        go_wp2_with (at_builtin; go_loud (refine wpList_appK rfl _ _ rfl noI AP.out _ rfl rfl rfl rfl LN.out ?_))
        rintro sa' sn' sc' w4 hm
        clear a0 a1 a2 a3 a4 a5 a6 a7 y0 y1 y2 y3 y4 y5 y6 y7 c1
        have AM := Lib.hid hm
        have AV := Lib.hid hm.vec
        obtain ⟨v0, v1, v2, v3, v4, v5, v6, v7⟩ := vec8 AV.out
        obtain ⟨f0, f1, f2, f3, f4, f5, f6, f7⟩ := free8 AV.out
        have AN := Lib.hid AM.out.store
        clear hm
        go_wp2
        go_roundw
        case rel => first | exact ⟨k + 1, sa', sn', sc', by omega, by go_num, NX.out ▸ AN.out⟩ | ((repeat apply Exists.intro); exact ⟨⟨k + 1, sa', sn', sc', by omega, by go_num, NX.out ▸ AN.out⟩, rfl⟩)
        case measure => simp [intOf]; omega
      · have hdb : (x.d == 0) = false := beq_eq_false_iff_ne.2 hd
        have zi := ZI.out y.t
        by_cases hz : atF lv y.t < 0
        · have EZ := codI_no (lv := lv) (x := y) (.inr hz)
          rw [EZ] at NX
          obtain ⟨q, hq⟩ : ∃ q, atF lv y.t = q := ⟨_, rfl⟩
          rw [hq] at hz ⊢
          clear EZ DK CX0 CX1 hq
          have KBv := Lib.hid AP.out.vec
          obtain ⟨a0, a1, a2, a3, a4, a5, a6, a7⟩ := vec8 KBv.out
          go_wp2_with (at_builtin; go_loud (refine wpList_appK rfl _ _ rfl noI AP.out _ rfl rfl rfl rfl LN.out ?_))
          rintro sa' sn' sc' w4 hm
          clear a0 a1 a2 a3 a4 a5 a6 a7 y0 y1 y2 y3 y4 y5 y6 y7 c1
          have AM := Lib.hid hm
          have AV := Lib.hid hm.vec
          obtain ⟨v0, v1, v2, v3, v4, v5, v6, v7⟩ := vec8 AV.out
          obtain ⟨f0, f1, f2, f3, f4, f5, f6, f7⟩ := free8 AV.out
          have AN := Lib.hid AM.out.store
          clear hm
          go_wp2
          go_roundw
          case rel => first | exact ⟨k + 1, sa', sn', sc', by omega, by go_num, NX.out ▸ AN.out⟩ | ((repeat apply Exists.intro); exact ⟨⟨k + 1, sa', sn', sc', by omega, by go_num, NX.out ▸ AN.out⟩, rfl⟩)
          case measure => simp [intOf]; omega
        · have EZ := codI_yes (lv := lv) (x := y) (by have := DK.2 hd; omega)
          rw [EZ] at NX
          obtain ⟨q, hq⟩ : ∃ q, atF lv y.t = q := ⟨_, rfl⟩
          rw [hq] at hz zi NX ⊢
          have WQ := Lib.hid (show IntKind.i64.wrap (q + 1) = q + 1 from wrap64_id (by omega) (by omega))
          have CL2 := Lib.hid (fun (W : World) (_ : Below w.heap.size w W) => NL.out W (q + 1))
          clear EZ DK CX0 CX1 hq
          go_upto_region 9 with (fail)
          have H := Lib.hid (show HeldC w rw1 ([(b, 32, #[.int .i64 2, .slice sa sn sc, .slice none 0 0, .slice none 0 0, .slice none 0 0, .slice none 0 0, .int .i64 0, .int .i64 0])]) from heldC_one AP.out.below AP.out.vec)
          have FAR := Lib.hid (fun (q : Nat × TypeId × Array Value) (hq : q ∈ ([(b, 32, #[.int .i64 2, .slice sa sn sc, .slice none 0 0, .slice none 0 0, .slice none 0 0, .slice none 0 0, .int .i64 0, .int .i64 0])] : List (Nat × TypeId × Array Value))) (j : Nat) (hj : (Value.slice sa sn sc).ownBlock = some j) => (by
            obtain rfl := List.mem_singleton.1 hq
            exact AP.out.far hj (.inl AP.out.lt) : q.1 ≠ j))
          refine run_region (ops := (opsOf Tryz.f44 9)) (S := fun w' => HeldC w w' ([(b, 32, #[.int .i64 2, .slice sa sn sc, .slice none 0 0, .slice none 0 0, .slice none 0 0, .slice none 0 0, .int .i64 0, .int .i64 0])])) [(0, true), (1, true), (2, true), (3, true), (4, false), (5, false), (6, false), (7, true), (8, false)] (by kernel_rfl) (by kernel_rfl) (by kernel_rfl) (by kernel_rfl) (by kernel_rfl) (fun _ _ _ _ _ h => h) (heldC_drew H.out) ?_
          have H := Lib.hid (heldC_drew H.out)
          have AP := Lib.hid (AP.out.keep (below_drew' (Below.refl _ _)))
          refine runC_partV (b := b) (by kernel_rfl) (show opAt (opsOf Tryz.f44 9) 0 = some (some 47, .fieldAddr 32 (.tmp 5) 1, none) from by kernel_rfl) (by kernel_rfl) (by kernel_rfl) (by kernel_rfl) ?_
          refine runC_cell (b := b) (j := 1) (v := .slice sa sn sc) load_its (show opAt (opsOf Tryz.f44 9) 1 = some (some 48, .load 29 (.tmp 47), none) from by kernel_rfl) (by kernel_rfl) (by kernel_rfl) (by kernel_rfl) (List.Mem.head _) rfl ?_
          refine run_mov (v := .int .i64 q) (show opAt (opsOf Tryz.f44 9) 2 = some (some 49, .move (.tmp 8), none) from by kernel_rfl) (by kernel_rfl) (by kernel_rfl) (by kernel_rfl) ?_
          refine run_add (k := .i64) (p := q) (q := 1) (z := (q + 1)) (show opAt (opsOf Tryz.f44 9) 3 = some (some 50, .binOp .add 3 (.tmp 49) (.const (.int .i64 1)) 3, none) from by kernel_rfl) (by kernel_rfl) (by kernel_rfl) (by kernel_rfl) (by kernel_rfl) WQ.out ?_
          refine run_call (args := [.int .i64 ((q + 1))]) (show opAt (opsOf Tryz.f44 9) 4 = some (some 51, .call { callee := .value (.func 39), args := [(.tmp 50)].toArray, argTypes := [3].toArray }, none) from by kernel_rfl) (by kernel_rfl) (by kernel_rfl) (by kernel_rfl) (by kernel_rfl) ?_
          refine (CL2.out _ H.out.1).mono ?_
          rintro en rw1 ⟨rfl, hb⟩
          refine ⟨_, rfl, heldC_call H.out hb, ?_⟩
          have H := Lib.hid (heldC_call H.out hb)
          have AP := Lib.hid (AP.out.keep hb)
          clear hb
          refine tail_item2 ⟨q + 1, 1, ⟨#[]⟩⟩ (show opAt (opsOf Tryz.f44 9) 5 = some (some 52, .buildSlice 29 1 #[(0, (.tmp 51))], none) from by kernel_rfl) (by kernel_rfl) (by kernel_rfl) (show opAt (opsOf Tryz.f44 9) 6 = some (some 53, .call { callee := .builtin .append, args := [(.tmp 48), (.tmp 52)].toArray, argTypes := [29, 29].toArray }, none) from by kernel_rfl) (by kernel_rfl) (fun _ => by kernel_rfl) (show opAt (opsOf Tryz.f44 9) 7 = some (some 54, .fieldAddr 32 (.tmp 5) 1, none) from by kernel_rfl) (by kernel_rfl) (by kernel_rfl) (fun _ _ => by kernel_rfl) (show opAt (opsOf Tryz.f44 9) 8 = some (none, .store 29 (.tmp 54) (.tmp 53), none) from by kernel_rfl) (by kernel_rfl) (by kernel_rfl) H.out AP.out.row LN.out AP.out.size (Nat.le_trans AP.out.ge (Nat.le_of_lt AP.out.lt)) (List.Mem.head _) rfl AP.out.lt AP.out.ge (fun q hq => FAR.out q hq) ?_
          rintro v' w4 ⟨sa, sn, sc, rfl⟩ hK hO hB hZ hR hG
          simp only [putAll, Act.put, List.setIfInBounds_toArray, List.set_cons_zero, List.set_cons_succ]
          have AN := Lib.hid (AP.out.next hK hO hB hZ hG)
          clear hK hO hB hR hG hZ H FAR LN
          go_wp2
          go_roundw
          case rel => first | exact ⟨k + 1, sa, sn, sc, by omega, by go_num, NX.out ▸ AN.out⟩ | ((repeat apply Exists.intro); exact ⟨⟨k + 1, sa, sn, sc, by omega, by go_num, NX.out ▸ AN.out⟩, rfl⟩)
          case measure => simp [intOf]; omega
    · obtain rfl : k = n := by omega
      have K1 := Lib.hid AP.out.vec
      have K0 := Lib.hid (AP.out.blk KR.out (by omega))
      have FN := Lib.hid (AP.out.fin (r := w.heap.size + 1) (names := []) (F := []) (.inl ⟨rfl, rfl⟩) List.nodup_nil (fun g hg => by cases hg) (Nat.le_refl _) (by have := AP.out.lt; omega))
      obtain ⟨k0, k1, k2, k3, k4, k5, k6, k7⟩ := vec8 K1.out
      obtain ⟨z0, z1, z2, z3, z4, z5, z6, z7⟩ := vec8 K0.out
      obtain ⟨f0, f1, f2, f3, f4, f5, f6, f7⟩ := free8 K0.out
      go_wp2
      rw [XV.out]
      exact vec_end rfl rfl rfl K0.out FN.out
end Go.Proofs.YtddebgmjolojeaaGreatDoor

/- MakeFactorWith of the reference. -/
namespace Go.Proofs.YtddebgmjolojeaaGreatDoor
open Go.RowKit
set_option maxRecDepth 100000
set_option linter.unusedVariables false

theorem small_fac {lv : List ByteArray} {X : List It} {names : List ByteArray} (hX : X.length ≤ 1048576) (hn : names.length ≤ 1048576) (hs : ∀ s ∈ names, s.size ≤ 1048576) (hl : lv.length ≤ 1048576) (hls : ∀ s ∈ lv, s.size ≤ 1048576) : Small 1 (facR lv X names) := by
  show Small 1 (.mk 2 (codL lv X) [] names [facB] lv 0 0)
  unfold Small
  refine ⟨by rw [codL_len]; exact hX, Nat.zero_le _, hn, (by decide : (1 : Nat) ≤ 1048576), hl, fun x hx => ?_, hs, fun s hs => ?_, hls, (fun _ h => by cases h)⟩
  · obtain ⟨i, hi, rfl⟩ := mem_itF hx
    rcases codI_in lv (X.getD i noI) with e | ⟨_, _, e⟩ <;> rw [e] <;> exact Nat.zero_le _
  · obtain rfl := List.mem_singleton.1 hs; decide
set_option maxHeartbeats 8000000 in
theorem specSet (d : Nat) (kk : Int) (items : List It) (parts : List Vec) (names cls levels : List ByteArray) (code env : Int) (val : Value) (la : Option Addr) (lc : Nat) (lv : List ByteArray) (lo hi : Nat) (w : World) (hv : VecAt lo hi w d (.mk kk items parts names cls levels code env) val) (hT : TextsAt lo hi w la lv) (hhi : hi ≤ w.heap.size) (hsm : Small d (.mk kk items parts names cls levels code env)) (hlen : lv.length ≤ 1048576) (hss : ∀ s ∈ lv, s.size ≤ 1048576) (ha : atmS (.mk kk items parts names cls levels code env) = ⟨#[]⟩) :
    Calls Tryz.prog 21 #[val, .slice la lv.length lc] w (ResVS 1 (mfV (.mk kk items parts names cls levels code env) lv) (mfS (.mk kk items parts names cls levels code env) lv) w) := by
  have e := atmS_iff.1 ha
  have ok := atm_ok e.1 e.2
  have hf : FlatOk kk items parts.length names cls levels code env := e.1.1.flat
  have hlen2 : lenV kk items.length parts.length = items.length := by
    have h1 := hf.h_noParts (by have := ok.kind; omega)
    unfold lenV; rw [if_neg (by have := ok.kind; omega), h1]; rfl
  have hnm := hf.h_names
  rw [hlen2] at hnm
  have CC := Lib.hid (fun (W : World) (hb : Below w.heap.size w W) => specCodes d kk items parts names cls levels code env val lo hi W (hv.below hb hhi) (Nat.le_trans hhi hb.size) ok la lc lv (hT.below hb hhi) hlen)
  have VF := Lib.hid (facR_valid (lv := lv) (X := txsL kk items levels) (names := names) (by rw [txsL_len]; exact ok.len) (by rw [txsL_len]; exact hnm) hf.h_named)
  have XN := Lib.hid (fun (h0 : lv.length = 0) => mf_none ha h0)
  have XB := Lib.hid (fun (h0 : ¬ lv.length = 0) (h1 : ¬ LabelsOk (txtS lv) lv.length 20) => mf_bad ha h0 h1)
  have XY := Lib.hid (fun (h0 : ¬ lv.length = 0) (h1 : LabelsOk (txtS lv) lv.length 20) => mf_yes ha h0 h1)
  obtain ⟨d', ai, ci, ap, cp, an, cn, ac, cc, al, cl, ed, rfl, hI, hN, hC, hL, hP⟩ := vecAt_open hv
  subst ed
  have ln : names.length ≤ 1048576 := hsm.2.2.1
  have SX := small_fac (lv := lv) (X := txsL kk items levels) (names := names) (by rw [txsL_len]; exact hsm.1) ln hsm.2.2.2.2.2.2.1 hlen hss
  have CX := Lib.hid (fun (W : World) (x : Value) (hx : VecAt 0 W.heap.size W 1 (facR lv (txsL kk items levels) names) x) => specIsVector 1 (facR lv (txsL kk items levels) names) x 0 W.heap.size W hx (Nat.le_refl _) SX)
  have HN := Lib.hid (fun (W : World) (hb : Below w.heap.size w W) => hN.below hb hhi)
  have HT := Lib.hid (fun (W : World) (hb : Below w.heap.size w W) => hT.below hb hhi)
  obtain ⟨RV, hRV⟩ : ∃ y, mfV (.mk kk items parts names cls levels code env) lv = y := ⟨_, rfl⟩
  obtain ⟨RS, hRS⟩ : ∃ y, mfS (.mk kk items parts names cls levels code env) lv = y := ⟨_, rfl⟩
  rw [hRV, hRS] at XN XB XY ⊢
  obtain ⟨X, hX⟩ : ∃ X, txsL kk items levels = X := ⟨_, rfl⟩
  rw [hX] at CC VF XY CX
  have EF := Lib.hid (show facR lv X names = .mk 2 (codL lv X) [] names [facB] lv 0 0 from rfl)
  obtain ⟨L, hL'⟩ : ∃ L, codL lv X = L := ⟨_, rfl⟩
  rw [hL'] at CC EF
  obtain ⟨FR, hFR⟩ : ∃ y, facR lv X names = y := ⟨_, rfl⟩
  rw [hFR] at VF XY CX EF
  obtain ⟨nl, hnl⟩ : ∃ nl, lv.length = nl := ⟨_, rfl⟩
  have HNL := Lib.hid hnl
  have hlen0 := hlen
  rw [hnl] at CC VF XN XB XY hlen ⊢
  clear hv hI hN hC hL hP hsm hss ha e ok hf hlen2 hnm hX hL' hFR hnl hRV hRS hT
  go_enter Tryz.func21, Tryz.ntmps21
  go_wp2_with fail
  obtain ⟨w1, hw1⟩ : ∃ W, (w.alloc (.cells #[.int .i64 kk, .slice ai items.length ci, .slice ap parts.length cp, .slice an names.length cn, .slice ac cls.length cc, .slice al levels.length cl, .int .i64 code, .int .i64 env] 32)).alloc (.cells #[.int .i64 0, .slice none 0 0, .slice none 0 0, .slice none 0 0, .slice none 0 0, .slice none 0 0, .int .i64 0, .int .i64 0] 32) = W := ⟨_, rfl⟩
  have hs1 : (w.alloc (.cells #[.int .i64 kk, .slice ai items.length ci, .slice ap parts.length cp, .slice an names.length cn, .slice ac cls.length cc, .slice al levels.length cl, .int .i64 code, .int .i64 env] 32)).heap.size = w.heap.size + 1 := by simp
  have B1 := Lib.hid (show Below w.heap.size w w1 from hw1 ▸ below2 w _ _)
  have KA := Lib.hid (show w1.heap[w.heap.size]? = some (.cells #[.int .i64 kk, .slice ai items.length ci, .slice ap parts.length cp, .slice an names.length cn, .slice ac cls.length cc, .slice al levels.length cl, .int .i64 code, .int .i64 env] 32 (0, 0)) from hw1 ▸ blk_old (blk_new w _ rfl))
  have KR := Lib.hid (show w1.heap[w.heap.size + 1]? = some (.cells #[.int .i64 0, .slice none 0 0, .slice none 0 0, .slice none 0 0, .slice none 0 0, .slice none 0 0, .int .i64 0, .int .i64 0] 32 (0, 0)) from hw1 ▸ blk_new _ _ hs1.symm)
  have Z1 := Lib.hid (show w1.heap.size = w.heap.size + 1 + 1 from hw1 ▸ (by simp))
  rw [hw1]
  clear hw1 hs1
  with_reducible refine (CC.out _ B1.out).mono ?_
  rintro e w2 ⟨y, rfl, ho, b⟩
  obtain ⟨yi, ci', yp, cp', yn, cn', yc, cc', yl, cl', Fi, rfl, hit⟩ := its_of_own ho (Nat.le_refl _)
  have B2 := Lib.hid (below_then B1.out b)
  have KA := Lib.hid (blk_below b KA.out)
  have KR := Lib.hid (blk_below b KR.out)
  have S2 := Lib.hid b.size
  obtain ⟨n, hn⟩ : ∃ n, L.length = n := ⟨_, rfl⟩
  have HLN := Lib.hid hn
  rw [hn] at ⊢
  have IT := Lib.hid hit
  clear b ho CC hn hit
  obtain ⟨bx, hbx⟩ : ∃ b, w2.heap.size = b := ⟨_, rfl⟩
  obtain ⟨w3, hw3⟩ : ∃ W, w2.alloc (.cells #[.int .i64 2, .slice yi n ci', .slice yp 0 cp', .slice yn 0 cn', .slice yc 0 cc', .slice yl 0 cl', .int .i64 0, .int .i64 0] 32) = W := ⟨_, rfl⟩
  have KX := Lib.hid (show w3.heap[bx]? = some (.cells #[.int .i64 2, .slice yi n ci', .slice yp 0 cp', .slice yn 0 cn', .slice yc 0 cc', .slice yl 0 cl', .int .i64 0, .int .i64 0] 32 (0, 0)) from hw3 ▸ blk_new w2 _ hbx.symm)
  have KA := Lib.hid (show w3.heap[w.heap.size]? = _ from hw3 ▸ blk_old KA.out)
  have KR := Lib.hid (show w3.heap[w.heap.size + 1]? = some (.cells #[.int .i64 0, .slice none 0 0, .slice none 0 0, .slice none 0 0, .slice none 0 0, .slice none 0 0, .int .i64 0, .int .i64 0] 32 (0, 0)) from hw3 ▸ blk_old KR.out)
  have BW := Lib.hid (show Below w.heap.size w w3 from hw3 ▸ B2.out.alloc B2.out.size _)
  have IT := Lib.hid (show ItsC yi ci' L Fi w1.heap.size bx w3 from hw3 ▸ hbx ▸ IT.out.keep (below1 w2 _))
  have S3 := Lib.hid (show w3.heap.size = bx + 1 from hw3 ▸ (by simp [hbx]))
  have hbl : bx < w3.heap.size := by rw [S3.out]; omega
  have hbw1 : w.heap.size + 1 + 1 ≤ bx := by have := S2.out; have := Z1.out; omega
  have EW3 := Lib.hid hw3
  have EBX := Lib.hid hbx
  clear hbx hw3 B2
  obtain ⟨k0, k1, k2, k3, k4, k5, k6, k7⟩ := vec8 KA.out
  have hltA := (Array.getElem?_eq_some_iff.1 KA.out).1
  go_upto_region 2 with (fail)
  rw [EW3.out, EBX.out]
  clear k0 k1 k2 k3 k4 k5 k6 k7
  obtain ⟨k0, k1, k2, k3, k4, k5, k6, k7⟩ := vec8 KA.out
  go_wp2_with (at_builtin; go_loud (refine wpList_copyTexts rfl _ _ rfl w3.heap.size _ rfl (.inr ⟨w3.heap.size, Nat.le_refl _, rfl, blk_new _ _ rfl⟩) an cn names lo hi rfl (HN.out _ (BW.out.alloc BW.out.size _)) ln (Nat.le_of_lt (by simp)) ?_))
  intro v5 w5 hcp hb5
  obtain ⟨sn, qn, Fn, rfl, ht⟩ := TxsC.of hcp
  have b6 : Below w3.heap.size w3 w5 := (below1 w3 _).trans hb5
  have BW := Lib.hid (below_then BW.out b6)
  have KX := Lib.hid (blk_below b6 KX.out)
  have KA := Lib.hid (blk_below b6 KA.out)
  have KR := Lib.hid (blk_below b6 KR.out)
  have IT := Lib.hid (IT.out.keep b6)
  have TN := Lib.hid ht
  have Sw5 := Lib.hid b6.size
  have hbl2 : bx < w5.heap.size := Nat.lt_of_lt_of_le hbl b6.size
  clear b6 hb5 ht hcp
  obtain ⟨g0, g1, g2, g3, g4, g5, g6, g7⟩ := vec8 KX.out
  obtain ⟨f0, f1, f2, f3, f4, f5, f6, f7⟩ := free8 KX.out
  go_upto_region 3 with (fail)
  obtain ⟨w6, hw⟩ : ∃ W, w5.setCell ⟨bx, 3, none⟩ (.slice sn names.length qn) = W := ⟨_, rfl⟩
  have KX := Lib.hid (show w6.heap[bx]? = some (.cells #[.int .i64 2, .slice yi n ci', .slice yp 0 cp', .slice sn names.length qn, .slice yc 0 cc', .slice yl 0 cl', .int .i64 0, .int .i64 0] 32 (0, 0)) from hw ▸ Joins.block_setCell KX.out _)
  have hk : ∀ g, g ≠ bx → w6.heap[g]? = w5.heap[g]? := fun g hg => hw ▸ Below.heap_setCell _ _ _ _ hg
  have KA := Lib.hid ((hk _ (show w.heap.size ≠ bx by omega)).trans KA.out)
  have KR := Lib.hid ((hk _ (show w.heap.size + 1 ≠ bx by omega)).trans KR.out)
  have BW := Lib.hid (show Below w.heap.size w w6 from hw ▸ BW.out.setCell (p := ⟨bx, 3, none⟩) (show w.heap.size ≤ bx by omega) _)
  have SZ := Lib.hid (show w6.heap.size = w5.heap.size from hw ▸ (by simp))
  have IT := Lib.hid (show ItsC yi ci' L Fi w1.heap.size bx w6 from IT.out.same (fun g h1 h2 => hk g (by have := S3.out; skip; omega)) (by rw [SZ.out]; exact Nat.le_refl _))
  have TN := Lib.hid (show TxsC sn qn names Fn w3.heap.size w5.heap.size w6 from TN.out.same (fun g h1 h2 => hk g (by have := S3.out; skip; omega)) (by rw [SZ.out]; exact Nat.le_refl _))
  rw [hw]
  have hbl : bx < w6.heap.size := by rw [SZ.out]; exact hbl2
  have Zw6 := Lib.hid SZ.out
  clear g0 g1 g2 g3 g4 g5 g6 g7 f0 f1 f2 f3 f4 f5 f6 f7
  clear hw hbl2 SZ hk
  clear hltA k0 k1 k2 k3 k4 k5 k6 k7
  obtain ⟨g0, g1, g2, g3, g4, g5, g6, g7⟩ := vec8 KX.out
  obtain ⟨f0, f1, f2, f3, f4, f5, f6, f7⟩ := free8 KX.out
  go_upto_region 4 with (fail)
  clear g0 g1 g2 g3 g4 g5 g6 g7 f0 f1 f2 f3 f4 f5 f6 f7
  obtain ⟨gc, hgc⟩ : ∃ g, w6.heap.size = g := ⟨_, rfl⟩
  rw [hgc]
  obtain ⟨w7, hw⟩ : ∃ W, (w6.setCell ⟨bx, 4, none⟩ (.slice (some ⟨gc, 0, none⟩) 1 1)).alloc (.cells #[.string ⟨#[102, 97, 99, 116, 111, 114]⟩] 9) = W := ⟨_, rfl⟩
  have GC := Lib.hid (show bx < gc by rw [← hgc]; exact hbl)
  have hk : ∀ g, g ≠ bx → g < gc → w7.heap[g]? = w6.heap[g]? := fun g hg hl => hw ▸ ((below1 _ _).block g (by simp; omega)).trans (Below.heap_setCell _ _ _ _ hg)
  have KX := Lib.hid (show w7.heap[bx]? = some (.cells #[.int .i64 2, .slice yi n ci', .slice yp 0 cp', .slice sn names.length qn, .slice (some ⟨gc, 0, none⟩) 1 1, .slice yl 0 cl', .int .i64 0, .int .i64 0] 32 (0, 0)) from hw ▸ blk_old (Joins.block_setCell KX.out _))
  have KA := Lib.hid ((hk _ (show w.heap.size ≠ bx by omega) (by have := GC.out; omega)).trans KA.out)
  have KR := Lib.hid ((hk _ (show w.heap.size + 1 ≠ bx by omega) (by have := GC.out; omega)).trans KR.out)
  have NC := Lib.hid (show NewB gc 9 #[.string facB] w7 from ⟨hw ▸ blk_new _ _ (by simp [hgc])⟩)
  have BW := Lib.hid (show Below w.heap.size w w7 from hw ▸ (BW.out.setCell (p := ⟨bx, 4, none⟩) (show w.heap.size ≤ bx by omega) _).alloc (by simp; omega) _)
  have Z7 := Lib.hid (show w7.heap.size = gc + 1 from hw ▸ (by simp [hgc]))
  have IT := Lib.hid (show ItsC yi ci' L Fi w1.heap.size bx w7 from IT.out.same (fun g h1 h2 => hk g (by omega) (by have := GC.out; omega)) (by rw [Z7.out]; omega))
  have TN := Lib.hid (show TxsC sn qn names Fn w3.heap.size w5.heap.size w7 from TN.out.same (fun g h1 h2 => hk g (by have := S3.out; omega) (by have := Zw6.out; omega)) (by rw [Z7.out]; omega))
  have hbl : bx < w7.heap.size := by rw [Z7.out]; have := GC.out; omega
  have HGC := Lib.hid hgc
  rw [hw]
  clear hw hk hgc
  skip
  go_wp2_with (at_builtin; go_loud (refine wpList_copyTexts rfl _ _ rfl w7.heap.size _ rfl (.inr ⟨w7.heap.size, Nat.le_refl _, rfl, blk_new _ _ rfl⟩) la lc lv lo hi (by rw [HNL.out]; rfl) (HT.out _ (BW.out.alloc BW.out.size _)) hlen0 (Nat.le_of_lt (by simp)) ?_))
  intro v5 w8 hcp hb5
  obtain ⟨sl, ql, Fl, rfl, ht⟩ := TxsC.of hcp
  have b6 : Below w7.heap.size w7 w8 := (below1 w7 _).trans hb5
  have BW := Lib.hid (below_then BW.out b6)
  have KX := Lib.hid (blk_below b6 KX.out)
  have KA := Lib.hid (blk_below b6 KA.out)
  have KR := Lib.hid (blk_below b6 KR.out)
  have IT := Lib.hid (IT.out.keep b6)
  have TN := Lib.hid (TN.out.keep b6)
  have NC := Lib.hid (NC.out.keep b6)
  have TL := Lib.hid ht
  have Sw8 := Lib.hid b6.size
  have hbl2 : bx < w8.heap.size := Nat.lt_of_lt_of_le hbl b6.size
  clear b6 hb5 ht hcp
  rw [HNL.out]
  obtain ⟨g0, g1, g2, g3, g4, g5, g6, g7⟩ := vec8 KX.out
  obtain ⟨f0, f1, f2, f3, f4, f5, f6, f7⟩ := free8 KX.out
  go_upto_region 5 with (fail)
  obtain ⟨w9, hw⟩ : ∃ W, w8.setCell ⟨bx, 5, none⟩ (.slice sl nl ql) = W := ⟨_, rfl⟩
  have KX := Lib.hid (show w9.heap[bx]? = some (.cells #[.int .i64 2, .slice yi n ci', .slice yp 0 cp', .slice sn names.length qn, .slice (some ⟨gc, 0, none⟩) 1 1, .slice sl nl ql, .int .i64 0, .int .i64 0] 32 (0, 0)) from hw ▸ Joins.block_setCell KX.out _)
  have hk : ∀ g, g ≠ bx → w9.heap[g]? = w8.heap[g]? := fun g hg => hw ▸ Below.heap_setCell _ _ _ _ hg
  have KA := Lib.hid ((hk _ (show w.heap.size ≠ bx by omega)).trans KA.out)
  have KR := Lib.hid ((hk _ (show w.heap.size + 1 ≠ bx by omega)).trans KR.out)
  have BW := Lib.hid (show Below w.heap.size w w9 from hw ▸ BW.out.setCell (p := ⟨bx, 5, none⟩) (show w.heap.size ≤ bx by omega) _)
  have SZ := Lib.hid (show w9.heap.size = w8.heap.size from hw ▸ (by simp))
  have IT := Lib.hid (show ItsC yi ci' L Fi w1.heap.size bx w9 from IT.out.same (fun g h1 h2 => hk g (by have := S3.out; have := Z7.out; have := GC.out; have := Zw6.out; have := Sw5.out; omega)) (by rw [SZ.out]; exact Nat.le_refl _))
  have TN := Lib.hid (show TxsC sn qn names Fn w3.heap.size w5.heap.size w9 from TN.out.same (fun g h1 h2 => hk g (by have := S3.out; have := Z7.out; have := GC.out; have := Zw6.out; have := Sw5.out; omega)) (by rw [SZ.out]; exact Nat.le_refl _))
  have TL := Lib.hid (show TxsC sl ql lv Fl w7.heap.size w8.heap.size w9 from TL.out.same (fun g h1 h2 => hk g (by have := S3.out; have := Z7.out; have := GC.out; have := Zw6.out; have := Sw5.out; omega)) (by rw [SZ.out]; exact Nat.le_refl _))
  have NC := Lib.hid (show NewB gc 9 #[.string facB] w9 from ⟨(hk gc (by have := GC.out; omega)).trans NC.out.out⟩)
  rw [hw]
  have hbl : bx < w9.heap.size := by rw [SZ.out]; exact hbl2
  have Zw9 := Lib.hid SZ.out
  clear g0 g1 g2 g3 g4 g5 g6 g7 f0 f1 f2 f3 f4 f5 f6 f7
  clear hw hbl2 SZ hk
  by_cases h0 : nl = 0
  · have XV1 := Lib.hid (XN.out h0)
    clear XN XB XY
    subst h0
    obtain ⟨z0, z1, z2, z3, z4, z5, z6, z7⟩ := vec8 KR.out
    obtain ⟨f0, f1, f2, f3, f4, f5, f6, f7⟩ := free8 KR.out
    go_wp2
    rw [XV1.out.1, XV1.out.2]
    exact vec_endS rfl rfl rfl rfl KR.out (zeroS _ w _ (put8_below BW.out (Nat.le_succ _)))
  · have h0b : ((nl : Int) == 0) = false := beq_eq_false_iff_ne.2 (by omega)
    have OW := Lib.hid (show Own 1 FR (.agg #[.int .i64 2, .slice yi n ci', .slice yp 0 cp', .slice sn names.length qn, .slice (some ⟨gc, 0, none⟩) 1 1, .slice sl nl ql, .int .i64 0, .int .i64 0]) w1.heap.size w9.heap.size w9 from by
      have e0 := S3.out
      have e1 := Z7.out
      have e2 := Zw6.out
      have e3 := Sw5.out
      have e4 := Sw8.out
      have e5 := GC.out
      have e6 := HGC.out
      have e7 := S2.out
      have e8 := EBX.out
      have q := fac_own (pa := yp) (pc := cp') (lo := w1.heap.size) IT.out TN.out NC.out TL.out (Nat.le_refl _) (by omega) (by omega) (by omega) (by omega) (by omega) (.inr (.inr (.inl (by omega))))
      rw [HLN.out, HNL.out] at q
      rw [EF.out]
      exact q)
    have VX := Lib.hid (OW.out.vat (Nat.le_refl _))
    obtain ⟨g0, g1, g2, g3, g4, g5, g6, g7⟩ := vec8 KX.out
    go_wp2_with fail
    with_reducible refine (CX.out _ _ VX.out).mono ?_
    rintro e w10 ⟨rfl, b⟩
    have B10 := Lib.hid (below_then BW.out b)
    have KR := Lib.hid (blk_below b KR.out)
    have KX := Lib.hid (blk_below b KX.out)
    have OW := Lib.hid (OW.out.below b (Nat.le_refl _))
    have S10 := Lib.hid b.size
    clear b g0 g1 g2 g3 g4 g5 g6 g7 VX
    by_cases h1 : LabelsOk (txtS lv) nl 20
    · have XV1 := Lib.hid (XY.out h0 h1)
      rw [bB_yes (VF.out.2 h1)]
      clear XN XB XY h1 VF CX
      have hr1 : w.heap.size + 1 < w1.heap.size := by have := Z1.out; omega
      have L1 := Lib.hid B1.out.size
      obtain ⟨g0, g1, g2, g3, g4, g5, g6, g7⟩ := vec8 KX.out
      obtain ⟨z0, z1, z2, z3, z4, z5, z6, z7⟩ := vec8 KR.out
      obtain ⟨f0, f1, f2, f3, f4, f5, f6, f7⟩ := free8 KR.out
      go_wp2
      rw [XV1.out.1, XV1.out.2]
      exact vec_endS rfl rfl rfl rfl KR.out ⟨_, rfl, (OW.out.put8 hr1 _ _ _ _ _ _ _ _).wide L1.out (by rw [put8_size]; exact S10.out), put8_below B10.out (Nat.le_succ _)⟩
    · have XV1 := Lib.hid (XB.out h0 h1)
      rw [bB_no (fun h => h1 (VF.out.1 h))]
      clear XN XB XY h1 VF CX
      obtain ⟨z0, z1, z2, z3, z4, z5, z6, z7⟩ := vec8 KR.out
      obtain ⟨f0, f1, f2, f3, f4, f5, f6, f7⟩ := free8 KR.out
      go_wp2
      rw [XV1.out.1, XV1.out.2]
      exact vec_endS rfl rfl rfl rfl KR.out (zeroS _ w _ (put8_below B10.out (Nat.le_succ _)))
set_option maxHeartbeats 4000000 in
theorem specMakeFactorWith (d : Nat) (v : Vec) (lv : List ByteArray) (val : Value) (la : Option Addr) (lc : Nat) (lo hi : Nat) (w : World) (hv : VecAt lo hi w d v val) (hT : TextsAt lo hi w la lv) (hhi : hi ≤ w.heap.size) (hsm : Small d v) (hlen : lv.length ≤ 1048576) (hss : ∀ s ∈ lv, s.size ≤ 1048576) :
    Calls Tryz.prog 7 #[val, .slice la lv.length lc] w (ResVS 1 (mfV v lv) (mfS v lv) w) := by
  have C1 := Lib.hid (fun (w1 : World) (hb : Below w.heap.size w w1) => specAtm d v val lo hi w1 (hv.below hb hhi) (Nat.le_trans hhi hb.size) hsm)
  have CS := Lib.hid (fun (h : atmS v = ⟨#[]⟩) (w1 : World) (hb : Below w.heap.size w w1) => (by
    obtain ⟨kk, items, parts, names, cls, levels, code, env⟩ := v
    exact specSet d kk items parts names cls levels code env val la lc lv lo hi w1 (hv.below hb hhi) (hT.below hb hhi) (Nat.le_trans hhi hb.size) hsm hlen hss h : Calls Tryz.prog 21 #[val, .slice la lv.length lc] w1 (ResVS 1 (mfV v lv) (mfS v lv) w1)))
  have XA := Lib.hid (fun (h : ¬ atmS v = ⟨#[]⟩) => mf_atm (lv := lv) h)
  obtain ⟨vk, va1, vn1, vm1, va2, vn2, vm2, va3, vn3, vm3, va4, vn4, vm4, va5, vn5, vm5, vc, ve, rfl⟩ := hv.agg
  obtain ⟨R, hR⟩ : ∃ R, atmS v = R := ⟨_, rfl⟩
  obtain ⟨RV, hRV⟩ : ∃ y, mfV v lv = y := ⟨_, rfl⟩
  obtain ⟨RS, hRS⟩ : ∃ y, mfS v lv = y := ⟨_, rfl⟩
  rw [hR] at C1
  rw [hR, hRV, hRS] at CS XA
  rw [hRV, hRS]
  clear hv hT hsm hR hRV hRS hss hlen
  go_enter Tryz.func7, Tryz.ntmps7
  go_wp2_with fail
  obtain ⟨w1, hw1⟩ : ∃ W, (w.alloc (.cells #[.int .i64 vk, .slice va1 vn1 vm1, .slice va2 vn2 vm2, .slice va3 vn3 vm3, .slice va4 vn4 vm4, .slice va5 vn5 vm5, .int .i64 vc, .int .i64 ve] 32)).alloc (.cells #[.int .i64 0, .slice none 0 0, .slice none 0 0, .slice none 0 0, .slice none 0 0, .slice none 0 0, .int .i64 0, .int .i64 0] 32) = W := ⟨_, rfl⟩
  have hs1 : (w.alloc (.cells #[.int .i64 vk, .slice va1 vn1 vm1, .slice va2 vn2 vm2, .slice va3 vn3 vm3, .slice va4 vn4 vm4, .slice va5 vn5 vm5, .int .i64 vc, .int .i64 ve] 32)).heap.size = w.heap.size + 1 := by simp
  have B1 := Lib.hid (show Below w.heap.size w w1 from hw1 ▸ below2 w _ _)
  have KA := Lib.hid (show w1.heap[w.heap.size]? = some (.cells #[.int .i64 vk, .slice va1 vn1 vm1, .slice va2 vn2 vm2, .slice va3 vn3 vm3, .slice va4 vn4 vm4, .slice va5 vn5 vm5, .int .i64 vc, .int .i64 ve] 32 (0, 0)) from hw1 ▸ blk_old (blk_new w _ rfl))
  have KR := Lib.hid (show w1.heap[w.heap.size + 1]? = some (.cells #[.int .i64 0, .slice none 0 0, .slice none 0 0, .slice none 0 0, .slice none 0 0, .slice none 0 0, .int .i64 0, .int .i64 0] 32 (0, 0)) from hw1 ▸ blk_new _ _ hs1.symm)
  rw [hw1]
  clear hw1 hs1
  with_reducible refine (C1.out _ B1.out).mono ?_
  rintro e w2 ⟨rfl, b⟩
  have B2 := Lib.hid (below_then B1.out b)
  have KA := Lib.hid (blk_below b KA.out)
  have KR := Lib.hid (blk_below b KR.out)
  clear b
  by_cases hs : R = ⟨#[]⟩
  · subst hs
    have hr2 : w.heap.size + 1 < w2.heap.size := (Array.getElem?_eq_some_iff.1 KR.out).1
    obtain ⟨k0, k1, k2, k3, k4, k5, k6, k7⟩ := vec8 KA.out
    go_wp2_with fail
    with_reducible refine (CS.out (by first | rfl | trivial) _ B2.out).mono ?_
    rintro e w3 ⟨y, rfl, ho, b⟩
    have B3 := Lib.hid (below_then B2.out b)
    have KR := Lib.hid (blk_below b KR.out)
    have L2 := Lib.hid B2.out.size
    obtain ⟨yk, ya1, yn1, ym1, ya2, yn2, ym2, ya3, yn3, ym3, ya4, yn4, ym4, ya5, yn5, ym5, yc, ye, rfl⟩ := (ho.vat (Nat.le_refl _)).agg
    have HO := Lib.hid ho
    clear ho b k0 k1 k2 k3 k4 k5 k6 k7
    obtain ⟨w4, hw4⟩ : ∃ W, w3.alloc (.cells #[.int .i64 yk, .slice ya1 yn1 ym1, .slice ya2 yn2 ym2, .slice ya3 yn3 ym3, .slice ya4 yn4 ym4, .slice ya5 yn5 ym5, .int .i64 yc, .int .i64 ye] 32) = W := ⟨_, rfl⟩
    have KR := Lib.hid (show w4.heap[w.heap.size + 1]? = some (.cells #[.int .i64 0, .slice none 0 0, .slice none 0 0, .slice none 0 0, .slice none 0 0, .slice none 0 0, .int .i64 0, .int .i64 0] 32 (0, 0)) from hw4 ▸ blk_old KR.out)
    have B4 := Lib.hid (show Below w.heap.size w w4 from hw4 ▸ B3.out.alloc B3.out.size _)
    have HO := Lib.hid (show Own 1 RV (.agg #[.int .i64 yk, .slice ya1 yn1 ym1, .slice ya2 yn2 ym2, .slice ya3 yn3 ym3, .slice ya4 yn4 ym4, .slice ya5 yn5 ym5, .int .i64 yc, .int .i64 ye]) w2.heap.size w4.heap.size w4 from hw4 ▸ (HO.out.below (below1 w3 _) (Nat.le_refl _)).wide (Nat.le_refl _) (below1 w3 _).size)
    have EW := Lib.hid hw4
    have KY := Lib.hid (show w4.heap[w3.heap.size]? = some (.cells #[.int .i64 yk, .slice ya1 yn1 ym1, .slice ya2 yn2 ym2, .slice ya3 yn3 ym3, .slice ya4 yn4 ym4, .slice ya5 yn5 ym5, .int .i64 yc, .int .i64 ye] 32 (0, 0)) from hw4 ▸ blk_new w3 _ rfl)
    clear hw4
    go_upto_region 5 with (fail)
    rw [EW.out]
    obtain ⟨k0, k1, k2, k3, k4, k5, k6, k7⟩ := vec8 KY.out
    obtain ⟨z0, z1, z2, z3, z4, z5, z6, z7⟩ := vec8 KR.out
    obtain ⟨f0, f1, f2, f3, f4, f5, f6, f7⟩ := free8 KR.out
    go_wp2
    exact vec_endS rfl rfl rfl rfl KR.out ⟨_, rfl, (HO.out.put8 hr2 _ _ _ _ _ _ _ _).wide L2.out (by rw [put8_size]; exact Nat.le_refl _), put8_below B4.out (Nat.le_succ _)⟩
  · have XV1 := Lib.hid (XA.out hs)
    have hRb : (R.toList == []) = false := by have h := str_not hs; rw [ByteArray.toList_eq ⟨#[]⟩] at h; exact h
    clear hs
    obtain ⟨z0, z1, z2, z3, z4, z5, z6, z7⟩ := vec8 KR.out
    obtain ⟨f0, f1, f2, f3, f4, f5, f6, f7⟩ := free8 KR.out
    go_wp2
    rw [XV1.out.1, XV1.out.2]
    exact vec_endS rfl rfl rfl rfl KR.out (zeroS _ w _ (put8_below B2.out (Nat.le_succ _)))
end Go.Proofs.YtddebgmjolojeaaGreatDoor
