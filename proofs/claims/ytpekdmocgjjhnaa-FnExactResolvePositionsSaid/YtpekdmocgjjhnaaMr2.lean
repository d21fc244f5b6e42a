/- ResolvePositions of the program. -/
import Derived.Test.YtpekdmocgjjhnaaRows
import Derived.Test.YtpekdmocgjjhnaaMr1
import Derived.Test.YtpekdmocgjjhnaaIsName
import Derived.WalkKit
import Derived.OwnWalk
import Derived.Deep.DeepCutAuto
import Derived.Lib.Hide
namespace Go.Proofs.Ytpekdmocgjjhnaa
open Go.RowKit
set_option maxRecDepth 100000
set_option linter.unusedVariables false

theorem implSub_emptySubscript (ai ap an ac al : Option Addr) (ni ci np cp nn cn nc cc nl cl : Nat) (code env : Int) (w : World) : Calls Try.prog 42 #[.agg #[.int .i64 0, .slice ai ni ci, .slice ap np cp, .slice an nn cn, .slice ac nc cc, .slice al nl cl, .int .i64 code, .int .i64 env]] w fun e w' => e = .returned (.iface 81 (.agg #[])) ∧ Below w.heap.size w w' := by
  go_enter Try.func42, Try.ntmps42
  go_wp2
  go_ret
  exact ⟨rfl, below1 _ _⟩
theorem implSub_logicalSubscript (ai ap an ac al : Option Addr) (ni ci np cp nn cn nc cc nl cl : Nat) (code env : Int) (w : World) : Calls Try.prog 42 #[.agg #[.int .i64 1, .slice ai ni ci, .slice ap np cp, .slice an nn cn, .slice ac nc cc, .slice al nl cl, .int .i64 code, .int .i64 env]] w fun e w' => e = .returned (.iface 82 (.slice ai ni ci)) ∧ Below w.heap.size w w' := by
  go_enter Try.func42, Try.ntmps42
  go_wp2
  go_ret
  exact ⟨rfl, below1 _ _⟩
theorem implSub_numberSubscript (ai ap an ac al : Option Addr) (ni ci np cp nn cn nc cc nl cl : Nat) (code env : Int) (w : World) : Calls Try.prog 42 #[.agg #[.int .i64 2, .slice ai ni ci, .slice ap np cp, .slice an nn cn, .slice ac nc cc, .slice al nl cl, .int .i64 code, .int .i64 env]] w fun e w' => e = .returned (.iface 83 (.slice ai ni ci)) ∧ Below w.heap.size w w' := by
  go_enter Try.func42, Try.ntmps42
  go_wp2
  go_ret
  exact ⟨rfl, below1 _ _⟩
theorem implSub_textSubscript (ai ap an ac al : Option Addr) (ni ci np cp nn cn nc cc nl cl : Nat) (code env : Int) (w : World) : Calls Try.prog 42 #[.agg #[.int .i64 3, .slice ai ni ci, .slice ap np cp, .slice an nn cn, .slice ac nc cc, .slice al nl cl, .int .i64 code, .int .i64 env]] w fun e w' => e = .returned (.iface 84 (.slice ai ni ci)) ∧ Below w.heap.size w w' := by
  go_enter Try.func42, Try.ntmps42
  go_wp2
  go_ret
  exact ⟨rfl, below1 _ _⟩
theorem implSub_unsuitedSubscript (kk : Int) (ai ap an ac al : Option Addr) (ni ci np cp nn cn nc cc nl cl : Nat) (code env : Int) (w : World) (h : 4 ≤ kk) : Calls Try.prog 42 #[.agg #[.int .i64 kk, .slice ai ni ci, .slice ap np cp, .slice an nn cn, .slice ac nc cc, .slice al nl cl, .int .i64 code, .int .i64 env]] w fun e w' => e = .returned (.iface 85 (.agg #[])) ∧ Below w.heap.size w w' := by
  have h0 : (kk == 0) = false := beq_eq_false_iff_ne.2 (by omega)
  have h1 : (kk == 1) = false := beq_eq_false_iff_ne.2 (by omega)
  have h2 : (kk == 2) = false := beq_eq_false_iff_ne.2 (by omega)
  have h3 : (kk == 3) = false := beq_eq_false_iff_ne.2 (by omega)
  go_enter Try.func42, Try.ntmps42
  go_wp2
  go_ret
  exact ⟨rfl, below1 _ _⟩
theorem meth_emptySubscript (w : World) : (method 235 81 (.agg #[]) "loop.example/g03406/impl.selectIn").run Try.prog w = .ok (103, (.agg #[])) w := by kernel_rfl
theorem meth_logicalSubscript (a : Option Addr) (n c : Nat) (w : World) : (method 235 82 (.slice a n c) "loop.example/g03406/impl.selectIn").run Try.prog w = .ok (104, (.slice a n c)) w := by kernel_rfl
theorem meth_numberSubscript (a : Option Addr) (n c : Nat) (w : World) : (method 235 83 (.slice a n c) "loop.example/g03406/impl.selectIn").run Try.prog w = .ok (107, (.slice a n c)) w := by kernel_rfl
theorem meth_textSubscript (a : Option Addr) (n c : Nat) (w : World) : (method 235 84 (.slice a n c) "loop.example/g03406/impl.selectIn").run Try.prog w = .ok (122, (.slice a n c)) w := by kernel_rfl
theorem meth_unsuitedSubscript (w : World) : (method 235 85 (.agg #[]) "loop.example/g03406/impl.selectIn").run Try.prog w = .ok (123, (.agg #[])) w := by kernel_rfl
theorem implEmptySub (n : Int) (v : Value) (w : World) : Calls Try.prog 103 #[.agg #[], .int .i64 n, v] w (ResZ [] ⟨#[]⟩ w) := by
  go_enter Try.func103, Try.ntmps103
  go_wp2
  go_ret2
  exact resZ_nil rfl (below1 _ _)
theorem implUnsuitedSub (n : Int) (v : Value) (w : World) : Calls Try.prog 123 #[.agg #[], .int .i64 n, v] w (ResZ [] invB w) := by
  go_enter Try.func123, Try.ntmps123
  go_wp2
  go_ret2
  exact resZ_nil rfl (below1 _ _)
set_option maxHeartbeats 4000000 in
theorem implResolve (d : Nat) (v : Vec) (val : Value) (n : Int) (nms : List ByteArray) (na : Option Addr) (nc lo hi lo2 hi2 : Nat) (w : World) (hv : VecAt lo hi w d v val) (hhi : hi ≤ w.heap.size) (hsm : Small d v) (hT : TextsAt lo2 hi2 w na nms) (hh2 : hi2 ≤ w.heap.size) (ln2 : nms.length ≤ 1048576) :
    Calls Try.prog 15 #[.int .i64 n, .slice na nms.length nc, val] w (ResZ (rsZ n nms v) (rsS n nms v) w) := by
  have C1 := Lib.hid (fun (w1 : World) (hb : Below w.heap.size w w1) => implIsVector d v val lo hi w1 (hv.below hb hhi) (Nat.le_trans hhi hb.size) hsm)
  obtain ⟨VV, hVV⟩ : ∃ V, v = V := ⟨_, rfl⟩
  rw [hVV] at C1 ⊢
  obtain ⟨kk, items, parts, names, cls, levels, code, env⟩ := v
  obtain ⟨d', ai, ci, ap, cp, an, cn, ac, cc, al, cl, ed, rfl, hI, hN, hC, hL, hP⟩ := vecAt_open hv
  subst ed
  have XY := Lib.hid (fun (h : ValidV VV) (h2 : NmOk n nms) => (by rw [← hVV] at h ⊢; exact rs_yes h h2 : rsZ n nms VV = rkZ kk items nms n.toNat ∧ rsS n nms VV = rkS kk items))
  have XF := Lib.hid (fun (h : ValidV VV) => (by rw [← hVV] at h; exact h.1.flat : FlatOk kk items parts.length names cls levels code env))
  have HI := Lib.hid (fun (W : World) (hb : Below w.heap.size w W) => hI.below hb hhi)
  have HT := Lib.hid (fun (W : World) (hb : Below w.heap.size w W) => hT.below hb hh2)
  clear hv hI hN hC hL hP hsm hVV hT
  go_enter Try.func15, Try.ntmps15
  go_wp2_with fail
  obtain ⟨w1, hw1⟩ : ∃ W, w.alloc (.cells #[.int .i64 kk, .slice ai items.length ci, .slice ap parts.length cp, .slice an names.length cn, .slice ac cls.length cc, .slice al levels.length cl, .int .i64 code, .int .i64 env] 31) = W := ⟨_, rfl⟩
  have B1 := Lib.hid (show Below w.heap.size w w1 from hw1 ▸ below1 w _)
  have KA := Lib.hid (show w1.heap[w.heap.size]? = some (.cells #[.int .i64 kk, .slice ai items.length ci, .slice ap parts.length cp, .slice an names.length cn, .slice ac cls.length cc, .slice al levels.length cl, .int .i64 code, .int .i64 env] 31 (0, 0)) from hw1 ▸ blk_new w _ rfl)
  rw [hw1]
  clear hw1
  with_reducible refine (C1.out _ B1.out).mono ?_
  rintro e w2 ⟨rfl, b⟩
  have B2 := Lib.hid (below_then B1.out b)
  have KA := Lib.hid (blk_below b KA.out)
  clear b C1
  by_cases q : ValidV VV
  · rw [bB_yes q]
    by_cases h2 : NmOk n nms
    · have hF := XF.out q
      have hk := hF.h_kind
      have hlen := hF.h_len
      have hit := hF.h_items
      have hnull := hF.h_null
      obtain ⟨x1, x2⟩ := XY.out q h2
      have X1 := Lib.hid x1
      have X2 := Lib.hid x2
      obtain ⟨n0, n40, hnm⟩ := h2
      obtain ⟨N, rfl⟩ : ∃ N : Nat, n = N := ⟨n.toNat, by omega⟩
      have hNN : (N : Int).toNat = N := rfl
      rw [hNN] at X1
      have hl40 : ¬ kk = 5 → items.length ≤ 40 := fun h => by unfold lenV at hlen; rw [if_neg h] at hlen; omega
      have HIT := Lib.hid hit
      clear q x1 x2 hF XF XY hlen hit hNN
      obtain ⟨k0, k1, k2, k3, k4, k5, k6, k7⟩ := vec8 KA.out
      have hnm' : nms.length = 0 ∨ nms.length = N := by omega
      have ht1 : ¬ ((N : Int) < 0) := by omega
      have ht2 : ¬ (40 < (N : Int)) := by omega
      have TXT := Lib.hid (fun (h3 : kk = 3) (W : World) (hb : Below w.heap.size w W) => implTxtSub items nms ai na ci nc lo hi lo2 hi2 N W (HI.out W hb) (Nat.le_trans hhi hb.size) (HT.out W hb) (Nat.le_trans hh2 hb.size) (hl40 (by omega)) (by omega) hnm' (fun i hi => by have := (HIT.out i hi).1; rw [h3] at this; exact this))
      have NUM := Lib.hid (fun (h3 : kk = 2) (x : Value) (W : World) (hb : Below w.heap.size w W) => implNumSub items ai ci lo hi N x W (HI.out W hb) (Nat.le_trans hhi hb.size) (by have := hl40 (by omega); omega) (by omega) (fun i hi => numIt_of (HIT.out i hi).1 (by omega)))
      have LGC := Lib.hid (fun (h3 : kk = 1) (x : Value) (W : World) (hb : Below w.heap.size w W) => implLgcSub items ai ci lo hi N x W (HI.out W hb) (Nat.le_trans hhi hb.size) (hl40 (by omega)) (by omega) (fun i hi => numIt_of (HIT.out i hi).1 (by omega)))
      obtain ⟨ln, hln⟩ : ∃ x, nms.length = x := ⟨_, rfl⟩
      rw [hln] at hnm' TXT ⊢
      obtain ⟨ni, hni⟩ : ∃ x, items.length = x := ⟨_, rfl⟩
      rw [hni] at k1 TXT NUM LGC
      have KA := Lib.hid (hni ▸ KA.out)
      clear HI HT HIT hl40 hln ln2 hni
      have hlen : ln = 0 ∨ ln ≠ 0 ∧ ln = N := by omega
      rcases hlen with rfl | ⟨hne0, rfl⟩
      · have hkk : kk = 0 ∨ kk = 1 ∨ kk = 2 ∨ kk = 3 ∨ 4 ≤ kk := by omega
        rcases hkk with rfl | rfl | rfl | rfl | hk4
        · have X1 := Lib.hid (X1.out.trans rk_null.1)
          have X2 := Lib.hid (X2.out.trans (rk_null (names := []) (n := 0)).2)
          clear TXT NUM LGC
          have hm := fun w => meth_emptySubscript w
          go_wp2_with fail
          refine (implSub_emptySubscript ai ap an ac al _ ci _ cp _ cn _ cc _ cl code env _).mono ?_
          rintro e w3 ⟨rfl, b⟩
          have B3 := Lib.hid (below_then B2.out b)
          clear b k0 k1 k2 k3 k4 k5 k6 k7
          go_wp2_with fail
          refine (implEmptySub _ _ _).mono ?_
          rintro e w4 ⟨v, rfl, hz⟩
          have HZ := Lib.hid (hz.wide B3.out)
          clear hz hm
          go_wp2
          go_ret2
          exact ⟨_, by rw [X2.out]; rfl, by rw [X1.out]; exact HZ.out⟩
        · have X1 := Lib.hid (X1.out.trans rk_lgc.1)
          have X2 := Lib.hid (X2.out.trans (rk_lgc (names := []) (n := 0)).2)
          clear TXT NUM
          have hm := fun w => meth_logicalSubscript ai ni ci w
          go_wp2_with fail
          refine (implSub_logicalSubscript ai ap an ac al _ ci _ cp _ cn _ cc _ cl code env _).mono ?_
          rintro e w3 ⟨rfl, b⟩
          have B3 := Lib.hid (below_then B2.out b)
          clear b k0 k1 k2 k3 k4 k5 k6 k7
          go_wp2_with fail
          refine (LGC.out (by first | trivial | rfl) _ _ B3.out).mono ?_
          rintro e w4 ⟨v, rfl, hz⟩
          have HZ := Lib.hid (hz.wide B3.out)
          clear hz hm
          go_wp2
          go_ret2
          exact ⟨_, by rw [X2.out]; rfl, by rw [X1.out]; exact HZ.out⟩
        · have X1 := Lib.hid (X1.out.trans rk_num.1)
          have X2 := Lib.hid (X2.out.trans (rk_num (names := []) (n := 0)).2)
          clear TXT LGC
          have hm := fun w => meth_numberSubscript ai ni ci w
          go_wp2_with fail
          refine (implSub_numberSubscript ai ap an ac al _ ci _ cp _ cn _ cc _ cl code env _).mono ?_
          rintro e w3 ⟨rfl, b⟩
          have B3 := Lib.hid (below_then B2.out b)
          clear b k0 k1 k2 k3 k4 k5 k6 k7
          go_wp2_with fail
          refine (NUM.out (by first | trivial | rfl) _ _ B3.out).mono ?_
          rintro e w4 ⟨v, rfl, hz⟩
          have HZ := Lib.hid (hz.wide B3.out)
          clear hz hm
          go_wp2
          go_ret2
          exact ⟨_, by rw [X2.out]; rfl, by rw [X1.out]; exact HZ.out⟩
        · have X1 := Lib.hid (X1.out.trans rk_txt.1)
          have X2 := Lib.hid (X2.out.trans (rk_txt (names := []) (n := 0)).2)
          clear NUM LGC
          have hm := fun w => meth_textSubscript ai ni ci w
          go_wp2_with fail
          refine (implSub_textSubscript ai ap an ac al _ ci _ cp _ cn _ cc _ cl code env _).mono ?_
          rintro e w3 ⟨rfl, b⟩
          have B3 := Lib.hid (below_then B2.out b)
          clear b k0 k1 k2 k3 k4 k5 k6 k7
          go_wp2_with fail
          refine (TXT.out (by first | trivial | rfl) _ B3.out).mono ?_
          rintro e w4 ⟨v, rfl, hz⟩
          have HZ := Lib.hid (hz.wide B3.out)
          clear hz hm
          go_wp2
          go_ret2
          exact ⟨_, by rw [X2.out]; rfl, by rw [X1.out]; exact HZ.out⟩
        · have X1 := Lib.hid (X1.out.trans (rk_list hk4).1)
          have X2 := Lib.hid (X2.out.trans (rk_list hk4 (names := []) (n := 0)).2)
          clear NUM LGC TXT
          have hm := fun w => meth_unsuitedSubscript w
          go_wp2_with fail
          refine (implSub_unsuitedSubscript kk ai ap an ac al _ ci _ cp _ cn _ cc _ cl code env _ hk4).mono ?_
          rintro e w3 ⟨rfl, b⟩
          have B3 := Lib.hid (below_then B2.out b)
          clear b k0 k1 k2 k3 k4 k5 k6 k7
          go_wp2_with fail
          refine (implUnsuitedSub _ _ _).mono ?_
          rintro e w4 ⟨v, rfl, hz⟩
          have HZ := Lib.hid (hz.wide B3.out)
          clear hz hm
          go_wp2
          go_ret2
          exact ⟨_, by rw [X2.out]; rfl, by rw [X1.out]; exact HZ.out⟩
      · have hkk : kk = 0 ∨ kk = 1 ∨ kk = 2 ∨ kk = 3 ∨ 4 ≤ kk := by omega
        rcases hkk with rfl | rfl | rfl | rfl | hk4
        · have X1 := Lib.hid (X1.out.trans rk_null.1)
          have X2 := Lib.hid (X2.out.trans (rk_null (names := []) (n := 0)).2)
          clear TXT NUM LGC
          have hm := fun w => meth_emptySubscript w
          go_wp2_with fail
          refine (implSub_emptySubscript ai ap an ac al _ ci _ cp _ cn _ cc _ cl code env _).mono ?_
          rintro e w3 ⟨rfl, b⟩
          have B3 := Lib.hid (below_then B2.out b)
          clear b k0 k1 k2 k3 k4 k5 k6 k7
          go_wp2_with fail
          refine (implEmptySub _ _ _).mono ?_
          rintro e w4 ⟨v, rfl, hz⟩
          have HZ := Lib.hid (hz.wide B3.out)
          clear hz hm
          go_wp2
          go_ret2
          exact ⟨_, by rw [X2.out]; rfl, by rw [X1.out]; exact HZ.out⟩
        · have X1 := Lib.hid (X1.out.trans rk_lgc.1)
          have X2 := Lib.hid (X2.out.trans (rk_lgc (names := []) (n := 0)).2)
          clear TXT NUM
          have hm := fun w => meth_logicalSubscript ai ni ci w
          go_wp2_with fail
          refine (implSub_logicalSubscript ai ap an ac al _ ci _ cp _ cn _ cc _ cl code env _).mono ?_
          rintro e w3 ⟨rfl, b⟩
          have B3 := Lib.hid (below_then B2.out b)
          clear b k0 k1 k2 k3 k4 k5 k6 k7
          go_wp2_with fail
          refine (LGC.out (by first | trivial | rfl) _ _ B3.out).mono ?_
          rintro e w4 ⟨v, rfl, hz⟩
          have HZ := Lib.hid (hz.wide B3.out)
          clear hz hm
          go_wp2
          go_ret2
          exact ⟨_, by rw [X2.out]; rfl, by rw [X1.out]; exact HZ.out⟩
        · have X1 := Lib.hid (X1.out.trans rk_num.1)
          have X2 := Lib.hid (X2.out.trans (rk_num (names := []) (n := 0)).2)
          clear TXT LGC
          have hm := fun w => meth_numberSubscript ai ni ci w
          go_wp2_with fail
          refine (implSub_numberSubscript ai ap an ac al _ ci _ cp _ cn _ cc _ cl code env _).mono ?_
          rintro e w3 ⟨rfl, b⟩
          have B3 := Lib.hid (below_then B2.out b)
          clear b k0 k1 k2 k3 k4 k5 k6 k7
          go_wp2_with fail
          refine (NUM.out (by first | trivial | rfl) _ _ B3.out).mono ?_
          rintro e w4 ⟨v, rfl, hz⟩
          have HZ := Lib.hid (hz.wide B3.out)
          clear hz hm
          go_wp2
          go_ret2
          exact ⟨_, by rw [X2.out]; rfl, by rw [X1.out]; exact HZ.out⟩
        · have X1 := Lib.hid (X1.out.trans rk_txt.1)
          have X2 := Lib.hid (X2.out.trans (rk_txt (names := []) (n := 0)).2)
          clear NUM LGC
          have hm := fun w => meth_textSubscript ai ni ci w
          go_wp2_with fail
          refine (implSub_textSubscript ai ap an ac al _ ci _ cp _ cn _ cc _ cl code env _).mono ?_
          rintro e w3 ⟨rfl, b⟩
          have B3 := Lib.hid (below_then B2.out b)
          clear b k0 k1 k2 k3 k4 k5 k6 k7
          go_wp2_with fail
          refine (TXT.out (by first | trivial | rfl) _ B3.out).mono ?_
          rintro e w4 ⟨v, rfl, hz⟩
          have HZ := Lib.hid (hz.wide B3.out)
          clear hz hm
          go_wp2
          go_ret2
          exact ⟨_, by rw [X2.out]; rfl, by rw [X1.out]; exact HZ.out⟩
        · have X1 := Lib.hid (X1.out.trans (rk_list hk4).1)
          have X2 := Lib.hid (X2.out.trans (rk_list hk4 (names := []) (n := 0)).2)
          clear NUM LGC TXT
          have hm := fun w => meth_unsuitedSubscript w
          go_wp2_with fail
          refine (implSub_unsuitedSubscript kk ai ap an ac al _ ci _ cp _ cn _ cc _ cl code env _ hk4).mono ?_
          rintro e w3 ⟨rfl, b⟩
          have B3 := Lib.hid (below_then B2.out b)
          clear b k0 k1 k2 k3 k4 k5 k6 k7
          go_wp2_with fail
          refine (implUnsuitedSub _ _ _).mono ?_
          rintro e w4 ⟨v, rfl, hz⟩
          have HZ := Lib.hid (hz.wide B3.out)
          clear hz hm
          go_wp2
          go_ret2
          exact ⟨_, by rw [X2.out]; rfl, by rw [X1.out]; exact HZ.out⟩
    · have XX := Lib.hid (rs_names q h2)
      obtain ⟨ln, hln⟩ : ∃ x, nms.length = x := ⟨_, rfl⟩
      have hno : ¬ (0 ≤ n ∧ n ≤ 40 ∧ (ln = 0 ∨ (ln : Int) = n)) := by rw [← hln]; exact h2
      rw [hln]
      clear q XY XF HI HT h2 hln ln2
      have hcase : n < 0 ∨ (¬ n < 0 ∧ 40 < n) ∨ (¬ n < 0 ∧ ¬ 40 < n ∧ 0 < ln ∧ ¬ (ln : Int) = n) := by omega
      rcases hcase with h0 | ⟨h0, h1⟩ | ⟨h0, h1, h3, h4⟩
      · clear hno
        go_wp2
        go_ret2
        rw [XX.out.2]
        exact resZ_nil XX.out.1 B2.out
      · clear hno
        go_wp2
        go_ret2
        rw [XX.out.2]
        exact resZ_nil XX.out.1 B2.out
      · have h3' : (0 : Int) < (ln : Int) := by omega
        have h4' : ((ln : Int) != n) = true := bne_iff_ne.2 h4
        clear hno
        go_wp2
        go_ret2
        rw [XX.out.2]
        exact resZ_nil XX.out.1 B2.out
  · rw [bB_no q]
    have XX := Lib.hid (rs_bad (n := n) (names := nms) q)
    clear q XY XF
    go_wp2
    go_ret2
    rw [XX.out.2]
    exact resZ_nil XX.out.1 B2.out
end Go.Proofs.Ytpekdmocgjjhnaa

/- Number subscripts of the reference. -/
namespace Go.Proofs.Ytpekdmocgjjhnaa
open Go.RowKit
set_option maxRecDepth 100000
set_option linter.unusedVariables false

theorem negK_succ {l : List It} {k : Nat} : NegK l (k + 1) ↔ (NegK l k ∨ (l.getD k noI).n < 0) := by
  constructor
  · rintro ⟨i, h1, h2⟩
    by_cases e : i = k
    · subst e; exact .inr h2
    · exact .inl ⟨i, by omega, h2⟩
  · rintro (⟨i, h1, h2⟩ | h)
    · exact ⟨i, by omega, h2⟩
    · exact ⟨k, by omega, h⟩
theorem posK_succ {l : List It} {k : Nat} : PosK l (k + 1) ↔ (PosK l k ∨ (0 < (l.getD k noI).n ∨ (l.getD k noI).d = 0)) := by
  constructor
  · rintro ⟨i, h1, h2⟩
    by_cases e : i = k
    · subst e; exact .inr h2
    · exact .inl ⟨i, by omega, h2⟩
  · rintro (⟨i, h1, h2⟩ | h)
    · exact ⟨i, by omega, h2⟩
    · exact ⟨k, by omega, h⟩
/-- Does b say that P holds? (A structure, so that the walk leaves it as it is.) -/
structure IsB (b : Bool) (P : Prop) : Prop where
  out : b = true ↔ P
theorem negB_zero (l : List It) : IsB false (NegK l 0) := ⟨⟨(fun h => by cases h), fun ⟨i, h, _⟩ => absurd h (Nat.not_lt_zero _)⟩⟩
theorem posB_zero (l : List It) : IsB false (PosK l 0) := ⟨⟨(fun h => by cases h), fun ⟨i, h, _⟩ => absurd h (Nat.not_lt_zero _)⟩⟩
theorem negB_yes {l : List It} {k : Nat} (hx : (l.getD k noI).n < 0) : IsB true (NegK l (k + 1)) := ⟨⟨fun _ => negK_succ.2 (.inr hx), fun _ => rfl⟩⟩
theorem negB_no {l : List It} {k : Nat} {b : Bool} (h : IsB b (NegK l k)) (hx : ¬ (l.getD k noI).n < 0) : IsB b (NegK l (k + 1)) := ⟨⟨fun e => negK_succ.2 (.inl (h.out.1 e)), fun e => (negK_succ.1 e).elim h.out.2 (fun q => absurd q hx)⟩⟩
theorem posB_yes {l : List It} {k : Nat} (hx : 0 < (l.getD k noI).n ∨ (l.getD k noI).d = 0) : IsB true (PosK l (k + 1)) := ⟨⟨fun _ => posK_succ.2 (.inr hx), fun _ => rfl⟩⟩
theorem posB_no {l : List It} {k : Nat} {b : Bool} (h : IsB b (PosK l k)) (hx : ¬ (0 < (l.getD k noI).n ∨ (l.getD k noI).d = 0)) : IsB b (PosK l (k + 1)) := ⟨⟨fun e => posK_succ.2 (.inl (h.out.1 e)), fun e => (posK_succ.1 e).elim h.out.2 (fun q => absurd q hx)⟩⟩
set_option maxHeartbeats 8000000 in
theorem specNumbers (l : List It) (a : Option Addr) (c lo hi n : Nat) (w : World) (hI : ItemsAt lo hi w a l) (hhi : hi ≤ w.heap.size) (hl : l.length ≤ 1048576) (hn : n ≤ 40) (hnum : ∀ i, i < l.length → NumIt (l.getD i noI)) :
    Calls Try.prog 40 #[.int .i64 (n : Int), .slice a l.length c] w (ResZ (nuZ l n) (nuS l) w) := by
  have AI := Lib.hid (fun (k : Nat) (W : World) (hk : k < l.length) (hb : Below w.heap.size w W) => (hI.below hb hhi).at_ hk)
  have XF := Lib.hid (nmE_frac l)
  have XU := Lib.hid (nmE_out l)
  have YS := Lib.hid (fun k h => nmC_yes (l := l) (k := k) h)
  have NS := Lib.hid (fun k h => nmC_no (l := l) (k := k) h)
  have LE := Lib.hid (nmC_len l)
  have ZDA := Lib.hid (show ∀ k, k < l.length → (l.getD k noI).d = 0 → ¬ (l.getD k noI).n ≠ 0 from fun k hk h0 => by
    have h := (hnum k hk).z h0
    rw [h]; exact fun e => e rfl)
  have AL := Lib.hid (show AllNeg (nmC l l.length) ↔ ¬ PosK l l.length from all_iff (fun i hi h0 => by have h := (hnum i hi).z h0; rw [h]; rfl))
  have NI := Lib.hid (show NegIn (nmC l l.length) ↔ NegK l l.length from neg_iff)
  have BAD := Lib.hid (fun h => nu_bad (l := l) n h)
  have GOOD := Lib.hid (fun h => nu_ok (l := l) n (nmE_ok l h))
  have PL := Lib.hid (fun h => nm_plain (c := nmC l l.length) n h)
  have MX := Lib.hid (fun h h2 => nm_mixed (c := nmC l l.length) n h h2)
  have MI := Lib.hid (fun h h2 => nm_minus (c := nmC l l.length) n h h2)
  obtain ⟨m, hm⟩ : ∃ m, l.length = m := ⟨_, rfl⟩
  rw [hm] at AI XF XU ZDA AL NI GOOD PL MX MI hl ⊢
  obtain ⟨RZ, hRZ⟩ : ∃ R, nuZ l n = R := ⟨_, rfl⟩
  obtain ⟨RS, hRS⟩ : ∃ R, nuS l = R := ⟨_, rfl⟩
  rw [hRZ, hRS] at BAD GOOD
  rw [hRZ, hRS]
  clear hI hhi hnum hm hRZ hRS
  obtain ⟨w1, hw1⟩ : ∃ W, w.alloc (.cells #[] 3) = W := ⟨_, rfl⟩
  have ST := Lib.hid (show IntZ w w1 (nmC l 0) (.slice (some ⟨w.heap.size, 0, none⟩) 0 0) from hw1 ▸ IntZ.nil0 w w (Below.refl _ _))
  have EW := Lib.hid hw1
  clear hw1
  go_enter Try.func40, Try.ntmps40
  go_upto_region 5 with (fail)
  rw [EW.out]
  clear EW
  go_loopw [6, 7, 8, 9] (fun v6 v7 v8 v9 wr => ∃ (k : Nat) (b1 b2 : Bool), k ≤ m ∧ v9 = .int .i64 k ∧ IntZ w wr (nmC l k) v6 ∧ v7 = .bool b1 ∧ v8 = .bool b2 ∧ IsB b1 (NegK l k) ∧ IsB b2 (PosK l k) ∧ ∀ j, j < k → OkN (l.getD j noI)) (fun _ _ _ v9 _ => m - (intOf v9).toNat)
  case atStart => exact ⟨0, false, false, Nat.zero_le _, rfl, ST.out, rfl, rfl, negB_zero l, posB_zero l, fun _ h => absurd h (Nat.not_lt_zero _)⟩
  case round =>
    obtain ⟨k, b1, b2, hk, rfl, hir, rfl, rfl, hm1, hm2, hok⟩ := hrel
    have IR := Lib.hid hir
    have M1 := Lib.hid hm1
    have M2 := Lib.hid hm2
    have OK := Lib.hid hok
    clear hir hm1 hm2 hok
    by_cases hlt : k < m
    · obtain ⟨ba, off, rfl, hbB, c0, c1, c2'⟩ := AI.out k wr hlt IR.out.below
      have c2 : wr.cell? ⟨ba, off + k * 3 + 2, none⟩ = some (.string (l.getD k noI).t) := c2'
      have LN := Lib.hid (show (nmC l k).length ≤ 1048576 by have := LE.out k; omega)
      have XF1 := Lib.hid (show 1 < (l.getD k noI).d → nmE l = invB from fun h => XF.out k hlt OK.out h)
      have XU1 := Lib.hid (show ¬ 1 < (l.getD k noI).d → ((l.getD k noI).n < -40 ∨ 40 < (l.getD k noI).n) → nmE l = oobB from fun h g => XU.out k hlt OK.out (by omega) g)
      have Y1 := Lib.hid (YS.out k)
      have Z1 := Lib.hid (NS.out k)
      have ZD := Lib.hid (ZDA.out k hlt)
      have OKX := Lib.hid (show OkN (l.getD k noI) → ∀ j, j < k + 1 → OkN (l.getD j noI) from fun h j hj => by
        by_cases e : j = k
        · subst e; exact h
        · exact OK.out j (by omega))
      obtain ⟨x, hx⟩ : ∃ x, l.getD k noI = x := ⟨_, rfl⟩
      have EX := Lib.hid hx
      rw [hx] at c0 c1 c2 XF1 XU1 Y1 Z1 ZD OKX
      clear hx c2'
      obtain ⟨wa, hwa⟩ : ∃ W, wr.alloc (.cells #[.int .i64 x.n, .int .i64 x.d, .string x.t] 63) = W := ⟨_, rfl⟩
      have BA := Lib.hid (show Below wr.heap.size wr wa from hwa ▸ below1 wr _)
      have KB := Lib.hid (show wa.heap[wr.heap.size]? = some (.cells #[.int .i64 x.n, .int .i64 x.d, .string x.t] 63 (0, 0)) from hwa ▸ blk_new wr _ rfl)
      have IR := Lib.hid (IR.out.keep BA.out)
      have BN := Lib.hid IR.out.below
      have EW := Lib.hid hwa
      clear hwa
      go_upto_region 8 with (fail)
      rw [EW.out]
      clear EW c0 c1 c2
      have k0 := cellOf KB.out (i := 0) rfl
      have k1 := cellOf KB.out (i := 1) rfl
      have k2 := cellOf KB.out (i := 2) rfl
      by_cases h1 : 1 < x.d
      · have E := XF1.out h1
        obtain ⟨e1, e2⟩ := BAD.out (by rw [E]; decide)
        have X1 := Lib.hid e1
        have X2 := Lib.hid (e2.trans E)
        clear e1 e2 E XF1 XU1 Y1 Z1 ZD OKX EX M1 M2
        go_wp2
        go_ret2
        rw [X2.out, X1.out]
        exact ⟨_, rfl, IntZ.nil0 w _ BN.out⟩
      · by_cases h2 : -40 ≤ x.n ∧ x.n ≤ 40
        · have CL := Lib.hid (fun W => by have h := l1In_any x.n (-40) 40 W; rw [decide_eq_true h2] at h; exact h)
          obtain ⟨h2a, h2b⟩ := h2
          have OKN := Lib.hid (OKX.out ⟨by omega, h2a, h2b⟩)
          clear XF1 XU1 OKX BN
          go_wp2_with fail
          refine (CL.out _).mono ?_
          rintro e wq ⟨rfl, rfl⟩
          rcases (show x.n < 0 ∨ (¬ x.n < 0 ∧ 0 < x.n) ∨ (x.n = 0 ∧ x.d = 0) ∨ (x.n = 0 ∧ ¬ x.d = 0) by omega) with h3 | ⟨h3, h4⟩ | ⟨h3, h4⟩ | ⟨h3, h4⟩
          · have h4 : ¬ 0 < x.n := by omega
            have h4d : decide (0 < x.n) = false := decide_eq_false h4
            have h3d : decide (x.n < 0) = true := decide_eq_true h3
            have h5 : ¬ x.n = 0 := by omega
            have h5b : (x.n != 0) = true := bne_iff_ne.2 h5
            have hd0 : ¬ x.d = 0 := fun e => ZD.out e (by omega)
            have hd0b : (x.d == 0) = false := beq_eq_false_iff_ne.2 hd0
            cases b1 <;> cases b2
            · have N1 := Lib.hid (negB_yes (l := l) (k := k) (by rw [EX.out]; exact h3))
              have N2 := Lib.hid (posB_no M2.out (by rw [EX.out]; omega))
              have NX := Lib.hid (Y1.out (by omega))
              clear Y1 Z1 EX
              go_wp2_with (at_builtin; go_loud (refine wpList_appInt rfl _ _ rfl x.n (nmC l k) _ _ rfl rfl (IR.out.keep (below1 _ _)) (blk_new _ _ rfl) LN.out ?_))
              intro v' w3 hir
              have IN := Lib.hid (NX.out ▸ hir)
              clear hir
              go_wp2
              go_roundw
              case rel => exact ⟨k + 1, true, false, by omega, by go_num, IN.out, rfl, rfl, N1.out, N2.out, OKN.out⟩
              case measure => simp [intOf]; omega
            · have N1 := Lib.hid (negB_yes (l := l) (k := k) (by rw [EX.out]; exact h3))
              have N2 := Lib.hid (posB_no M2.out (by rw [EX.out]; omega))
              have NX := Lib.hid (Y1.out (by omega))
              clear Y1 Z1 EX
              go_wp2_with (at_builtin; go_loud (refine wpList_appInt rfl _ _ rfl x.n (nmC l k) _ _ rfl rfl (IR.out.keep (below1 _ _)) (blk_new _ _ rfl) LN.out ?_))
              intro v' w3 hir
              have IN := Lib.hid (NX.out ▸ hir)
              clear hir
              go_wp2
              go_roundw
              case rel => exact ⟨k + 1, true, true, by omega, by go_num, IN.out, rfl, rfl, N1.out, N2.out, OKN.out⟩
              case measure => simp [intOf]; omega
            · have N1 := Lib.hid (negB_yes (l := l) (k := k) (by rw [EX.out]; exact h3))
              have N2 := Lib.hid (posB_no M2.out (by rw [EX.out]; omega))
              have NX := Lib.hid (Y1.out (by omega))
              clear Y1 Z1 EX
              go_wp2_with (at_builtin; go_loud (refine wpList_appInt rfl _ _ rfl x.n (nmC l k) _ _ rfl rfl (IR.out.keep (below1 _ _)) (blk_new _ _ rfl) LN.out ?_))
              intro v' w3 hir
              have IN := Lib.hid (NX.out ▸ hir)
              clear hir
              go_wp2
              go_roundw
              case rel => exact ⟨k + 1, true, false, by omega, by go_num, IN.out, rfl, rfl, N1.out, N2.out, OKN.out⟩
              case measure => simp [intOf]; omega
            · have N1 := Lib.hid (negB_yes (l := l) (k := k) (by rw [EX.out]; exact h3))
              have N2 := Lib.hid (posB_no M2.out (by rw [EX.out]; omega))
              have NX := Lib.hid (Y1.out (by omega))
              clear Y1 Z1 EX
              go_wp2_with (at_builtin; go_loud (refine wpList_appInt rfl _ _ rfl x.n (nmC l k) _ _ rfl rfl (IR.out.keep (below1 _ _)) (blk_new _ _ rfl) LN.out ?_))
              intro v' w3 hir
              have IN := Lib.hid (NX.out ▸ hir)
              clear hir
              go_wp2
              go_roundw
              case rel => exact ⟨k + 1, true, true, by omega, by go_num, IN.out, rfl, rfl, N1.out, N2.out, OKN.out⟩
              case measure => simp [intOf]; omega
          · have hc : 0 < x.n ∨ x.d = 0 := .inl h4
            have h4d : decide (0 < x.n) = true := decide_eq_true h4
            have h3d : decide (x.n < 0) = false := decide_eq_false h3
            have h5 : ¬ x.n = 0 := by omega
            have h5b : (x.n != 0) = true := bne_iff_ne.2 h5
            cases b1 <;> cases b2
            · have N1 := Lib.hid (negB_no M1.out (by rw [EX.out]; omega))
              have N2 := Lib.hid (posB_yes (l := l) (k := k) (by rw [EX.out]; exact hc))
              have NX := Lib.hid (Y1.out (by omega))
              clear Y1 Z1 EX
              go_wp2_with (at_builtin; go_loud (refine wpList_appInt rfl _ _ rfl x.n (nmC l k) _ _ rfl rfl (IR.out.keep (below1 _ _)) (blk_new _ _ rfl) LN.out ?_))
              intro v' w3 hir
              have IN := Lib.hid (NX.out ▸ hir)
              clear hir
              go_wp2
              go_roundw
              case rel => exact ⟨k + 1, false, true, by omega, by go_num, IN.out, rfl, rfl, N1.out, N2.out, OKN.out⟩
              case measure => simp [intOf]; omega
            · have N1 := Lib.hid (negB_no M1.out (by rw [EX.out]; omega))
              have N2 := Lib.hid (posB_yes (l := l) (k := k) (by rw [EX.out]; exact hc))
              have NX := Lib.hid (Y1.out (by omega))
              clear Y1 Z1 EX
              go_wp2_with (at_builtin; go_loud (refine wpList_appInt rfl _ _ rfl x.n (nmC l k) _ _ rfl rfl (IR.out.keep (below1 _ _)) (blk_new _ _ rfl) LN.out ?_))
              intro v' w3 hir
              have IN := Lib.hid (NX.out ▸ hir)
              clear hir
              go_wp2
              go_roundw
              case rel => exact ⟨k + 1, false, true, by omega, by go_num, IN.out, rfl, rfl, N1.out, N2.out, OKN.out⟩
              case measure => simp [intOf]; omega
            · have N1 := Lib.hid (negB_no M1.out (by rw [EX.out]; omega))
              have N2 := Lib.hid (posB_yes (l := l) (k := k) (by rw [EX.out]; exact hc))
              have NX := Lib.hid (Y1.out (by omega))
              clear Y1 Z1 EX
              go_wp2_with (at_builtin; go_loud (refine wpList_appInt rfl _ _ rfl x.n (nmC l k) _ _ rfl rfl (IR.out.keep (below1 _ _)) (blk_new _ _ rfl) LN.out ?_))
              intro v' w3 hir
              have IN := Lib.hid (NX.out ▸ hir)
              clear hir
              go_wp2
              go_roundw
              case rel => exact ⟨k + 1, true, true, by omega, by go_num, IN.out, rfl, rfl, N1.out, N2.out, OKN.out⟩
              case measure => simp [intOf]; omega
            · have N1 := Lib.hid (negB_no M1.out (by rw [EX.out]; omega))
              have N2 := Lib.hid (posB_yes (l := l) (k := k) (by rw [EX.out]; exact hc))
              have NX := Lib.hid (Y1.out (by omega))
              clear Y1 Z1 EX
              go_wp2_with (at_builtin; go_loud (refine wpList_appInt rfl _ _ rfl x.n (nmC l k) _ _ rfl rfl (IR.out.keep (below1 _ _)) (blk_new _ _ rfl) LN.out ?_))
              intro v' w3 hir
              have IN := Lib.hid (NX.out ▸ hir)
              clear hir
              go_wp2
              go_roundw
              case rel => exact ⟨k + 1, true, true, by omega, by go_num, IN.out, rfl, rfl, N1.out, N2.out, OKN.out⟩
              case measure => simp [intOf]; omega
          · have hc : 0 < x.n ∨ x.d = 0 := .inr h4
            have hn0 : ¬ x.n < 0 := by omega
            have hn1 : ¬ 0 < x.n := by omega
            have h4d : decide (0 < x.n) = false := decide_eq_false hn1
            have h3d : decide (x.n < 0) = false := decide_eq_false hn0
            cases b1 <;> cases b2
            · have N1 := Lib.hid (negB_no M1.out (by rw [EX.out]; omega))
              have N2 := Lib.hid (posB_yes (l := l) (k := k) (by rw [EX.out]; exact hc))
              have NX := Lib.hid (show nmC l (k + 1) = nmC l k ++ [0] from (Y1.out (by omega)).trans (by rw [h3]))
              clear Y1 Z1 EX
              go_wp2_with (at_builtin; go_loud (refine wpList_appInt rfl _ _ rfl 0 (nmC l k) _ _ rfl rfl (IR.out.keep (below1 _ _)) (blk_new _ _ rfl) LN.out ?_))
              intro v' w3 hir
              have IN := Lib.hid (NX.out ▸ hir)
              clear hir
              go_wp2
              go_roundw
              case rel => exact ⟨k + 1, false, true, by omega, by go_num, IN.out, rfl, rfl, N1.out, N2.out, OKN.out⟩
              case measure => simp [intOf]; omega
            · have N1 := Lib.hid (negB_no M1.out (by rw [EX.out]; omega))
              have N2 := Lib.hid (posB_yes (l := l) (k := k) (by rw [EX.out]; exact hc))
              have NX := Lib.hid (show nmC l (k + 1) = nmC l k ++ [0] from (Y1.out (by omega)).trans (by rw [h3]))
              clear Y1 Z1 EX
              go_wp2_with (at_builtin; go_loud (refine wpList_appInt rfl _ _ rfl 0 (nmC l k) _ _ rfl rfl (IR.out.keep (below1 _ _)) (blk_new _ _ rfl) LN.out ?_))
              intro v' w3 hir
              have IN := Lib.hid (NX.out ▸ hir)
              clear hir
              go_wp2
              go_roundw
              case rel => exact ⟨k + 1, false, true, by omega, by go_num, IN.out, rfl, rfl, N1.out, N2.out, OKN.out⟩
              case measure => simp [intOf]; omega
            · have N1 := Lib.hid (negB_no M1.out (by rw [EX.out]; omega))
              have N2 := Lib.hid (posB_yes (l := l) (k := k) (by rw [EX.out]; exact hc))
              have NX := Lib.hid (show nmC l (k + 1) = nmC l k ++ [0] from (Y1.out (by omega)).trans (by rw [h3]))
              clear Y1 Z1 EX
              go_wp2_with (at_builtin; go_loud (refine wpList_appInt rfl _ _ rfl 0 (nmC l k) _ _ rfl rfl (IR.out.keep (below1 _ _)) (blk_new _ _ rfl) LN.out ?_))
              intro v' w3 hir
              have IN := Lib.hid (NX.out ▸ hir)
              clear hir
              go_wp2
              go_roundw
              case rel => exact ⟨k + 1, true, true, by omega, by go_num, IN.out, rfl, rfl, N1.out, N2.out, OKN.out⟩
              case measure => simp [intOf]; omega
            · have N1 := Lib.hid (negB_no M1.out (by rw [EX.out]; omega))
              have N2 := Lib.hid (posB_yes (l := l) (k := k) (by rw [EX.out]; exact hc))
              have NX := Lib.hid (show nmC l (k + 1) = nmC l k ++ [0] from (Y1.out (by omega)).trans (by rw [h3]))
              clear Y1 Z1 EX
              go_wp2_with (at_builtin; go_loud (refine wpList_appInt rfl _ _ rfl 0 (nmC l k) _ _ rfl rfl (IR.out.keep (below1 _ _)) (blk_new _ _ rfl) LN.out ?_))
              intro v' w3 hir
              have IN := Lib.hid (NX.out ▸ hir)
              clear hir
              go_wp2
              go_roundw
              case rel => exact ⟨k + 1, true, true, by omega, by go_num, IN.out, rfl, rfl, N1.out, N2.out, OKN.out⟩
              case measure => simp [intOf]; omega
          · have hn0 : ¬ x.n < 0 := by omega
            have hn1 : ¬ 0 < x.n := by omega
            have h4d : decide (0 < x.n) = false := decide_eq_false hn1
            have h3d : decide (x.n < 0) = false := decide_eq_false hn0
            have hd0b : (x.d == 0) = false := beq_eq_false_iff_ne.2 h4
            cases b1 <;> cases b2
            · have N1 := Lib.hid (negB_no M1.out (by rw [EX.out]; omega))
              have N2 := Lib.hid (posB_no M2.out (by rw [EX.out]; omega))
              have NX := Lib.hid (Z1.out (by omega))
              have IN := Lib.hid (NX.out ▸ IR.out)
              clear Y1 Z1 EX
              go_wp2
              go_roundw
              case rel => exact ⟨k + 1, false, false, by omega, by go_num, IN.out, rfl, rfl, N1.out, N2.out, OKN.out⟩
              case measure => simp [intOf]; omega
            · have N1 := Lib.hid (negB_no M1.out (by rw [EX.out]; omega))
              have N2 := Lib.hid (posB_no M2.out (by rw [EX.out]; omega))
              have NX := Lib.hid (Z1.out (by omega))
              have IN := Lib.hid (NX.out ▸ IR.out)
              clear Y1 Z1 EX
              go_wp2
              go_roundw
              case rel => exact ⟨k + 1, false, true, by omega, by go_num, IN.out, rfl, rfl, N1.out, N2.out, OKN.out⟩
              case measure => simp [intOf]; omega
            · have N1 := Lib.hid (negB_no M1.out (by rw [EX.out]; omega))
              have N2 := Lib.hid (posB_no M2.out (by rw [EX.out]; omega))
              have NX := Lib.hid (Z1.out (by omega))
              have IN := Lib.hid (NX.out ▸ IR.out)
              clear Y1 Z1 EX
              go_wp2
              go_roundw
              case rel => exact ⟨k + 1, true, false, by omega, by go_num, IN.out, rfl, rfl, N1.out, N2.out, OKN.out⟩
              case measure => simp [intOf]; omega
            · have N1 := Lib.hid (negB_no M1.out (by rw [EX.out]; omega))
              have N2 := Lib.hid (posB_no M2.out (by rw [EX.out]; omega))
              have NX := Lib.hid (Z1.out (by omega))
              have IN := Lib.hid (NX.out ▸ IR.out)
              clear Y1 Z1 EX
              go_wp2
              go_roundw
              case rel => exact ⟨k + 1, true, true, by omega, by go_num, IN.out, rfl, rfl, N1.out, N2.out, OKN.out⟩
              case measure => simp [intOf]; omega
        · have CL := Lib.hid (fun W => by have h := l1In_any x.n (-40) 40 W; rw [decide_eq_false h2] at h; exact h)
          have E := XU1.out h1 (by omega)
          obtain ⟨e1, e2⟩ := BAD.out (by rw [E]; decide)
          have X1 := Lib.hid e1
          have X2 := Lib.hid (e2.trans E)
          clear e1 e2 E XF1 XU1 Y1 Z1 ZD OKX EX M1 M2 h2
          go_wp2_with fail
          refine (CL.out _).mono ?_
          rintro e wq ⟨rfl, rfl⟩
          go_wp2
          go_ret2
          rw [X2.out, X1.out]
          exact ⟨_, rfl, IntZ.nil0 w _ BN.out⟩
    · obtain rfl : k = m := by omega
      obtain ⟨g1, g2⟩ := GOOD.out OK.out
      have G1 := Lib.hid g1
      have G2 := Lib.hid g2
      have A1 := Lib.hid (show AllNeg (nmC l k) ↔ ¬ b2 = true from AL.out.trans (not_congr M2.out.out.symm))
      have I1 := Lib.hid (show NegIn (nmC l k) ↔ b1 = true from NI.out.trans M1.out.out.symm)
      obtain ⟨C, hC⟩ : ∃ C, nmC l k = C := ⟨_, rfl⟩
      rw [hC] at A1 I1 IR PL MX MI G1 G2
      have CLN := Lib.hid (show C.length ≤ k by rw [← hC]; exact LE.out k)
      clear hC g1 g2 XF XU YS NS LE ZDA AL NI BAD GOOD M1 M2 OK
      cases b1 with
      | false =>
        obtain ⟨p1, p2⟩ := PL.out (fun h => by have := I1.out.1 h; cases this)
        have X1 := Lib.hid (G1.out.trans p1)
        have X2 := Lib.hid (G2.out.trans p2)
        clear p1 p2 PL MX MI A1 I1 G1 G2
        go_wp2
        go_ret2
        exact ⟨_, by rw [X2.out]; rfl, by rw [X1.out]; exact IR.out⟩
      | true =>
        have HN := Lib.hid (I1.out.2 rfl)
        cases b2 with
        | true =>
          obtain ⟨p1, p2⟩ := MX.out HN.out (fun h => A1.out.1 h rfl)
          have X1 := Lib.hid (G1.out.trans p1)
          have X2 := Lib.hid (G2.out.trans p2)
          have BZ := Lib.hid IR.out.below
          clear p1 p2 PL MX MI A1 I1 G1 G2 HN
          go_wp2
          go_ret2
          rw [X2.out, X1.out]
          exact ⟨_, rfl, IntZ.nil0 w _ BZ.out⟩
        | false =>
          obtain ⟨p1, p2⟩ := MI.out HN.out (A1.out.2 (fun h => by cases h))
          have X1 := Lib.hid (G1.out.trans p1)
          have X2 := Lib.hid (G2.out.trans p2)
          clear p1 p2 PL MX MI A1 I1 G1 G2 HN
          obtain ⟨sa, cc, rfl, hi'⟩ := IR.out.ints
          have SA := Lib.hid hi'
          have BW := Lib.hid IR.out.below
          have XY := Lib.hid (fun j h => exZ_yes (c := C) (k := j) h)
          have XN := Lib.hid (fun j h => exZ_no (c := C) (k := j) h)
          have XL := Lib.hid (exZ_len C)
          have XD := Lib.hid (show ∀ j, exP C j = true ↔ ∀ q, q < C.length → C.getD q 0 ≠ -((j : Int) + 1) from fun j => by
            unfold exP
            by_cases h : HasZ C (-((j : Int) + 1))
            · rw [bB_yes h]
              obtain ⟨q, h1, h2⟩ := h
              exact ⟨(fun e => by cases e), fun e => absurd h2 (e q h1)⟩
            · rw [bB_no h]
              exact ⟨fun _ q h1 h2 => h ⟨q, h1, h2⟩, fun _ => rfl⟩)
          obtain ⟨w6, hw6⟩ : ∃ W, wr.alloc (.cells #[] 3) = W := ⟨_, rfl⟩
          have SR := Lib.hid (show IntZ wr w6 (exZ C 0) (.slice (some ⟨wr.heap.size, 0, none⟩) 0 0) from hw6 ▸ IntZ.nil0 wr wr (Below.refl _ _))
          have EW := Lib.hid hw6
          obtain ⟨cl, hcl⟩ : ∃ x, C.length = x := ⟨_, rfl⟩
          rw [hcl] at SA XD CLN ⊢
          have hclk := CLN.out
          clear hw6 hi' IR hcl
          go_upto_region 22 with (fail)
          rw [EW.out]
          clear EW
          go_loopw [11, 12] (fun v11 v12 ww => ∃ j : Nat, j ≤ n ∧ v12 = .int .i64 ((j : Int) + 1) ∧ IntZ wr ww (exZ C j) v11) (fun _ v12 _ => n + 1 - (intOf v12).toNat)
          case atStart => exact ⟨0, Nat.zero_le _, rfl, SR.out⟩
          case round =>
            obtain ⟨j, hj, rfl, hjr⟩ := hrel
            have JR := Lib.hid hjr
            clear hjr
            by_cases hjl : j < n
            · have LN2 := Lib.hid (show (exZ C j).length ≤ 1048576 by have := XL.out j; omega)
              have XDj := Lib.hid (XD.out j)
              have XYj := Lib.hid (XY.out j)
              have XNj := Lib.hid (XN.out j)
              have hjn : (j : Int) + 1 ≤ (n : Int) := by omega
              go_wp2
              go_loop [13, 14] (fun v13 v14 => ∃ (q : Nat) (b : Bool), q ≤ cl ∧ v14 = .int .i64 q ∧ v13 = .bool b ∧ IsB b (∀ p, p < q → C.getD p 0 ≠ -((j : Int) + 1))) (fun _ v14 => cl - (intOf v14).toNat)
              case atStart => exact ⟨0, true, Nat.zero_le _, rfl, rfl, ⟨⟨fun _ _ h => absurd h (Nat.not_lt_zero _), fun _ => rfl⟩⟩⟩
              case round =>
                obtain ⟨q, b, hq, rfl, rfl, hb⟩ := hrel
                have HB := Lib.hid hb
                clear hb
                by_cases hql : q < cl
                · obtain ⟨bb, oo, rfl, hbb, hcc⟩ := (SA.out.below JR.out.below) q hql
                  change _ = some (Value.int .i64 (C.getD q 0)) at hcc
                  obtain ⟨z, hz⟩ : ∃ z, C.getD q 0 = z := ⟨_, rfl⟩
                  have EZ := Lib.hid hz
                  rw [hz] at hcc
                  clear hz
                  cases b with
                  | false =>
                    have HN := Lib.hid (show IsB false (∀ p, p < q + 1 → C.getD p 0 ≠ -((j : Int) + 1)) from ⟨⟨(fun h => by cases h), fun h => HB.out.out.2 (fun p hp => h p (by omega))⟩⟩)
                    go_wp2
                    go_round
                    case rel => exact ⟨q + 1, false, by omega, by go_num, rfl, HN.out⟩
                    case measure => simp [intOf]; omega
                  | true =>
                    by_cases hz : z = -((j : Int) + 1)
                    · have HN := Lib.hid (show IsB false (∀ p, p < q + 1 → C.getD p 0 ≠ -((j : Int) + 1)) from ⟨⟨(fun h => by cases h), fun h => absurd (EZ.out.trans hz) (h q (by omega))⟩⟩)
                      subst hz
                      have hzb : (-((j : Int) + 1) != -((j : Int) + 1)) = false := by simp
                      go_wp2
                      go_round
                      case rel => exact ⟨q + 1, false, by omega, by go_num, rfl, HN.out⟩
                      case measure => simp [intOf]; omega
                    · have HN := Lib.hid (show IsB true (∀ p, p < q + 1 → C.getD p 0 ≠ -((j : Int) + 1)) from ⟨⟨fun _ p hp => by
                        by_cases e : p = q
                        · subst e; rw [EZ.out]; exact hz
                        · exact HB.out.out.1 rfl p (by omega), fun _ => rfl⟩⟩)
                      have hzb : (z != -((j : Int) + 1)) = true := bne_iff_ne.2 hz
                      go_wp2
                      go_round
                      case rel => exact ⟨q + 1, true, by omega, by go_num, rfl, HN.out⟩
                      case measure => simp [intOf]; omega
                · obtain rfl : q = cl := by omega
                  cases b with
                  | true =>
                    have NX := Lib.hid (XYj.out (XDj.out.2 (HB.out.out.1 rfl)))
                    clear HB XDj XYj XNj
                    go_wp2_with (at_builtin; go_loud (refine wpList_appInt rfl _ _ rfl ((j : Int) + 1) (exZ C j) _ _ rfl rfl (JR.out.keep (below1 _ _)) (blk_new _ _ rfl) LN2.out ?_))
                    intro v' w3 hir
                    have IN := Lib.hid (NX.out ▸ hir)
                    clear hir
                    go_wp2
                    go_roundw
                    case rel => exact ⟨j + 1, by omega, by go_num, IN.out⟩
                    case measure => simp [intOf]; omega
                  | false =>
                    have NX := Lib.hid (XNj.out (by
                      cases h : exP C j with
                      | false => rfl
                      | true => exact absurd (HB.out.out.2 (XDj.out.1 h)) (by decide)))
                    have IN := Lib.hid (NX.out ▸ JR.out)
                    clear HB XDj XYj XNj
                    go_wp2
                    go_roundw
                    case rel => exact ⟨j + 1, by omega, by go_num, IN.out⟩
                    case measure => simp [intOf]; omega
            · obtain rfl : j = n := by omega
              have hjn : ¬ ((j : Int) + 1 ≤ (j : Int)) := by omega
              go_wp2
              go_ret2
              exact ⟨_, by rw [X2.out]; rfl, by rw [X1.out]; exact JR.out.wide BW.out⟩
end Go.Proofs.Ytpekdmocgjjhnaa

/- ResolvePositions of the reference: what is no logical subscript and no text. -/
namespace Go.Proofs.Ytpekdmocgjjhnaa
open Go.RowKit
set_option maxRecDepth 100000
set_option linter.unusedVariables false

set_option maxHeartbeats 8000000 in
theorem specResolveA (d : Nat) (v : Vec) (val : Value) (n : Int) (nms : List ByteArray) (na : Option Addr) (nc lo hi lo2 hi2 : Nat) (w : World) (hv : VecAt lo hi w d v val) (hhi : hi ≤ w.heap.size) (hsm : Small d v) (hT : TextsAt lo2 hi2 w na nms) (hh2 : hi2 ≤ w.heap.size) (ln2 : nms.length ≤ 1048576) (hA : ¬ (ValidV v ∧ NmOk n nms ∧ (kindV v = 1 ∨ kindV v = 3 ∨ kindV v = 0))) :
    Calls Try.prog 13 #[.int .i64 n, .slice na nms.length nc, val] w (ResZ (rsZ n nms v) (rsS n nms v) w) := by
  have C1 := Lib.hid (fun (w1 : World) (hb : Below w.heap.size w w1) => specIsVector d v val lo hi w1 (hv.below hb hhi) (Nat.le_trans hhi hb.size) hsm)
  obtain ⟨VV, hVV⟩ : ∃ V, v = V := ⟨_, rfl⟩
  rw [hVV] at C1 ⊢
  obtain ⟨kk, items, parts, names, cls, levels, code, env⟩ := v
  obtain ⟨d', ai, ci, ap, cp, an, cn, ac, cc, al, cl, ed, rfl, hI, hN, hC, hL, hP⟩ := vecAt_open hv
  subst ed
  have XK : kindV VV = kk := by rw [← hVV]; rfl
  have XY := Lib.hid (fun (h : ValidV VV) (h2 : NmOk n nms) => (by rw [← hVV] at h ⊢; exact rs_yes h h2 : rsZ n nms VV = rkZ kk items nms n.toNat ∧ rsS n nms VV = rkS kk items))
  have XF := Lib.hid (fun (h : ValidV VV) => (by rw [← hVV] at h; exact h.1.flat : FlatOk kk items parts.length names cls levels code env))
  have HI := Lib.hid (fun (W : World) (hb : Below w.heap.size w W) => hI.below hb hhi)
  have HT := Lib.hid (fun (W : World) (hb : Below w.heap.size w W) => hT.below hb hh2)
  clear hv hI hN hC hL hP hsm hT
  obtain ⟨wA, hwA⟩ : ∃ W, w.alloc (.cells #[.int .i64 kk, .slice ai items.length ci, .slice ap parts.length cp, .slice an names.length cn, .slice ac cls.length cc, .slice al levels.length cl, .int .i64 code, .int .i64 env] 31) = W := ⟨_, rfl⟩
  have BA := Lib.hid (show Below w.heap.size w wA from hwA ▸ below1 w _)
  have KA := Lib.hid (show wA.heap[w.heap.size]? = some (.cells #[.int .i64 kk, .slice ai items.length ci, .slice ap parts.length cp, .slice an names.length cn, .slice ac cls.length cc, .slice al levels.length cl, .int .i64 code, .int .i64 env] 31 (0, 0)) from hwA ▸ blk_new w _ rfl)
  have hsA : wA.heap.size = w.heap.size + 1 := by rw [← hwA]; simp
  have HSA := Lib.hid (show w.heap.size < wA.heap.size by omega)
  obtain ⟨w1, hw1⟩ : ∃ W, wA.alloc (.cells #[] 3) = W := ⟨_, rfl⟩
  have ST := Lib.hid (show IntZ wA w1 [] (.slice (some ⟨w.heap.size + 1, 0, none⟩) 0 0) from hsA ▸ hw1 ▸ IntZ.nil0 wA wA (Below.refl _ _))
  have EWA := Lib.hid hwA
  have EW1 := Lib.hid hw1
  clear hwA hw1 hsA
  rw [hVV] at hA
  go_enter Try.func13, Try.ntmps13
  go_wp2_with fail
  rw [EWA.out, EW1.out]
  clear EWA EW1
  with_reducible refine (C1.out _ (below_then BA.out ST.out.below)).mono ?_
  rintro e w2 ⟨rfl, b⟩
  have ST := Lib.hid (ST.out.keep b)
  clear b C1
  by_cases q : ValidV VV
  · rw [bB_yes q]
    by_cases h2 : NmOk n nms
    · have hA2 : ¬ (kk = 1 ∨ kk = 3 ∨ kk = 0) := fun e => hA ⟨q, h2, XK ▸ e⟩
      have hF := XF.out q
      have hk := hF.h_kind
      have hlen := hF.h_len
      have hit := hF.h_items
      have hnull := hF.h_null
      obtain ⟨x1, x2⟩ := XY.out q h2
      have X1 := Lib.hid x1
      have X2 := Lib.hid x2
      obtain ⟨n0, n40, hnm⟩ := h2
      obtain ⟨N, rfl⟩ : ∃ N : Nat, n = N := ⟨n.toNat, by omega⟩
      have hNN : (N : Int).toNat = N := rfl
      rw [hNN] at X1
      have hl40 : ¬ kk = 5 → items.length ≤ 40 := fun h => by unfold lenV at hlen; rw [if_neg h] at hlen; omega
      have HIT := Lib.hid hit
      have CL := Lib.hid (fun W => by have h := l1In_any (N : Int) 0 40 W; rw [decide_eq_true ⟨n0, n40⟩] at h; exact h)
      have hnm' : nms.length = 0 ∨ nms.length = N := by omega
      have hnp : (((nms.length : Nat) : Int) != 0) = false ∨ ((((nms.length : Nat) : Int) != 0) = true ∧ (((nms.length : Nat) : Int) != (N : Int)) = false) := by
        rcases hnm' with e | e
        · exact .inl (by rw [e]; rfl)
        · by_cases e0 : nms.length = 0
          · exact .inl (by rw [e0]; rfl)
          · exact .inr ⟨bne_iff_ne.2 (by omega), by rw [e]; simp⟩
      clear x1 x2 hF XF XY hlen hit hNN
      have NUM := Lib.hid (fun (h3 : kk = 2) (W : World) (hb : Below w.heap.size w W) => specNumbers items ai ci lo hi N W (HI.out W hb) (Nat.le_trans hhi hb.size) (by have := hl40 (by omega); omega) (by omega) (fun i hi => numIt_of (HIT.out i hi).1 (by omega)))
      have KA2 := Lib.hid (show w2.heap[w.heap.size]? = some (.cells #[.int .i64 kk, .slice ai items.length ci, .slice ap parts.length cp, .slice an names.length cn, .slice ac cls.length cc, .slice al levels.length cl, .int .i64 code, .int .i64 env] 31 (0, 0)) from (ST.out.below.block _ HSA.out).trans KA.out)
      obtain ⟨k0, k1, k2, k3, k4, k5, k6, k7⟩ := vec8 KA2.out
      have W2N := Lib.hid (show Below w.heap.size w w2 from below_then BA.out ST.out.below)
      have hkk : 4 ≤ kk ∨ kk = 2 := by omega
      clear q hA hVV XK
      rcases hkk with hk4 | rfl
      · have X1 := Lib.hid (X1.out.trans (rk_list hk4).1)
        have X2 := Lib.hid (X2.out.trans (rk_list hk4 (names := []) (n := 0)).2)
        clear NUM HIT hl40 HI HT hnm'
        rcases hnp with hnp | ⟨hnp, hnq⟩
        · go_wp2_with fail
          refine (CL.out _).mono ?_
          rintro e wq ⟨rfl, rfl⟩
          go_wp2
          go_ret2
          exact ⟨_, by rw [X2.out]; rfl, by rw [X1.out]; exact ST.out.wide BA.out⟩
        · go_wp2_with fail
          refine (CL.out _).mono ?_
          rintro e wq ⟨rfl, rfl⟩
          go_wp2
          go_ret2
          exact ⟨_, by rw [X2.out]; rfl, by rw [X1.out]; exact ST.out.wide BA.out⟩
      · have X1 := Lib.hid (X1.out.trans rk_num.1)
        have X2 := Lib.hid (X2.out.trans (rk_num (names := []) (n := 0)).2)
        clear HIT hl40 HI HT hnm'
        rcases hnp with hnp | ⟨hnp, hnq⟩
        · go_wp2_with fail
          refine (CL.out _).mono ?_
          rintro e wq ⟨rfl, rfl⟩
          go_wp2_with fail
          refine (NUM.out (by first | trivial | rfl) _ W2N.out).mono ?_
          rintro e w4 ⟨v, rfl, hz⟩
          have HZ := Lib.hid (hz.wide W2N.out)
          clear hz
          go_wp2
          go_ret2
          exact ⟨_, by rw [X2.out]; rfl, by rw [X1.out]; exact HZ.out⟩
        · go_wp2_with fail
          refine (CL.out _).mono ?_
          rintro e wq ⟨rfl, rfl⟩
          go_wp2_with fail
          refine (NUM.out (by first | trivial | rfl) _ W2N.out).mono ?_
          rintro e w4 ⟨v, rfl, hz⟩
          have HZ := Lib.hid (hz.wide W2N.out)
          clear hz
          go_wp2
          go_ret2
          exact ⟨_, by rw [X2.out]; rfl, by rw [X1.out]; exact HZ.out⟩
    · have XX := Lib.hid (rs_names q h2)
      have EN := Lib.hid (show ResZ (rsZ n nms VV) (rsS n nms VV) w (.returned (.tuple #[.slice (some ⟨w.heap.size + 1, 0, none⟩) 0 0, .string innB])) w2 from ⟨_, by rw [XX.out.2], by rw [XX.out.1]; exact ST.out.wide BA.out⟩)
      have CL := Lib.hid (fun W => l1In_any n 0 40 W)
      obtain ⟨ln, hln⟩ : ∃ x, nms.length = x := ⟨_, rfl⟩
      have hno : ¬ (0 ≤ n ∧ n ≤ 40 ∧ (ln = 0 ∨ (ln : Int) = n)) := by rw [← hln]; exact h2
      rw [hln]
      clear q XY XF HI HT h2 hln ln2 XX hA hVV XK
      by_cases hn : 0 ≤ n ∧ n ≤ 40
      · have CL := Lib.hid (fun W => by have h := CL.out W; rw [decide_eq_true hn] at h; exact h)
        have h3 : 0 < ln ∧ ¬ (ln : Int) = n := by omega
        obtain ⟨h3, h4⟩ := h3
        have h3' : ¬ ln = 0 := by omega
        have h3b : ((ln : Int) != 0) = true := bne_iff_ne.2 (by omega)
        have h4' : ((ln : Int) != n) = true := bne_iff_ne.2 h4
        clear hno
        go_wp2_with fail
        refine (CL.out _).mono ?_
        rintro e wq ⟨rfl, rfl⟩
        go_wp2
        go_ret2
        exact EN.out
      · have CL := Lib.hid (fun W => by have h := CL.out W; rw [decide_eq_false hn] at h; exact h)
        clear hno hn
        go_wp2_with fail
        refine (CL.out _).mono ?_
        rintro e wq ⟨rfl, rfl⟩
        go_wp2
        go_ret2
        exact EN.out
  · rw [bB_no q]
    have XX := Lib.hid (rs_bad (n := n) (names := nms) q)
    clear q XY XF hA hVV XK
    go_wp2
    go_ret2
    exact ⟨_, by rw [XX.out.2]; rfl, by rw [XX.out.1]; exact ST.out.wide BA.out⟩
end Go.Proofs.Ytpekdmocgjjhnaa

/- ResolvePositions of the reference: logical subscripts. -/
namespace Go.Proofs.Ytpekdmocgjjhnaa
open Go.RowKit
set_option maxRecDepth 100000
set_option linter.unusedVariables false

theorem name_row {w0 wx : World} {n B : Nat} {X : Array Value} {t : TypeId} (h1 : Below B w0 (wx.setRow n X)) (h2 : (wx.setRow n X).heap[n]? = some (.cells X t (0, 0))) : ∃ W, wx.setRow n X = W ∧ Below B w0 W ∧ W.heap[n]? = some (.cells X t (0, 0)) := ⟨_, rfl, h1, h2⟩
set_option maxHeartbeats 16000000 in
theorem specResolveL (d : Nat) (v : Vec) (val : Value) (n : Int) (nms : List ByteArray) (na : Option Addr) (nc lo hi lo2 hi2 : Nat) (w : World) (hv : VecAt lo hi w d v val) (hhi : hi ≤ w.heap.size) (hsm : Small d v) (hT : TextsAt lo2 hi2 w na nms) (hh2 : hi2 ≤ w.heap.size) (ln2 : nms.length ≤ 1048576) (q : ValidV v) (h2 : NmOk n nms) (hk1 : kindV v = 1) :
    Calls Try.prog 13 #[.int .i64 n, .slice na nms.length nc, val] w (ResZ (rsZ n nms v) (rsS n nms v) w) := by
  have C1 := Lib.hid (fun (w1 : World) (hb : Below w.heap.size w w1) => specIsVector d v val lo hi w1 (hv.below hb hhi) (Nat.le_trans hhi hb.size) hsm)
  obtain ⟨VV, hVV⟩ : ∃ V, v = V := ⟨_, rfl⟩
  rw [hVV] at C1 ⊢
  obtain ⟨kk, items, parts, names, cls, levels, code, env⟩ := v
  obtain ⟨d', ai, ci, ap, cp, an, cn, ac, cc, al, cl, ed, rfl, hI, hN, hC, hL, hP⟩ := vecAt_open hv
  subst ed
  have XK : kindV VV = kk := by rw [← hVV]; rfl
  have XY := Lib.hid (fun (h : ValidV VV) (h2 : NmOk n nms) => (by rw [← hVV] at h ⊢; exact rs_yes h h2 : rsZ n nms VV = rkZ kk items nms n.toNat ∧ rsS n nms VV = rkS kk items))
  have XF := Lib.hid (fun (h : ValidV VV) => (by rw [← hVV] at h; exact h.1.flat : FlatOk kk items parts.length names cls levels code env))
  have HI := Lib.hid (fun (W : World) (hb : Below w.heap.size w W) => hI.below hb hhi)
  have HT := Lib.hid (fun (W : World) (hb : Below w.heap.size w W) => hT.below hb hh2)
  clear hv hI hN hC hL hP hsm hT
  obtain ⟨wA, hwA⟩ : ∃ W, w.alloc (.cells #[.int .i64 kk, .slice ai items.length ci, .slice ap parts.length cp, .slice an names.length cn, .slice ac cls.length cc, .slice al levels.length cl, .int .i64 code, .int .i64 env] 31) = W := ⟨_, rfl⟩
  have BA := Lib.hid (show Below w.heap.size w wA from hwA ▸ below1 w _)
  have KA := Lib.hid (show wA.heap[w.heap.size]? = some (.cells #[.int .i64 kk, .slice ai items.length ci, .slice ap parts.length cp, .slice an names.length cn, .slice ac cls.length cc, .slice al levels.length cl, .int .i64 code, .int .i64 env] 31 (0, 0)) from hwA ▸ blk_new w _ rfl)
  have hsA : wA.heap.size = w.heap.size + 1 := by rw [← hwA]; simp
  have HSA := Lib.hid (show w.heap.size < wA.heap.size by omega)
  obtain ⟨w1, hw1⟩ : ∃ W, wA.alloc (.cells #[] 3) = W := ⟨_, rfl⟩
  have ST := Lib.hid (show IntZ wA w1 [] (.slice (some ⟨w.heap.size + 1, 0, none⟩) 0 0) from hsA ▸ hw1 ▸ IntZ.nil0 wA wA (Below.refl _ _))
  have EWA := Lib.hid hwA
  have EW1 := Lib.hid hw1
  clear hwA hw1 hsA
  rw [hVV] at q hk1
  rw [XK] at hk1
  subst hk1
  go_enter Try.func13, Try.ntmps13
  go_wp2_with fail
  rw [EWA.out, EW1.out]
  clear EWA EW1
  with_reducible refine (C1.out _ (below_then BA.out ST.out.below)).mono ?_
  rintro e w2 ⟨rfl, b⟩
  have ST := Lib.hid (ST.out.keep b)
  clear b C1
  rw [bB_yes q]
  have hF := XF.out q
  have hk := hF.h_kind
  have hlen := hF.h_len
  have hit := hF.h_items
  have hnull := hF.h_null
  obtain ⟨x1, x2⟩ := XY.out q h2
  have X1 := Lib.hid x1
  have X2 := Lib.hid x2
  obtain ⟨n0, n40, hnm⟩ := h2
  obtain ⟨N, rfl⟩ : ∃ N : Nat, n = N := ⟨n.toNat, by omega⟩
  have hNN : (N : Int).toNat = N := rfl
  rw [hNN] at X1
  have hl40 : ¬ (1 : Int) = 5 → items.length ≤ 40 := fun h => by unfold lenV at hlen; rw [if_neg h] at hlen; omega
  have HIT := Lib.hid hit
  have CL := Lib.hid (fun W => by have h := l1In_any (N : Int) 0 40 W; rw [decide_eq_true ⟨n0, n40⟩] at h; exact h)
  have hnm' : nms.length = 0 ∨ nms.length = N := by omega
  have hnp : (((nms.length : Nat) : Int) != 0) = false ∨ ((((nms.length : Nat) : Int) != 0) = true ∧ (((nms.length : Nat) : Int) != (N : Int)) = false) := by
    rcases hnm' with e | e
    · exact .inl (by rw [e]; rfl)
    · by_cases e0 : nms.length = 0
      · exact .inl (by rw [e0]; rfl)
      · exact .inr ⟨bne_iff_ne.2 (by omega), by rw [e]; simp⟩
  clear x1 x2 hF XF XY hlen hit hNN
  have KA2 := Lib.hid (show w2.heap[w.heap.size]? = some (.cells #[.int .i64 1, .slice ai items.length ci, .slice ap parts.length cp, .slice an names.length cn, .slice ac cls.length cc, .slice al levels.length cl, .int .i64 code, .int .i64 env] 31 (0, 0)) from (ST.out.below.block _ HSA.out).trans KA.out)
  obtain ⟨k0, k1, k2, k3, k4, k5, k6, k7⟩ := vec8 KA2.out
  have W2N := Lib.hid (show Below w.heap.size w w2 from below_then BA.out ST.out.below)
  clear q hVV XK
  have X1 := Lib.hid (X1.out.trans rk_lgc.1)
  have X2 := Lib.hid (X2.out.trans (rk_lgc (items := items) (names := []) (n := 0)).2)
  have AI := Lib.hid (fun (k : Nat) (W : World) (hk : k < items.length) (hb : Below w.heap.size w W) => (HI.out W hb).at_ hk)
  have LT := Lib.hid (fun k (hk : k < items.length) => (by rcases (HIT.out k hk).1 with h | ⟨_, h1, h2, h3, _⟩ | ⟨h, _⟩ | ⟨h, _⟩; exact .inl h; exact .inr ⟨h1, h2, h3⟩; exact absurd h (by decide); exact absurd h (by decide) : items.getD k noI = noI ∨ (items.getD k noI).d = 1 ∧ 0 ≤ (items.getD k noI).n ∧ (items.getD k noI).n ≤ 1))
  have LE := Lib.hid (lgP_len items)
  have PM := Lib.hid (fun k h => lgP_miss (l := items) (k := k) h)
  have PY := Lib.hid (fun k h => lgP_yes (l := items) (k := k) h)
  have PN := Lib.hid (fun k h => lgP_no (l := items) (k := k) h)
  have ST := Lib.hid (show IntZ wA w2 (lgP items 0) (.slice (some ⟨w.heap.size + 1, 0, none⟩) 0 0) from ST.out)
  have L40 := hl40 (by decide)
  by_cases h0 : items.length = 0
  · have EM := lgM_zero (n := N) h0
    rw [EM] at X1
    rw [h0] at k1
    clear HIT hl40 HI HT hnm' AI LT LE PM PY PN EM h0 L40
    rcases hnp with hnp | ⟨hnp, hnq⟩
    · go_wp2_with fail
      refine (CL.out _).mono ?_
      rintro e wq ⟨rfl, rfl⟩
      go_wp2
      go_loopw [8, 11] (fun v i wr => v = .slice (some ⟨w.heap.size + 1, 0, none⟩) 0 0 ∧ i = .int .i64 0 ∧ wr = w2) (fun _ _ _ => 0)
      case atStart => exact ⟨rfl, rfl, rfl⟩
      case round =>
        obtain ⟨rfl, rfl, rfl⟩ := hrel
        go_wp2
        go_ret2
        exact ⟨_, by rw [X2.out]; rfl, by rw [X1.out]; exact ST.out.wide BA.out⟩
    · go_wp2_with fail
      refine (CL.out _).mono ?_
      rintro e wq ⟨rfl, rfl⟩
      go_wp2
      go_loopw [8, 11] (fun v i wr => v = .slice (some ⟨w.heap.size + 1, 0, none⟩) 0 0 ∧ i = .int .i64 0 ∧ wr = w2) (fun _ _ _ => 0)
      case atStart => exact ⟨rfl, rfl, rfl⟩
      case round =>
        obtain ⟨rfl, rfl, rfl⟩ := hrel
        go_wp2
        go_ret2
        exact ⟨_, by rw [X2.out]; rfl, by rw [X1.out]; exact ST.out.wide BA.out⟩
  · have EM := lgM_pos (n := N) h0
    obtain ⟨m, hm⟩ : ∃ m, lgM items N = m := ⟨_, rfl⟩
    rw [hm] at EM X1
    obtain ⟨L, hL⟩ : ∃ L, items.length = L := ⟨_, rfl⟩
    rw [hL] at AI LT PM PY PN EM L40 h0 k1
    have KA := Lib.hid (hL ▸ KA.out)
    have hLp : 0 < L := by omega
    have hLi : (0 : Int) < (L : Int) := by omega
    have h0b : ((L : Int) == 0) = false := beq_eq_false_iff_ne.2 (by omega)
    have hm40 : m ≤ 40 := by omega
    obtain ⟨l, hl⟩ : ∃ l, items = l := ⟨_, rfl⟩
    rw [hl] at LT LE PM PY PN ST X1 AI
    have hmx : (if (N : Int) < (L : Int) then (L : Int) else (N : Int)) = (m : Int) := by rw [EM]; split <;> omega
    have hmy : (if N < L then (L : Int) else (N : Int)) = (m : Int) := by rw [EM]; split <;> omega
    clear HIT hl40 HI HT hnm' hm EM h0 KA2 n0 n40 hnm
    rcases hnp with hnp | ⟨hnp, hnq⟩
    · go_wp2_with fail
      refine (CL.out _).mono ?_
      rintro e wq ⟨rfl, rfl⟩
      go_wp2
      go_loopw [8, 11] (fun v i wr => ∃ k : Nat, k ≤ m ∧ i = .int .i64 k ∧ IntZ wA wr (lgP l k) v) (fun _ i _ => m - (intOf i).toNat)
      case atStart => exact ⟨0, Nat.zero_le _, rfl, ST.out⟩
      case round =>
        obtain ⟨k, hk, rfl, hir⟩ := hrel
        have IR := Lib.hid hir
        clear hir
        have KAr := Lib.hid (show wr.heap[w.heap.size]? = some (.cells #[.int .i64 1, .slice ai L ci, .slice ap parts.length cp, .slice an names.length cn, .slice ac cls.length cc, .slice al levels.length cl, .int .i64 code, .int .i64 env] 31 (0, 0)) from (IR.out.below.block _ HSA.out).trans KA.out)
        by_cases hlt : k < m
        · have hmk0 : k % L < L := Nat.mod_lt k hLp
          obtain ⟨ba, off, rfl, hbB, c0, c1, c2'⟩ := AI.out (k % L) wr hmk0 (below_then BA.out IR.out.below)
          have c2 : wr.cell? ⟨ba, off + k % L * 3 + 2, none⟩ = some (.string (l.getD (k % L) noI).t) := c2'
          have LN := Lib.hid (show (lgP l k).length ≤ 1048576 by have := LE.out k; omega)
          have P1 := Lib.hid (PM.out k)
          have P2 := Lib.hid (PY.out k)
          have P3 := Lib.hid (PN.out k)
          have IT := LT.out (k % L) hmk0
          have hbw : ba < wr.heap.size := Nat.lt_of_lt_of_le hbB (Nat.le_trans hhi (Nat.le_trans BA.out.size IR.out.below.size))
          obtain ⟨x, hx⟩ : ∃ x, l.getD (k % L) noI = x := ⟨_, rfl⟩
          rw [hx] at c0 c1 c2 P1 P2 P3 IT
          have HMOD := Lib.hid (show (k : Int).tmod (L : Int) = ((k % L : Nat) : Int) from rfl)
          obtain ⟨q, hq⟩ : ∃ q, k % L = q := ⟨_, rfl⟩
          have hmk : q < L := hq ▸ hmk0
          rw [hq] at c0 c1 c2 HMOD
          have H := Lib.hid (show HeldC wr wr [(w.heap.size, 31, #[.int .i64 1, .slice (some ⟨ba, off, none⟩) L ci, .slice ap parts.length cp, .slice an names.length cn, .slice ac cls.length cc, .slice al levels.length cl, .int .i64 code, .int .i64 env])] from heldC_one (Below.refl _ _) KAr.out)
          obtain ⟨k0, k1, k2, k3, k4, k5, k6, k7⟩ := vec8 KAr.out
          clear hx c2' hq
          go_upto_region 15 with (fail)
          clear k0 k1 k2 k3 k4 k5 k6 k7
          refine run_regionT (ops := (opsOf Try.f13 15)) (S := fun w' => HeldC wr w' ([(w.heap.size, 31, #[.int .i64 1, .slice (some ⟨ba, off, none⟩) L ci, .slice ap parts.length cp, .slice an names.length cn, .slice ac cls.length cc, .slice al levels.length cl, .int .i64 code, .int .i64 env])])) (.leaf [(0, true), (1, true), (2, true), (3, true), (4, true), (5, true), (6, true), (7, true), (8, true), (9, false), (10, false)]) (by kernel_rfl) (by kernel_rfl) (by kernel_rfl) (by kernel_rfl) (by kernel_rfl) (fun _ _ _ _ _ h => h) (heldC_drew H.out) ?_
          have H := Lib.hid (heldC_drew H.out)
          refine runC_partV (b := w.heap.size) (by kernel_rfl) (show opAt (opsOf Try.f13 15) 0 = some (some 76, .fieldAddr 31 (.tmp 5) 1, none) from by kernel_rfl) (by kernel_rfl) (by kernel_rfl) (by kernel_rfl) ?_
          refine runC_cell (b := w.heap.size) (j := 1) (v := .slice (some ⟨ba, off, none⟩) L ci) load_its (show opAt (opsOf Try.f13 15) 1 = some (some 77, .load 28 (.tmp 76), none) from by kernel_rfl) (by kernel_rfl) (by kernel_rfl) (by kernel_rfl) (List.Mem.head _) rfl ?_
          refine run_mov (v := .int .i64 ((k : Int))) (show opAt (opsOf Try.f13 15) 2 = some (some 78, .move (.tmp 11), none) from by kernel_rfl) (by kernel_rfl) (by kernel_rfl) (by kernel_rfl) ?_
          refine runC_partV (b := w.heap.size) (by kernel_rfl) (show opAt (opsOf Try.f13 15) 3 = some (some 79, .fieldAddr 31 (.tmp 5) 1, none) from by kernel_rfl) (by kernel_rfl) (by kernel_rfl) (by kernel_rfl) ?_
          refine runC_cell (b := w.heap.size) (j := 1) (v := .slice (some ⟨ba, off, none⟩) L ci) load_its (show opAt (opsOf Try.f13 15) 4 = some (some 80, .load 28 (.tmp 79), none) from by kernel_rfl) (by kernel_rfl) (by kernel_rfl) (by kernel_rfl) (List.Mem.head _) rfl ?_
          refine run_len (b := (some ⟨ba, off, none⟩)) (n := L) (c := ci) (show opAt (opsOf Try.f13 15) 5 = some (some 81, .call { callee := .builtin .len, args := [(.tmp 80)].toArray, argTypes := [28].toArray }, none) from by kernel_rfl) (by kernel_rfl) (by kernel_rfl) (by kernel_rfl) (by kernel_rfl) ?_
          refine run_rem (k := .i64) (p := (k : Int)) (q := (L : Int)) (z := ((q : Nat) : Int)) (show opAt (opsOf Try.f13 15) 6 = some (some 82, .binOp .rem 3 (.tmp 78) (.tmp 81) 3, none) from by kernel_rfl) (by kernel_rfl) (by kernel_rfl) (by kernel_rfl) (by kernel_rfl) ⟨by omega, by first | exact HMOD.out | (have := HMOD.out; simpa using this)⟩ ?_
          refine run_idx3 (n := L) (c := ci) (b := ba) (off := off) (k := q) (show opAt (opsOf Try.f13 15) 7 = some (some 83, .indexAddr 28 (.tmp 77) (.tmp 82), none) from by kernel_rfl) (by kernel_rfl) (by kernel_rfl) (by kernel_rfl) (by kernel_rfl) hmk ?_
          refine runC_oldI (b := ba) (j := off + q * 3) (z := x) (show opAt (opsOf Try.f13 15) 8 = some (some 84, .load 63 (.tmp 83), none) from by kernel_rfl) (by kernel_rfl) (by kernel_rfl) (by kernel_rfl) hbw c0 c1 c2 ?_
          refine run_new (C := #[.int .i64 0, .int .i64 0, .string ⟨#[]⟩]) (show opAt (opsOf Try.f13 15) 9 = some (some 12, .alloc 63, none) from by kernel_rfl) (by kernel_rfl) (by kernel_rfl) new_item (fun W9 n9 hW9 hn9 => ?_)
          subst hW9
          refine ⟨heldC_call H.out (below1 _ _), ?_⟩
          have N9 := Lib.hid (⟨blk_new _ _ hn9⟩ : NewB n9 63 #[.int .i64 0, .int .i64 0, .string ⟨#[]⟩] _)
          have G9 := Lib.hid (by rw [hn9]; exact H.out.1.size : wr.heap.size ≤ n9)
          have F9_0 := Lib.hid (by rw [hn9]; exact (Array.getElem?_eq_some_iff.1 (heldC_at H.out (List.Mem.head _))).1 : w.heap.size < n9)
          have H := Lib.hid (heldC_call H.out (below1 _ (.cells #[.int .i64 0, .int .i64 0, .string ⟨#[]⟩] 63)))
          have NE9 := Lib.hid hn9
          clear hn9
          refine run_last (by kernel_rfl) (show opAt (opsOf Try.f13 15) 10 = some (none, .store 63 (.tmp 12) (.tmp 84), none) from by kernel_rfl) (by kernel_rfl) (by kernel_rfl) (by kernel_rfl) (store_item (u := .int .i64 x.n) (v := .int .i64 x.d) (q := .string x.t) N9.out.out rfl rfl rfl) ?_
          refine run_done ?_
          simp only [putAll, Act.put, List.setIfInBounds_toArray, List.set_cons_zero, List.set_cons_succ]
          have F0 := F9_0.out
          have G0 := G9.out
          obtain ⟨wb, hwb, br, kx⟩ := name_row (below_row H.out.1 G0 #[.int .i64 x.n, .int .i64 x.d, .string x.t]) (row_set (c := #[.int .i64 x.n, .int .i64 x.d, .string x.t]) N9.out.out)
          rw [hwb]
          have KX := Lib.hid kx
          have BR := Lib.hid br
          clear hwb br kx G0 F0 H N9 G9 F9_0 NE9
          rcases IT with rfl | ⟨h1, h2, h3⟩
          · have NX := Lib.hid (P1.out rfl)
            clear P1 P2 P3
            have IR := Lib.hid (IR.out.keep BR.out)
            have c0x := cellOf KX.out (i := 0) rfl
            have c1x := cellOf KX.out (i := 1) rfl
            have c2x := cellOf KX.out (i := 2) rfl
            go_wp2_with (at_builtin; go_loud (refine wpList_appInt rfl _ _ rfl 0 (lgP l k) _ _ rfl rfl (IR.out.keep (below1 _ _)) (blk_new _ _ rfl) LN.out ?_))
            intro v' w3 hir
            have IN := Lib.hid (NX.out ▸ hir)
            clear hir
            go_wp2
            go_roundw
            case rel => exact ⟨k + 1, by omega, by go_num, IN.out⟩
            case measure => simp [intOf]; omega
          · have hd0 : ¬ x.d = 0 := by omega
            have hd0b : (x.d == 0) = false := beq_eq_false_iff_ne.2 hd0
            by_cases hn1 : x.n = 1
            · have NX := Lib.hid (P2.out (by unfold truthI; rw [if_neg hd0, if_neg (by omega)]))
              have hn1b : (x.n == 1) = true := by rw [hn1]; rfl
              clear P1 P2 P3
              have IR := Lib.hid (IR.out.keep BR.out)
              have c0x := cellOf KX.out (i := 0) rfl
              have c1x := cellOf KX.out (i := 1) rfl
              have c2x := cellOf KX.out (i := 2) rfl
              go_wp2_with (at_builtin; go_loud (refine wpList_appInt rfl _ _ rfl ((k : Int) + 1) (lgP l k) _ _ rfl rfl (IR.out.keep (below1 _ _)) (blk_new _ _ rfl) LN.out ?_))
              intro v' w3 hir
              have IN := Lib.hid (NX.out ▸ hir)
              clear hir
              go_wp2
              go_roundw
              case rel => exact ⟨k + 1, by omega, by go_num, IN.out⟩
              case measure => simp [intOf]; omega
            · have NX := Lib.hid (P3.out (by unfold truthI; rw [if_neg hd0, if_pos (by omega)]))
              have hn1b : (x.n == 1) = false := beq_eq_false_iff_ne.2 hn1
              clear P1 P2 P3
              have IR := Lib.hid (IR.out.keep BR.out)
              have c0x := cellOf KX.out (i := 0) rfl
              have c1x := cellOf KX.out (i := 1) rfl
              have c2x := cellOf KX.out (i := 2) rfl
              have IN := Lib.hid (NX.out ▸ IR.out)
              go_wp2
              go_roundw
              case rel => exact ⟨k + 1, by omega, by go_num, IN.out⟩
              case measure => simp [intOf]; omega
        · obtain rfl : k = m := by omega
          obtain ⟨k0, k1, k2, k3, k4, k5, k6, k7⟩ := vec8 KAr.out
          go_wp2
          go_ret2
          exact ⟨_, by rw [X2.out]; rfl, by rw [X1.out]; exact IR.out.wide BA.out⟩
    · go_wp2_with fail
      refine (CL.out _).mono ?_
      rintro e wq ⟨rfl, rfl⟩
      go_wp2
      go_loopw [8, 11] (fun v i wr => ∃ k : Nat, k ≤ m ∧ i = .int .i64 k ∧ IntZ wA wr (lgP l k) v) (fun _ i _ => m - (intOf i).toNat)
      case atStart => exact ⟨0, Nat.zero_le _, rfl, ST.out⟩
      case round =>
        obtain ⟨k, hk, rfl, hir⟩ := hrel
        have IR := Lib.hid hir
        clear hir
        have KAr := Lib.hid (show wr.heap[w.heap.size]? = some (.cells #[.int .i64 1, .slice ai L ci, .slice ap parts.length cp, .slice an names.length cn, .slice ac cls.length cc, .slice al levels.length cl, .int .i64 code, .int .i64 env] 31 (0, 0)) from (IR.out.below.block _ HSA.out).trans KA.out)
        by_cases hlt : k < m
        · have hmk0 : k % L < L := Nat.mod_lt k hLp
          obtain ⟨ba, off, rfl, hbB, c0, c1, c2'⟩ := AI.out (k % L) wr hmk0 (below_then BA.out IR.out.below)
          have c2 : wr.cell? ⟨ba, off + k % L * 3 + 2, none⟩ = some (.string (l.getD (k % L) noI).t) := c2'
          have LN := Lib.hid (show (lgP l k).length ≤ 1048576 by have := LE.out k; omega)
          have P1 := Lib.hid (PM.out k)
          have P2 := Lib.hid (PY.out k)
          have P3 := Lib.hid (PN.out k)
          have IT := LT.out (k % L) hmk0
          have hbw : ba < wr.heap.size := Nat.lt_of_lt_of_le hbB (Nat.le_trans hhi (Nat.le_trans BA.out.size IR.out.below.size))
          obtain ⟨x, hx⟩ : ∃ x, l.getD (k % L) noI = x := ⟨_, rfl⟩
          rw [hx] at c0 c1 c2 P1 P2 P3 IT
          have HMOD := Lib.hid (show (k : Int).tmod (L : Int) = ((k % L : Nat) : Int) from rfl)
          obtain ⟨q, hq⟩ : ∃ q, k % L = q := ⟨_, rfl⟩
          have hmk : q < L := hq ▸ hmk0
          rw [hq] at c0 c1 c2 HMOD
          have H := Lib.hid (show HeldC wr wr [(w.heap.size, 31, #[.int .i64 1, .slice (some ⟨ba, off, none⟩) L ci, .slice ap parts.length cp, .slice an names.length cn, .slice ac cls.length cc, .slice al levels.length cl, .int .i64 code, .int .i64 env])] from heldC_one (Below.refl _ _) KAr.out)
          obtain ⟨k0, k1, k2, k3, k4, k5, k6, k7⟩ := vec8 KAr.out
          clear hx c2' hq
          go_upto_region 15 with (fail)
          clear k0 k1 k2 k3 k4 k5 k6 k7
          refine run_regionT (ops := (opsOf Try.f13 15)) (S := fun w' => HeldC wr w' ([(w.heap.size, 31, #[.int .i64 1, .slice (some ⟨ba, off, none⟩) L ci, .slice ap parts.length cp, .slice an names.length cn, .slice ac cls.length cc, .slice al levels.length cl, .int .i64 code, .int .i64 env])])) (.leaf [(0, true), (1, true), (2, true), (3, true), (4, true), (5, true), (6, true), (7, true), (8, true), (9, false), (10, false)]) (by kernel_rfl) (by kernel_rfl) (by kernel_rfl) (by kernel_rfl) (by kernel_rfl) (fun _ _ _ _ _ h => h) (heldC_drew H.out) ?_
          have H := Lib.hid (heldC_drew H.out)
          refine runC_partV (b := w.heap.size) (by kernel_rfl) (show opAt (opsOf Try.f13 15) 0 = some (some 76, .fieldAddr 31 (.tmp 5) 1, none) from by kernel_rfl) (by kernel_rfl) (by kernel_rfl) (by kernel_rfl) ?_
          refine runC_cell (b := w.heap.size) (j := 1) (v := .slice (some ⟨ba, off, none⟩) L ci) load_its (show opAt (opsOf Try.f13 15) 1 = some (some 77, .load 28 (.tmp 76), none) from by kernel_rfl) (by kernel_rfl) (by kernel_rfl) (by kernel_rfl) (List.Mem.head _) rfl ?_
          refine run_mov (v := .int .i64 ((k : Int))) (show opAt (opsOf Try.f13 15) 2 = some (some 78, .move (.tmp 11), none) from by kernel_rfl) (by kernel_rfl) (by kernel_rfl) (by kernel_rfl) ?_
          refine runC_partV (b := w.heap.size) (by kernel_rfl) (show opAt (opsOf Try.f13 15) 3 = some (some 79, .fieldAddr 31 (.tmp 5) 1, none) from by kernel_rfl) (by kernel_rfl) (by kernel_rfl) (by kernel_rfl) ?_
          refine runC_cell (b := w.heap.size) (j := 1) (v := .slice (some ⟨ba, off, none⟩) L ci) load_its (show opAt (opsOf Try.f13 15) 4 = some (some 80, .load 28 (.tmp 79), none) from by kernel_rfl) (by kernel_rfl) (by kernel_rfl) (by kernel_rfl) (List.Mem.head _) rfl ?_
          refine run_len (b := (some ⟨ba, off, none⟩)) (n := L) (c := ci) (show opAt (opsOf Try.f13 15) 5 = some (some 81, .call { callee := .builtin .len, args := [(.tmp 80)].toArray, argTypes := [28].toArray }, none) from by kernel_rfl) (by kernel_rfl) (by kernel_rfl) (by kernel_rfl) (by kernel_rfl) ?_
          refine run_rem (k := .i64) (p := (k : Int)) (q := (L : Int)) (z := ((q : Nat) : Int)) (show opAt (opsOf Try.f13 15) 6 = some (some 82, .binOp .rem 3 (.tmp 78) (.tmp 81) 3, none) from by kernel_rfl) (by kernel_rfl) (by kernel_rfl) (by kernel_rfl) (by kernel_rfl) ⟨by omega, by first | exact HMOD.out | (have := HMOD.out; simpa using this)⟩ ?_
          refine run_idx3 (n := L) (c := ci) (b := ba) (off := off) (k := q) (show opAt (opsOf Try.f13 15) 7 = some (some 83, .indexAddr 28 (.tmp 77) (.tmp 82), none) from by kernel_rfl) (by kernel_rfl) (by kernel_rfl) (by kernel_rfl) (by kernel_rfl) hmk ?_
          refine runC_oldI (b := ba) (j := off + q * 3) (z := x) (show opAt (opsOf Try.f13 15) 8 = some (some 84, .load 63 (.tmp 83), none) from by kernel_rfl) (by kernel_rfl) (by kernel_rfl) (by kernel_rfl) hbw c0 c1 c2 ?_
          refine run_new (C := #[.int .i64 0, .int .i64 0, .string ⟨#[]⟩]) (show opAt (opsOf Try.f13 15) 9 = some (some 12, .alloc 63, none) from by kernel_rfl) (by kernel_rfl) (by kernel_rfl) new_item (fun W9 n9 hW9 hn9 => ?_)
          subst hW9
          refine ⟨heldC_call H.out (below1 _ _), ?_⟩
          have N9 := Lib.hid (⟨blk_new _ _ hn9⟩ : NewB n9 63 #[.int .i64 0, .int .i64 0, .string ⟨#[]⟩] _)
          have G9 := Lib.hid (by rw [hn9]; exact H.out.1.size : wr.heap.size ≤ n9)
          have F9_0 := Lib.hid (by rw [hn9]; exact (Array.getElem?_eq_some_iff.1 (heldC_at H.out (List.Mem.head _))).1 : w.heap.size < n9)
          have H := Lib.hid (heldC_call H.out (below1 _ (.cells #[.int .i64 0, .int .i64 0, .string ⟨#[]⟩] 63)))
          have NE9 := Lib.hid hn9
          clear hn9
          refine run_last (by kernel_rfl) (show opAt (opsOf Try.f13 15) 10 = some (none, .store 63 (.tmp 12) (.tmp 84), none) from by kernel_rfl) (by kernel_rfl) (by kernel_rfl) (by kernel_rfl) (store_item (u := .int .i64 x.n) (v := .int .i64 x.d) (q := .string x.t) N9.out.out rfl rfl rfl) ?_
          refine run_done ?_
          simp only [putAll, Act.put, List.setIfInBounds_toArray, List.set_cons_zero, List.set_cons_succ]
          have F0 := F9_0.out
          have G0 := G9.out
          obtain ⟨wb, hwb, br, kx⟩ := name_row (below_row H.out.1 G0 #[.int .i64 x.n, .int .i64 x.d, .string x.t]) (row_set (c := #[.int .i64 x.n, .int .i64 x.d, .string x.t]) N9.out.out)
          rw [hwb]
          have KX := Lib.hid kx
          have BR := Lib.hid br
          clear hwb br kx G0 F0 H N9 G9 F9_0 NE9
          rcases IT with rfl | ⟨h1, h2, h3⟩
          · have NX := Lib.hid (P1.out rfl)
            clear P1 P2 P3
            have IR := Lib.hid (IR.out.keep BR.out)
            have c0x := cellOf KX.out (i := 0) rfl
            have c1x := cellOf KX.out (i := 1) rfl
            have c2x := cellOf KX.out (i := 2) rfl
            go_wp2_with (at_builtin; go_loud (refine wpList_appInt rfl _ _ rfl 0 (lgP l k) _ _ rfl rfl (IR.out.keep (below1 _ _)) (blk_new _ _ rfl) LN.out ?_))
            intro v' w3 hir
            have IN := Lib.hid (NX.out ▸ hir)
            clear hir
            go_wp2
            go_roundw
            case rel => exact ⟨k + 1, by omega, by go_num, IN.out⟩
            case measure => simp [intOf]; omega
          · have hd0 : ¬ x.d = 0 := by omega
            have hd0b : (x.d == 0) = false := beq_eq_false_iff_ne.2 hd0
            by_cases hn1 : x.n = 1
            · have NX := Lib.hid (P2.out (by unfold truthI; rw [if_neg hd0, if_neg (by omega)]))
              have hn1b : (x.n == 1) = true := by rw [hn1]; rfl
              clear P1 P2 P3
              have IR := Lib.hid (IR.out.keep BR.out)
              have c0x := cellOf KX.out (i := 0) rfl
              have c1x := cellOf KX.out (i := 1) rfl
              have c2x := cellOf KX.out (i := 2) rfl
              go_wp2_with (at_builtin; go_loud (refine wpList_appInt rfl _ _ rfl ((k : Int) + 1) (lgP l k) _ _ rfl rfl (IR.out.keep (below1 _ _)) (blk_new _ _ rfl) LN.out ?_))
              intro v' w3 hir
              have IN := Lib.hid (NX.out ▸ hir)
              clear hir
              go_wp2
              go_roundw
              case rel => exact ⟨k + 1, by omega, by go_num, IN.out⟩
              case measure => simp [intOf]; omega
            · have NX := Lib.hid (P3.out (by unfold truthI; rw [if_neg hd0, if_pos (by omega)]))
              have hn1b : (x.n == 1) = false := beq_eq_false_iff_ne.2 hn1
              clear P1 P2 P3
              have IR := Lib.hid (IR.out.keep BR.out)
              have c0x := cellOf KX.out (i := 0) rfl
              have c1x := cellOf KX.out (i := 1) rfl
              have c2x := cellOf KX.out (i := 2) rfl
              have IN := Lib.hid (NX.out ▸ IR.out)
              go_wp2
              go_roundw
              case rel => exact ⟨k + 1, by omega, by go_num, IN.out⟩
              case measure => simp [intOf]; omega
        · obtain rfl : k = m := by omega
          obtain ⟨k0, k1, k2, k3, k4, k5, k6, k7⟩ := vec8 KAr.out
          go_wp2
          go_ret2
          exact ⟨_, by rw [X2.out]; rfl, by rw [X1.out]; exact IR.out.wide BA.out⟩
end Go.Proofs.Ytpekdmocgjjhnaa

/- ResolvePositions of the reference: texts, NULL. -/
namespace Go.Proofs.Ytpekdmocgjjhnaa
open Go.RowKit
set_option maxRecDepth 100000
set_option linter.unusedVariables false

theorem TxZ.wideT {w w2 w4 : World} {l : List ByteArray} {v : Value} (h : TxZ w2 w4 l v) (hb : Below w.heap.size w w2) : TxZ w w4 l v := by
  obtain ⟨⟨h1, h2⟩, h3⟩ := h
  refine ⟨⟨h1, h2.imp id ?_⟩, below_then hb h3⟩
  rintro ⟨g, cap, cur, e, hB, r⟩
  exact ⟨g, cap, cur, e, Nat.le_trans hb.size hB, r⟩
def lenS : Value → Nat
  | .slice _ n _ => n
  | _ => 0
theorem rk_text {kk : Int} {items : List It} {names : List ByteArray} {n : Nat} (h : kk = 3 ∨ (kk = 0 ∧ items.length = 0)) : rkZ kk items names n = teZ (padL names n) items ∧ rkS kk items = teS items := by
  rcases h with rfl | ⟨rfl, h⟩
  · exact rk_txt
  · have e := List.eq_nil_of_length_eq_zero h
    subst e
    obtain ⟨e1, e2⟩ := te_ok (K := padL names n) (l := []) (fun i hi => absurd hi (Nat.not_lt_zero _))
    rw [e1, e2]
    exact rk_null
set_option maxHeartbeats 16000000 in
theorem specResolveT (d : Nat) (v : Vec) (val : Value) (n : Int) (nms : List ByteArray) (na : Option Addr) (nc lo hi lo2 hi2 : Nat) (w : World) (hv : VecAt lo hi w d v val) (hhi : hi ≤ w.heap.size) (hsm : Small d v) (hT : TextsAt lo2 hi2 w na nms) (hh2 : hi2 ≤ w.heap.size) (ln2 : nms.length ≤ 1048576) (q : ValidV v) (h2 : NmOk n nms) (hk3 : kindV v = 3 ∨ kindV v = 0) :
    Calls Try.prog 13 #[.int .i64 n, .slice na nms.length nc, val] w (ResZ (rsZ n nms v) (rsS n nms v) w) := by
  have C1 := Lib.hid (fun (w1 : World) (hb : Below w.heap.size w w1) => specIsVector d v val lo hi w1 (hv.below hb hhi) (Nat.le_trans hhi hb.size) hsm)
  obtain ⟨VV, hVV⟩ : ∃ V, v = V := ⟨_, rfl⟩
  rw [hVV] at C1 ⊢
  obtain ⟨kk, items, parts, names, cls, levels, code, env⟩ := v
  obtain ⟨d', ai, ci, ap, cp, an, cn, ac, cc, al, cl, ed, rfl, hI, hN, hC, hL, hP⟩ := vecAt_open hv
  subst ed
  have XK : kindV VV = kk := by rw [← hVV]; rfl
  have XY := Lib.hid (fun (h : ValidV VV) (h2 : NmOk n nms) => (by rw [← hVV] at h ⊢; exact rs_yes h h2 : rsZ n nms VV = rkZ kk items nms n.toNat ∧ rsS n nms VV = rkS kk items))
  have XF := Lib.hid (fun (h : ValidV VV) => (by rw [← hVV] at h; exact h.1.flat : FlatOk kk items parts.length names cls levels code env))
  have HI := Lib.hid (fun (W : World) (hb : Below w.heap.size w W) => hI.below hb hhi)
  have HT := Lib.hid (fun (W : World) (hb : Below w.heap.size w W) => hT.below hb hh2)
  clear hv hI hN hC hL hP hsm hT
  obtain ⟨wA, hwA⟩ : ∃ W, w.alloc (.cells #[.int .i64 kk, .slice ai items.length ci, .slice ap parts.length cp, .slice an names.length cn, .slice ac cls.length cc, .slice al levels.length cl, .int .i64 code, .int .i64 env] 31) = W := ⟨_, rfl⟩
  have BA := Lib.hid (show Below w.heap.size w wA from hwA ▸ below1 w _)
  have KA := Lib.hid (show wA.heap[w.heap.size]? = some (.cells #[.int .i64 kk, .slice ai items.length ci, .slice ap parts.length cp, .slice an names.length cn, .slice ac cls.length cc, .slice al levels.length cl, .int .i64 code, .int .i64 env] 31 (0, 0)) from hwA ▸ blk_new w _ rfl)
  have hsA : wA.heap.size = w.heap.size + 1 := by rw [← hwA]; simp
  have HSA := Lib.hid (show w.heap.size < wA.heap.size by omega)
  obtain ⟨w1, hw1⟩ : ∃ W, wA.alloc (.cells #[] 3) = W := ⟨_, rfl⟩
  have ST := Lib.hid (show IntZ wA w1 [] (.slice (some ⟨w.heap.size + 1, 0, none⟩) 0 0) from hsA ▸ hw1 ▸ IntZ.nil0 wA wA (Below.refl _ _))
  have EWA := Lib.hid hwA
  have EW1 := Lib.hid hw1
  clear hwA hw1 hsA
  rw [hVV] at q hk3
  rw [XK] at hk3
  go_enter Try.func13, Try.ntmps13
  go_wp2_with fail
  rw [EWA.out, EW1.out]
  clear EWA EW1
  with_reducible refine (C1.out _ (below_then BA.out ST.out.below)).mono ?_
  rintro e w2 ⟨rfl, b⟩
  have ST := Lib.hid (ST.out.keep b)
  clear b C1
  rw [bB_yes q]
  have hF := XF.out q
  have hk := hF.h_kind
  have hlen := hF.h_len
  have hit := hF.h_items
  have hnull := hF.h_null
  obtain ⟨x1, x2⟩ := XY.out q h2
  have X1 := Lib.hid x1
  have X2 := Lib.hid x2
  obtain ⟨n0, n40, hnm⟩ := h2
  obtain ⟨N, rfl⟩ : ∃ N : Nat, n = N := ⟨n.toNat, by omega⟩
  have hNN : (N : Int).toNat = N := rfl
  rw [hNN] at X1
  have hl40 : ¬ kk = 5 → items.length ≤ 40 := fun h => by unfold lenV at hlen; rw [if_neg h] at hlen; omega
  have HIT := Lib.hid hit
  have CL := Lib.hid (fun W => by have h := l1In_any (N : Int) 0 40 W; rw [decide_eq_true ⟨n0, n40⟩] at h; exact h)
  have hnm' : nms.length = 0 ∨ nms.length = N := by omega
  have hnp : (((nms.length : Nat) : Int) != 0) = false ∨ ((((nms.length : Nat) : Int) != 0) = true ∧ (((nms.length : Nat) : Int) != (N : Int)) = false) := by
    rcases hnm' with e | e
    · exact .inl (by rw [e]; rfl)
    · by_cases e0 : nms.length = 0
      · exact .inl (by rw [e0]; rfl)
      · exact .inr ⟨bne_iff_ne.2 (by omega), by rw [e]; simp⟩
  clear x1 x2 hF XF XY hlen hit hNN
  have KA2 := Lib.hid (show w2.heap[w.heap.size]? = some (.cells #[.int .i64 kk, .slice ai items.length ci, .slice ap parts.length cp, .slice an names.length cn, .slice ac cls.length cc, .slice al levels.length cl, .int .i64 code, .int .i64 env] 31 (0, 0)) from (ST.out.below.block _ HSA.out).trans KA.out)
  obtain ⟨k0, k1, k2, k3, k4, k5, k6, k7⟩ := vec8 KA2.out
  have W2N := Lib.hid (show Below w.heap.size w w2 from below_then BA.out ST.out.below)
  clear q hVV XK
  have hkt : kk = 3 ∨ (kk = 0 ∧ items.length = 0) := by
    rcases hk3 with h | h
    · exact .inl h
    · exact .inr ⟨h, by have := (hnull h).1; omega⟩
  have RK := rk_text (names := nms) (n := N) hkt
  have X1 := Lib.hid (X1.out.trans RK.1)
  have X2 := Lib.hid (X2.out.trans RK.2)
  have HIT3 := Lib.hid (show ∀ i, i < items.length → ItOk 3 (items.getD i noI) from fun i hi => by
    rcases hkt with h | ⟨_, h⟩
    · have := (HIT.out i hi).1; rw [h] at this; exact this
    · omega)
  have L40 := hl40 (by omega)
  have hk4 : ¬ 4 ≤ kk := by omega
  have hk2b : (kk == 2) = false := beq_eq_false_iff_ne.2 (by omega)
  have hk1b : (kk == 1) = false := beq_eq_false_iff_ne.2 (by omega)
  have hnl : nms.length ≤ N := by omega
  have N40 : N ≤ 40 := by omega
  have PD := Lib.hid (show ∀ j, nms.length + j = N → nms ++ List.replicate j ⟨#[]⟩ = padL nms N from fun j hj => by unfold padL; rw [← hj, Nat.add_sub_cancel_left])
  have RJ := Lib.hid (show ∀ j, (nms ++ List.replicate j (⟨#[]⟩ : ByteArray)) ++ [⟨#[]⟩] = nms ++ List.replicate (j + 1) ⟨#[]⟩ from fun j => by rw [List.append_assoc, List.replicate_succ'])
  have RL := Lib.hid (show ∀ j, (nms ++ List.replicate j (⟨#[]⟩ : ByteArray)).length = nms.length + j from fun j => by rw [List.length_append, List.length_replicate])
  have AI := Lib.hid (fun (k : Nat) (W : World) (hk : k < items.length) (hb : Below w.heap.size w W) => (HI.out W hb).at_ hk)
  have KL := Lib.hid (fun k => (by have := txK_len (padL nms N) items k; rw [padL_len nms N hnl] at this; exact this : (txK (padL nms N) items k).length ≤ N + k))
  have PL := Lib.hid (txP_len (padL nms N) items)
  have PM := Lib.hid (fun k h => txP_miss (K := padL nms N) (l := items) (k := k) h)
  have PO := Lib.hid (fun k h0 h => txP_old (K := padL nms N) (l := items) (k := k) h0 h)
  have PN := Lib.hid (fun k h0 h => txP_new (K := padL nms N) (l := items) (k := k) h0 h)
  have KM := Lib.hid (fun k h => txK_miss (K := padL nms N) (l := items) (k := k) h)
  have KO := Lib.hid (fun k h => txK_old (K := padL nms N) (l := items) (k := k) h)
  have KN := Lib.hid (fun k h0 h => txK_new (K := padL nms N) (l := items) (k := k) h0 h)
  have TO := Lib.hid (fun h => te_ok (K := padL nms N) (l := items) h)
  have TB := Lib.hid (fun h => te_bad (K := padL nms N) (l := items) h)
  have K0 := Lib.hid (show txK (padL nms N) items 0 = padL nms N from rfl)
  have P0 := Lib.hid (show txP (padL nms N) items 0 = [] from rfl)
  have AT := Lib.hid (show AllT items ↔ ∀ i, i < items.length → OkT (items.getD i noI) from Iff.rfl)
  obtain ⟨K, hK⟩ : ∃ K : Nat → List ByteArray, txK (padL nms N) items = K := ⟨_, rfl⟩
  obtain ⟨Z, hZ⟩ : ∃ Z : Nat → List Int, txP (padL nms N) items = Z := ⟨_, rfl⟩
  rw [hK] at KL PO PN KM KO KN K0
  rw [hZ] at PL PM PO PN TO P0
  obtain ⟨PP, hPP⟩ : ∃ P, padL nms N = P := ⟨_, rfl⟩
  rw [hPP] at PD K0 TO TB X1
  obtain ⟨l, hl⟩ : ∃ l, items = l := ⟨_, rfl⟩
  rw [hl] at PO PN KM KO KN PM TO TB AT HIT3 AI L40 X1 X2 k1
  have KA := Lib.hid (hl ▸ KA.out)
  obtain ⟨m, hm⟩ : ∃ m, l.length = m := ⟨_, rfl⟩
  rw [hm] at AT HIT3 AI L40 TO k1
  have KA := Lib.hid (hm ▸ KA.out)
  obtain ⟨w3, hw3⟩ : ∃ W, w2.alloc (.cells #[] 9) = W := ⟨_, rfl⟩
  have B23 := Lib.hid (show Below w2.heap.size w2 w3 from hw3 ▸ below1 w2 _)
  have KS := Lib.hid (show w3.heap[w2.heap.size]? = some (.cells #[] 9 (0, 0)) from hw3 ▸ blk_new w2 _ rfl)
  have EW := Lib.hid hw3
  have HT3 := Lib.hid (HT.out w3 (below_then W2N.out B23.out))
  clear HIT hl40 HI HT hnm' RK hkt hnull hk hw3 hK hZ hPP hm KA2 hnm n0 n40 hk3
  rcases hnp with hnp | ⟨hnp, hnq⟩
  · go_wp2_with fail
    refine (CL.out _).mono ?_
    rintro e wq ⟨rfl, rfl⟩
    go_wp2_with (at_builtin; go_loud (rw [EW.out]; refine wpList_copyTz (w0 := w2) rfl _ _ rfl _ rfl (.inr ⟨w2.heap.size, Nat.le_refl _, rfl, KS.out⟩) B23.out na nc nms lo2 hi2 rfl HT3.out ln2 ?_))
    intro v13 w4 htz
    have I4 := Lib.hid (show IntZ wA w4 (Z 0) (.slice (some ⟨w.heap.size + 1, 0, none⟩) 0 0) from P0.out ▸ ST.out.keep htz.below)
    have T4 := Lib.hid (show TxZ wA w4 (nms ++ List.replicate 0 ⟨#[]⟩) v13 from by rw [List.replicate_zero, List.append_nil]; exact htz.wideT ST.out.below)
    clear htz k0 k1 k2 k3 k4 k5 k6 k7 EW KS B23 HT3
    obtain ⟨nn, hnn⟩ : ∃ x, nms.length = x := ⟨_, rfl⟩
    rw [hnn] at hnl RL PD
    clear hnn
    go_wp2
    go_loopw [13] (fun v13 wr => ∃ j : Nat, nn + j ≤ N ∧ TxZ wA wr (nms ++ List.replicate j ⟨#[]⟩) v13 ∧ IntZ wA wr (Z 0) (.slice (some ⟨w.heap.size + 1, 0, none⟩) 0 0)) (fun v13 _ => N - lenS v13)
    case atStart => exact ⟨0, hnl, T4.out, I4.out⟩
    case round =>
      obtain ⟨j, hj, ht, hz⟩ := hrel
      have TZ := Lib.hid ht
      have IZ := Lib.hid hz
      clear ht hz
      obtain ⟨s3, n3, c3, rfl⟩ := TZ.out.form
      obtain rfl := TZ.out.slice
      have hjl := RL.out j
      have RJ1 := Lib.hid (RJ.out j)
      have PD1 := Lib.hid (PD.out j)
      obtain ⟨KJ, hKJ⟩ : ∃ X, nms ++ List.replicate j (⟨#[]⟩ : ByteArray) = X := ⟨_, rfl⟩
      rw [hKJ] at TZ hjl RJ1 PD1 ⊢
      clear hKJ
      by_cases hlt : KJ.length < N
      · have LK := Lib.hid (show KJ.length ≤ 1048576 by omega)
        go_wp2_with (at_builtin; go_loud (refine wpList_appTx2 rfl _ _ rfl ⟨#[]⟩ KJ _ _ rfl rfl (TZ.out.keep (below1 _ _)) (blk_new _ _ rfl) LK.out (IZ.out.keep (below1 _ _)) ?_))
        intro v' w5 htx hir _
        obtain ⟨s4, n4, c4, rfl⟩ := htx.form
        obtain rfl := htx.slice
        have hl5 : (KJ ++ [(⟨#[]⟩ : ByteArray)]).length = KJ.length + 1 := by simp
        have IN := Lib.hid hir
        have TN := Lib.hid (show TxZ wA w5 (nms ++ List.replicate (j + 1) ⟨#[]⟩) _ from by rw [← RJ1.out]; exact htx)
        clear htx hir
        rw [hl5]
        rw [hl5] at TN
        go_wp2
        go_roundw
        case rel => exact ⟨j + 1, by omega, TN.out, IN.out⟩
        case measure => simp [lenS]; omega
      · have hle : KJ.length = N := by omega
        have hnlt : ¬ ((N : Int) < (N : Int)) := by omega
        obtain rfl := PD1.out (by omega)
        have T5 := Lib.hid (show TxZ wA wr (K 0) (.slice s3 KJ.length c3) from by rw [K0.out]; exact TZ.out)
        have I5 := Lib.hid IZ.out
        rw [hle]
        rw [hle] at T5
        clear TZ IZ RJ RJ1 PD PD1 hjl RL hlt hle hj
        go_wp2
        go_loopw [8, 13, 14] (fun v8 v13 v14 wr => ∃ k : Nat, k ≤ m ∧ v14 = .int .i64 k ∧ TxZ wA wr (K k) v13 ∧ IntZ wA wr (Z k) v8 ∧ ∀ j, j < k → OkT (l.getD j noI)) (fun _ _ v14 _ => m - (intOf v14).toNat)
        case atStart => exact ⟨0, Nat.zero_le _, rfl, T5.out, I5.out, fun _ h => absurd h (Nat.not_lt_zero _)⟩
        case round =>
          obtain ⟨k, hk, rfl, ht, hz, hok⟩ := hrel
          have TZ := Lib.hid ht
          have IZ := Lib.hid hz
          have OK := Lib.hid hok
          clear ht hz hok
          have KAr := Lib.hid (show wr.heap[w.heap.size]? = some (.cells #[.int .i64 kk, .slice ai m ci, .slice ap parts.length cp, .slice an names.length cn, .slice ac cls.length cc, .slice al levels.length cl, .int .i64 code, .int .i64 env] 31 (0, 0)) from (IZ.out.below.block _ HSA.out).trans KA.out)
          by_cases hlt : k < m
          · obtain ⟨ba, off, rfl, hbB, c0, c1, c2'⟩ := AI.out k wr hlt (below_then BA.out IZ.out.below)
            have c2 : wr.cell? ⟨ba, off + k * 3 + 2, none⟩ = some (.string (l.getD k noI).t) := c2'
            have IT := HIT3.out k hlt
            have LN := Lib.hid (show (Z k).length ≤ 1048576 by rw [PL.out k]; omega)
            have LK := Lib.hid (show (K k).length ≤ 1048576 by have := KL.out k; omega)
            have ATk := Lib.hid (show AllT l → OkT (l.getD k noI) from fun h => AT.out.1 h k hlt)
            have PM1 := Lib.hid (PM.out k)
            have PO1 := Lib.hid (PO.out k)
            have PN1 := Lib.hid (PN.out k)
            have KM1 := Lib.hid (KM.out k)
            have KO1 := Lib.hid (KO.out k)
            have KN1 := Lib.hid (KN.out k)
            have OKN := Lib.hid (show OkT (l.getD k noI) → ∀ j, j < k + 1 → OkT (l.getD j noI) from fun h j hj => by
              by_cases e : j = k
              · subst e; exact h
              · exact OK.out j (by omega))
            obtain ⟨x, hx⟩ : ∃ x, l.getD k noI = x := ⟨_, rfl⟩
            rw [hx] at c0 c1 c2 IT PM1 PO1 PN1 KM1 KO1 KN1 OKN ATk
            clear hx c2'
            have hcase : x = noI ∨ ∃ t : ByteArray, x = ⟨0, 1, t⟩ := by
              rcases IT with h | ⟨h, _⟩ | ⟨h, _⟩ | ⟨_, h1, h2, _⟩
              · exact .inl h
              · exact absurd h (by decide)
              · exact absurd h (by decide)
              · obtain ⟨xn, xd, xt⟩ := x
                have h1' : xn = 0 := h1
                have h2' : xd = 1 := h2
                subst h1' h2'
                exact .inr ⟨xt, rfl⟩
            obtain ⟨s8, n8, c8, rfl⟩ := TZ.out.form
            obtain rfl := TZ.out.slice
            rcases hcase with rfl | ⟨t, rfl⟩
            · have NX := Lib.hid (PM1.out rfl)
              have NK := Lib.hid (KM1.out rfl)
              have ON := Lib.hid (OKN.out (.inl rfl))
              clear PM1 PO1 PN1 KM1 KO1 KN1 OKN ATk IT
              obtain ⟨wa, hwa⟩ : ∃ W, wr.alloc (.cells #[.int .i64 0, .int .i64 0, .string ⟨#[]⟩] 63) = W := ⟨_, rfl⟩
              have BX := Lib.hid (show Below wr.heap.size wr wa from hwa ▸ below1 wr _)
              have KB := Lib.hid (show wa.heap[wr.heap.size]? = some (.cells #[.int .i64 0, .int .i64 0, .string ⟨#[]⟩] 63 (0, 0)) from hwa ▸ blk_new wr _ rfl)
              have TZ := Lib.hid (TZ.out.keep BX.out)
              have IZ := Lib.hid (IZ.out.keep BX.out)
              have EW := Lib.hid hwa
              have c0' : wr.cell? ⟨ba, off + k * 3, none⟩ = some (.int .i64 0) := c0
              have c1' : wr.cell? ⟨ba, off + k * 3 + 1, none⟩ = some (.int .i64 0) := c1
              have c2' : wr.cell? ⟨ba, off + k * 3 + 2, none⟩ = some (.string ⟨#[]⟩) := c2
              clear hwa c0 c1 c2
              have CI := Lib.hid (specFindAt ⟨#[]⟩ s8 (K k).length c8 (fun i => (K k).getD i ⟨#[]⟩) wa.heap.size wa (texts_strs TZ.out.texts) (by have := LK.out; omega))
              obtain ⟨z, hz⟩ : ∃ z, findF (⟨#[]⟩ : ByteArray) (fun i => (K k).getD i ⟨#[]⟩) (K k).length 0 = z := ⟨_, rfl⟩
              rw [hz] at CI
              clear hz
              obtain ⟨k0, k1, k2, k3, k4, k5, k6, k7⟩ := vec8 KAr.out
              go_upto_region 28 with (fail)
              rw [EW.out]
              clear k0 k1 k2 k3 k4 k5 k6 k7
              have k0 := cellOf KB.out (i := 0) rfl
              have k1 := cellOf KB.out (i := 1) rfl
              have k2 := cellOf KB.out (i := 2) rfl
              go_wp2_with fail
              refine CI.out.mono ?_
              rintro e wq ⟨rfl, rfl⟩
              go_wp2_with (at_builtin; go_loud (refine wpList_appInt2 rfl _ _ rfl 0 (Z k) _ _ rfl rfl (IZ.out.keep (below1 _ _)) (blk_new _ _ rfl) LN.out (TZ.out.keep (below1 _ _)) ?_))
              intro v' w9 hir htx
              have IN := Lib.hid (NX.out ▸ hir)
              have TN := Lib.hid (show TxZ wA w9 (K (k + 1)) _ from by rw [NK.out]; exact htx)
              clear hir htx
              go_wp2
              go_roundw
              case rel => exact ⟨k + 1, by omega, by go_num, TN.out, IN.out, ON.out⟩
              case measure => simp [intOf]; omega
            · have NN := Lib.hid (show ¬ (⟨0, 1, t⟩ : It) = noI from fun e => absurd (congrArg It.d e) (show ¬ (1 : Int) = 0 by decide))
              have PO2 := Lib.hid (show 0 ≤ findL (K k) t → Z (k + 1) = Z k ++ [findL (K k) t + 1] from fun h => PO1.out NN.out h)
              have PN2 := Lib.hid (show ¬ 0 ≤ findL (K k) t → Z (k + 1) = Z k ++ [((K k).length : Int) + 1] from fun h => PN1.out NN.out (by first | exact h | (have h' := h; simp only [Int.not_le] at h'; exact h')))
              have KN2 := Lib.hid (show ¬ 0 ≤ findL (K k) t → K (k + 1) = K k ++ [t] from fun h => KN1.out NN.out (by first | exact h | (have h' := h; simp only [Int.not_le] at h'; exact h')))
              have KO2 := Lib.hid (show 0 ≤ findL (K k) t → K (k + 1) = K k from fun h => KO1.out h)
              have hok' := Lib.hid (show OkT ⟨0, 1, t⟩ → t.size ≠ 0 from fun h => h.elim (fun e => absurd e NN.out) id)
              clear IT PM1 PO1 PN1 KM1 KN1 KO1
              obtain ⟨wa, hwa⟩ : ∃ W, wr.alloc (.cells #[.int .i64 0, .int .i64 1, .string t] 63) = W := ⟨_, rfl⟩
              have BX := Lib.hid (show Below wr.heap.size wr wa from hwa ▸ below1 wr _)
              have KB := Lib.hid (show wa.heap[wr.heap.size]? = some (.cells #[.int .i64 0, .int .i64 1, .string t] 63 (0, 0)) from hwa ▸ blk_new wr _ rfl)
              have TZ := Lib.hid (TZ.out.keep BX.out)
              have IZ := Lib.hid (IZ.out.keep BX.out)
              have EW := Lib.hid hwa
              have c0' : wr.cell? ⟨ba, off + k * 3, none⟩ = some (.int .i64 0) := c0
              have c1' : wr.cell? ⟨ba, off + k * 3 + 1, none⟩ = some (.int .i64 1) := c1
              have c2' : wr.cell? ⟨ba, off + k * 3 + 2, none⟩ = some (.string t) := c2
              clear hwa c0 c1 c2
              by_cases ht0 : t.size = 0
              · have NA := Lib.hid (show ¬ AllT l from fun h => hok'.out (ATk.out h) ht0)
                obtain ⟨y1, y2⟩ := TB.out NA.out
                have Y1 := Lib.hid (X1.out.trans y1)
                have Y2 := Lib.hid (X2.out.trans y2)
                obtain rfl := empty_of_size ht0
                have BZ := Lib.hid (below_then BA.out IZ.out.below)
                clear y1 y2 ht0 hok' ATk OKN PO2 PN2 KN2 KO2 NA
                obtain ⟨k0, k1, k2, k3, k4, k5, k6, k7⟩ := vec8 KAr.out
                go_upto_region 28 with (fail)
                rw [EW.out]
                clear k0 k1 k2 k3 k4 k5 k6 k7
                have k0 := cellOf KB.out (i := 0) rfl
                have k1 := cellOf KB.out (i := 1) rfl
                have k2 := cellOf KB.out (i := 2) rfl
                go_wp2
                go_ret2
                rw [Y2.out, Y1.out]
                exact ⟨_, rfl, IntZ.nil0 w _ BZ.out⟩
              · have hne := notEmptyB ht0
                have ON := Lib.hid (OKN.out (.inr ht0))
                clear ht0 hok' ATk OKN
                have CI := Lib.hid (show Calls Try.prog 41 #[.slice s8 (K k).length c8, .string t] wa (fun e w' => e = .returned (.int .i64 (findL (K k) t)) ∧ wa = w') from specFindAt t s8 (K k).length c8 (fun i => (K k).getD i ⟨#[]⟩) wa.heap.size wa (texts_strs TZ.out.texts) (by have := LK.out; omega))
                have FH := Lib.hid (findL_lt (K k) t)
                by_cases hin : 0 ≤ findL (K k) t
                · have NX := Lib.hid (PO2.out hin)
                  have NK := Lib.hid (KO2.out hin)
                  have hz1 := FH.out
                  have hlk := LK.out
                  clear PO2 PN2 KN2 KO2 FH
                  obtain ⟨z, hz⟩ : ∃ z, findL (K k) t = z := ⟨_, rfl⟩
                  rw [hz] at CI NX hin hz1
                  clear hz
                  have hzn : ¬ z < 0 := by omega
                  obtain ⟨k0, k1, k2, k3, k4, k5, k6, k7⟩ := vec8 KAr.out
                  go_upto_region 28 with (fail)
                  rw [EW.out]
                  clear k0 k1 k2 k3 k4 k5 k6 k7
                  have k0 := cellOf KB.out (i := 0) rfl
                  have k1 := cellOf KB.out (i := 1) rfl
                  have k2 := cellOf KB.out (i := 2) rfl
                  go_wp2_with fail
                  refine CI.out.mono ?_
                  rintro e wq ⟨rfl, rfl⟩
                  go_wp2_with (at_builtin; go_loud (refine wpList_appInt2 rfl _ _ rfl (z + 1) (Z k) _ _ rfl rfl (IZ.out.keep (below1 _ _)) (blk_new _ _ rfl) LN.out (TZ.out.keep (below1 _ _)) ?_))
                  intro v' w9 hir htx
                  have IN := Lib.hid (NX.out ▸ hir)
                  have TN := Lib.hid (show TxZ wA w9 (K (k + 1)) _ from by rw [NK.out]; exact htx)
                  clear hir htx
                  go_wp2
                  go_roundw
                  case rel => exact ⟨k + 1, by omega, by go_num, TN.out, IN.out, ON.out⟩
                  case measure => simp [intOf]; omega
                · have NX := Lib.hid (PN2.out hin)
                  have NK := Lib.hid (KN2.out hin)
                  have hlk := LK.out
                  clear PO2 PN2 KN2 KO2 FH
                  obtain ⟨z, hz⟩ : ∃ z, findL (K k) t = z := ⟨_, rfl⟩
                  rw [hz] at CI hin
                  clear hz
                  have hzn : z < 0 := by omega
                  obtain ⟨k0, k1, k2, k3, k4, k5, k6, k7⟩ := vec8 KAr.out
                  go_upto_region 28 with (fail)
                  rw [EW.out]
                  clear k0 k1 k2 k3 k4 k5 k6 k7
                  have k0 := cellOf KB.out (i := 0) rfl
                  have k1 := cellOf KB.out (i := 1) rfl
                  have k2 := cellOf KB.out (i := 2) rfl
                  go_wp2_with fail
                  refine CI.out.mono ?_
                  rintro e wq ⟨rfl, rfl⟩
                  go_wp2_with (at_builtin; go_loud (refine wpList_appTx2 rfl _ _ rfl t (K k) _ _ rfl rfl (TZ.out.keep (below1 _ _)) (blk_new _ _ rfl) LK.out (IZ.out.keep (below1 _ _)) ?_))
                  intro v' w8 htx hir _
                  have TN := Lib.hid htx
                  have IZ3 := Lib.hid hir
                  clear htx hir
                  go_wp2_with (at_builtin; go_loud (refine wpList_appInt2 rfl _ _ rfl (((K k).length : Int) + 1) (Z k) _ _ rfl rfl (IZ3.out.keep (below1 _ _)) (blk_new _ _ rfl) LN.out (TN.out.keep (below1 _ _)) ?_))
                  intro v' w9 hir htx
                  have IN := Lib.hid (NX.out ▸ hir)
                  have TN := Lib.hid (show TxZ wA w9 (K (k + 1)) _ from by rw [NK.out]; exact htx)
                  clear hir htx
                  go_wp2
                  go_roundw
                  case rel => exact ⟨k + 1, by omega, by go_num, TN.out, IN.out, ON.out⟩
                  case measure => simp [intOf]; omega
          · obtain rfl : k = m := by omega
            have AA := Lib.hid (AT.out.2 OK.out)
            obtain ⟨y1, y2⟩ := TO.out AA.out
            have Y1 := Lib.hid (X1.out.trans y1)
            have Y2 := Lib.hid (X2.out.trans y2)
            clear y1 y2 TO TB
            obtain ⟨k0, k1, k2, k3, k4, k5, k6, k7⟩ := vec8 KAr.out
            go_wp2
            go_ret2
            exact ⟨_, by rw [Y2.out]; rfl, by rw [Y1.out]; exact IZ.out.wide BA.out⟩
  · go_wp2_with fail
    refine (CL.out _).mono ?_
    rintro e wq ⟨rfl, rfl⟩
    go_wp2_with (at_builtin; go_loud (rw [EW.out]; refine wpList_copyTz (w0 := w2) rfl _ _ rfl _ rfl (.inr ⟨w2.heap.size, Nat.le_refl _, rfl, KS.out⟩) B23.out na nc nms lo2 hi2 rfl HT3.out ln2 ?_))
    intro v13 w4 htz
    have I4 := Lib.hid (show IntZ wA w4 (Z 0) (.slice (some ⟨w.heap.size + 1, 0, none⟩) 0 0) from P0.out ▸ ST.out.keep htz.below)
    have T4 := Lib.hid (show TxZ wA w4 (nms ++ List.replicate 0 ⟨#[]⟩) v13 from by rw [List.replicate_zero, List.append_nil]; exact htz.wideT ST.out.below)
    clear htz k0 k1 k2 k3 k4 k5 k6 k7 EW KS B23 HT3
    obtain ⟨nn, hnn⟩ : ∃ x, nms.length = x := ⟨_, rfl⟩
    rw [hnn] at hnl RL PD
    clear hnn
    go_wp2
    go_loopw [13] (fun v13 wr => ∃ j : Nat, nn + j ≤ N ∧ TxZ wA wr (nms ++ List.replicate j ⟨#[]⟩) v13 ∧ IntZ wA wr (Z 0) (.slice (some ⟨w.heap.size + 1, 0, none⟩) 0 0)) (fun v13 _ => N - lenS v13)
    case atStart => exact ⟨0, hnl, T4.out, I4.out⟩
    case round =>
      obtain ⟨j, hj, ht, hz⟩ := hrel
      have TZ := Lib.hid ht
      have IZ := Lib.hid hz
      clear ht hz
      obtain ⟨s3, n3, c3, rfl⟩ := TZ.out.form
      obtain rfl := TZ.out.slice
      have hjl := RL.out j
      have RJ1 := Lib.hid (RJ.out j)
      have PD1 := Lib.hid (PD.out j)
      obtain ⟨KJ, hKJ⟩ : ∃ X, nms ++ List.replicate j (⟨#[]⟩ : ByteArray) = X := ⟨_, rfl⟩
      rw [hKJ] at TZ hjl RJ1 PD1 ⊢
      clear hKJ
      by_cases hlt : KJ.length < N
      · have LK := Lib.hid (show KJ.length ≤ 1048576 by omega)
        go_wp2_with (at_builtin; go_loud (refine wpList_appTx2 rfl _ _ rfl ⟨#[]⟩ KJ _ _ rfl rfl (TZ.out.keep (below1 _ _)) (blk_new _ _ rfl) LK.out (IZ.out.keep (below1 _ _)) ?_))
        intro v' w5 htx hir _
        obtain ⟨s4, n4, c4, rfl⟩ := htx.form
        obtain rfl := htx.slice
        have hl5 : (KJ ++ [(⟨#[]⟩ : ByteArray)]).length = KJ.length + 1 := by simp
        have IN := Lib.hid hir
        have TN := Lib.hid (show TxZ wA w5 (nms ++ List.replicate (j + 1) ⟨#[]⟩) _ from by rw [← RJ1.out]; exact htx)
        clear htx hir
        rw [hl5]
        rw [hl5] at TN
        go_wp2
        go_roundw
        case rel => exact ⟨j + 1, by omega, TN.out, IN.out⟩
        case measure => simp [lenS]; omega
      · have hle : KJ.length = N := by omega
        have hnlt : ¬ ((N : Int) < (N : Int)) := by omega
        obtain rfl := PD1.out (by omega)
        have T5 := Lib.hid (show TxZ wA wr (K 0) (.slice s3 KJ.length c3) from by rw [K0.out]; exact TZ.out)
        have I5 := Lib.hid IZ.out
        rw [hle]
        rw [hle] at T5
        clear TZ IZ RJ RJ1 PD PD1 hjl RL hlt hle hj
        go_wp2
        go_loopw [8, 13, 14] (fun v8 v13 v14 wr => ∃ k : Nat, k ≤ m ∧ v14 = .int .i64 k ∧ TxZ wA wr (K k) v13 ∧ IntZ wA wr (Z k) v8 ∧ ∀ j, j < k → OkT (l.getD j noI)) (fun _ _ v14 _ => m - (intOf v14).toNat)
        case atStart => exact ⟨0, Nat.zero_le _, rfl, T5.out, I5.out, fun _ h => absurd h (Nat.not_lt_zero _)⟩
        case round =>
          obtain ⟨k, hk, rfl, ht, hz, hok⟩ := hrel
          have TZ := Lib.hid ht
          have IZ := Lib.hid hz
          have OK := Lib.hid hok
          clear ht hz hok
          have KAr := Lib.hid (show wr.heap[w.heap.size]? = some (.cells #[.int .i64 kk, .slice ai m ci, .slice ap parts.length cp, .slice an names.length cn, .slice ac cls.length cc, .slice al levels.length cl, .int .i64 code, .int .i64 env] 31 (0, 0)) from (IZ.out.below.block _ HSA.out).trans KA.out)
          by_cases hlt : k < m
          · obtain ⟨ba, off, rfl, hbB, c0, c1, c2'⟩ := AI.out k wr hlt (below_then BA.out IZ.out.below)
            have c2 : wr.cell? ⟨ba, off + k * 3 + 2, none⟩ = some (.string (l.getD k noI).t) := c2'
            have IT := HIT3.out k hlt
            have LN := Lib.hid (show (Z k).length ≤ 1048576 by rw [PL.out k]; omega)
            have LK := Lib.hid (show (K k).length ≤ 1048576 by have := KL.out k; omega)
            have ATk := Lib.hid (show AllT l → OkT (l.getD k noI) from fun h => AT.out.1 h k hlt)
            have PM1 := Lib.hid (PM.out k)
            have PO1 := Lib.hid (PO.out k)
            have PN1 := Lib.hid (PN.out k)
            have KM1 := Lib.hid (KM.out k)
            have KO1 := Lib.hid (KO.out k)
            have KN1 := Lib.hid (KN.out k)
            have OKN := Lib.hid (show OkT (l.getD k noI) → ∀ j, j < k + 1 → OkT (l.getD j noI) from fun h j hj => by
              by_cases e : j = k
              · subst e; exact h
              · exact OK.out j (by omega))
            obtain ⟨x, hx⟩ : ∃ x, l.getD k noI = x := ⟨_, rfl⟩
            rw [hx] at c0 c1 c2 IT PM1 PO1 PN1 KM1 KO1 KN1 OKN ATk
            clear hx c2'
            have hcase : x = noI ∨ ∃ t : ByteArray, x = ⟨0, 1, t⟩ := by
              rcases IT with h | ⟨h, _⟩ | ⟨h, _⟩ | ⟨_, h1, h2, _⟩
              · exact .inl h
              · exact absurd h (by decide)
              · exact absurd h (by decide)
              · obtain ⟨xn, xd, xt⟩ := x
                have h1' : xn = 0 := h1
                have h2' : xd = 1 := h2
                subst h1' h2'
                exact .inr ⟨xt, rfl⟩
            obtain ⟨s8, n8, c8, rfl⟩ := TZ.out.form
            obtain rfl := TZ.out.slice
            rcases hcase with rfl | ⟨t, rfl⟩
            · have NX := Lib.hid (PM1.out rfl)
              have NK := Lib.hid (KM1.out rfl)
              have ON := Lib.hid (OKN.out (.inl rfl))
              clear PM1 PO1 PN1 KM1 KO1 KN1 OKN ATk IT
              obtain ⟨wa, hwa⟩ : ∃ W, wr.alloc (.cells #[.int .i64 0, .int .i64 0, .string ⟨#[]⟩] 63) = W := ⟨_, rfl⟩
              have BX := Lib.hid (show Below wr.heap.size wr wa from hwa ▸ below1 wr _)
              have KB := Lib.hid (show wa.heap[wr.heap.size]? = some (.cells #[.int .i64 0, .int .i64 0, .string ⟨#[]⟩] 63 (0, 0)) from hwa ▸ blk_new wr _ rfl)
              have TZ := Lib.hid (TZ.out.keep BX.out)
              have IZ := Lib.hid (IZ.out.keep BX.out)
              have EW := Lib.hid hwa
              have c0' : wr.cell? ⟨ba, off + k * 3, none⟩ = some (.int .i64 0) := c0
              have c1' : wr.cell? ⟨ba, off + k * 3 + 1, none⟩ = some (.int .i64 0) := c1
              have c2' : wr.cell? ⟨ba, off + k * 3 + 2, none⟩ = some (.string ⟨#[]⟩) := c2
              clear hwa c0 c1 c2
              have CI := Lib.hid (specFindAt ⟨#[]⟩ s8 (K k).length c8 (fun i => (K k).getD i ⟨#[]⟩) wa.heap.size wa (texts_strs TZ.out.texts) (by have := LK.out; omega))
              obtain ⟨z, hz⟩ : ∃ z, findF (⟨#[]⟩ : ByteArray) (fun i => (K k).getD i ⟨#[]⟩) (K k).length 0 = z := ⟨_, rfl⟩
              rw [hz] at CI
              clear hz
              obtain ⟨k0, k1, k2, k3, k4, k5, k6, k7⟩ := vec8 KAr.out
              go_upto_region 28 with (fail)
              rw [EW.out]
              clear k0 k1 k2 k3 k4 k5 k6 k7
              have k0 := cellOf KB.out (i := 0) rfl
              have k1 := cellOf KB.out (i := 1) rfl
              have k2 := cellOf KB.out (i := 2) rfl
              go_wp2_with fail
              refine CI.out.mono ?_
              rintro e wq ⟨rfl, rfl⟩
              go_wp2_with (at_builtin; go_loud (refine wpList_appInt2 rfl _ _ rfl 0 (Z k) _ _ rfl rfl (IZ.out.keep (below1 _ _)) (blk_new _ _ rfl) LN.out (TZ.out.keep (below1 _ _)) ?_))
              intro v' w9 hir htx
              have IN := Lib.hid (NX.out ▸ hir)
              have TN := Lib.hid (show TxZ wA w9 (K (k + 1)) _ from by rw [NK.out]; exact htx)
              clear hir htx
              go_wp2
              go_roundw
              case rel => exact ⟨k + 1, by omega, by go_num, TN.out, IN.out, ON.out⟩
              case measure => simp [intOf]; omega
            · have NN := Lib.hid (show ¬ (⟨0, 1, t⟩ : It) = noI from fun e => absurd (congrArg It.d e) (show ¬ (1 : Int) = 0 by decide))
              have PO2 := Lib.hid (show 0 ≤ findL (K k) t → Z (k + 1) = Z k ++ [findL (K k) t + 1] from fun h => PO1.out NN.out h)
              have PN2 := Lib.hid (show ¬ 0 ≤ findL (K k) t → Z (k + 1) = Z k ++ [((K k).length : Int) + 1] from fun h => PN1.out NN.out (by first | exact h | (have h' := h; simp only [Int.not_le] at h'; exact h')))
              have KN2 := Lib.hid (show ¬ 0 ≤ findL (K k) t → K (k + 1) = K k ++ [t] from fun h => KN1.out NN.out (by first | exact h | (have h' := h; simp only [Int.not_le] at h'; exact h')))
              have KO2 := Lib.hid (show 0 ≤ findL (K k) t → K (k + 1) = K k from fun h => KO1.out h)
              have hok' := Lib.hid (show OkT ⟨0, 1, t⟩ → t.size ≠ 0 from fun h => h.elim (fun e => absurd e NN.out) id)
              clear IT PM1 PO1 PN1 KM1 KN1 KO1
              obtain ⟨wa, hwa⟩ : ∃ W, wr.alloc (.cells #[.int .i64 0, .int .i64 1, .string t] 63) = W := ⟨_, rfl⟩
              have BX := Lib.hid (show Below wr.heap.size wr wa from hwa ▸ below1 wr _)
              have KB := Lib.hid (show wa.heap[wr.heap.size]? = some (.cells #[.int .i64 0, .int .i64 1, .string t] 63 (0, 0)) from hwa ▸ blk_new wr _ rfl)
              have TZ := Lib.hid (TZ.out.keep BX.out)
              have IZ := Lib.hid (IZ.out.keep BX.out)
              have EW := Lib.hid hwa
              have c0' : wr.cell? ⟨ba, off + k * 3, none⟩ = some (.int .i64 0) := c0
              have c1' : wr.cell? ⟨ba, off + k * 3 + 1, none⟩ = some (.int .i64 1) := c1
              have c2' : wr.cell? ⟨ba, off + k * 3 + 2, none⟩ = some (.string t) := c2
              clear hwa c0 c1 c2
              by_cases ht0 : t.size = 0
              · have NA := Lib.hid (show ¬ AllT l from fun h => hok'.out (ATk.out h) ht0)
                obtain ⟨y1, y2⟩ := TB.out NA.out
                have Y1 := Lib.hid (X1.out.trans y1)
                have Y2 := Lib.hid (X2.out.trans y2)
                obtain rfl := empty_of_size ht0
                have BZ := Lib.hid (below_then BA.out IZ.out.below)
                clear y1 y2 ht0 hok' ATk OKN PO2 PN2 KN2 KO2 NA
                obtain ⟨k0, k1, k2, k3, k4, k5, k6, k7⟩ := vec8 KAr.out
                go_upto_region 28 with (fail)
                rw [EW.out]
                clear k0 k1 k2 k3 k4 k5 k6 k7
                have k0 := cellOf KB.out (i := 0) rfl
                have k1 := cellOf KB.out (i := 1) rfl
                have k2 := cellOf KB.out (i := 2) rfl
                go_wp2
                go_ret2
                rw [Y2.out, Y1.out]
                exact ⟨_, rfl, IntZ.nil0 w _ BZ.out⟩
              · have hne := notEmptyB ht0
                have ON := Lib.hid (OKN.out (.inr ht0))
                clear ht0 hok' ATk OKN
                have CI := Lib.hid (show Calls Try.prog 41 #[.slice s8 (K k).length c8, .string t] wa (fun e w' => e = .returned (.int .i64 (findL (K k) t)) ∧ wa = w') from specFindAt t s8 (K k).length c8 (fun i => (K k).getD i ⟨#[]⟩) wa.heap.size wa (texts_strs TZ.out.texts) (by have := LK.out; omega))
                have FH := Lib.hid (findL_lt (K k) t)
                by_cases hin : 0 ≤ findL (K k) t
                · have NX := Lib.hid (PO2.out hin)
                  have NK := Lib.hid (KO2.out hin)
                  have hz1 := FH.out
                  have hlk := LK.out
                  clear PO2 PN2 KN2 KO2 FH
                  obtain ⟨z, hz⟩ : ∃ z, findL (K k) t = z := ⟨_, rfl⟩
                  rw [hz] at CI NX hin hz1
                  clear hz
                  have hzn : ¬ z < 0 := by omega
                  obtain ⟨k0, k1, k2, k3, k4, k5, k6, k7⟩ := vec8 KAr.out
                  go_upto_region 28 with (fail)
                  rw [EW.out]
                  clear k0 k1 k2 k3 k4 k5 k6 k7
                  have k0 := cellOf KB.out (i := 0) rfl
                  have k1 := cellOf KB.out (i := 1) rfl
                  have k2 := cellOf KB.out (i := 2) rfl
                  go_wp2_with fail
                  refine CI.out.mono ?_
                  rintro e wq ⟨rfl, rfl⟩
                  go_wp2_with (at_builtin; go_loud (refine wpList_appInt2 rfl _ _ rfl (z + 1) (Z k) _ _ rfl rfl (IZ.out.keep (below1 _ _)) (blk_new _ _ rfl) LN.out (TZ.out.keep (below1 _ _)) ?_))
                  intro v' w9 hir htx
                  have IN := Lib.hid (NX.out ▸ hir)
                  have TN := Lib.hid (show TxZ wA w9 (K (k + 1)) _ from by rw [NK.out]; exact htx)
                  clear hir htx
                  go_wp2
                  go_roundw
                  case rel => exact ⟨k + 1, by omega, by go_num, TN.out, IN.out, ON.out⟩
                  case measure => simp [intOf]; omega
                · have NX := Lib.hid (PN2.out hin)
                  have NK := Lib.hid (KN2.out hin)
                  have hlk := LK.out
                  clear PO2 PN2 KN2 KO2 FH
                  obtain ⟨z, hz⟩ : ∃ z, findL (K k) t = z := ⟨_, rfl⟩
                  rw [hz] at CI hin
                  clear hz
                  have hzn : z < 0 := by omega
                  obtain ⟨k0, k1, k2, k3, k4, k5, k6, k7⟩ := vec8 KAr.out
                  go_upto_region 28 with (fail)
                  rw [EW.out]
                  clear k0 k1 k2 k3 k4 k5 k6 k7
                  have k0 := cellOf KB.out (i := 0) rfl
                  have k1 := cellOf KB.out (i := 1) rfl
                  have k2 := cellOf KB.out (i := 2) rfl
                  go_wp2_with fail
                  refine CI.out.mono ?_
                  rintro e wq ⟨rfl, rfl⟩
                  go_wp2_with (at_builtin; go_loud (refine wpList_appTx2 rfl _ _ rfl t (K k) _ _ rfl rfl (TZ.out.keep (below1 _ _)) (blk_new _ _ rfl) LK.out (IZ.out.keep (below1 _ _)) ?_))
                  intro v' w8 htx hir _
                  have TN := Lib.hid htx
                  have IZ3 := Lib.hid hir
                  clear htx hir
                  go_wp2_with (at_builtin; go_loud (refine wpList_appInt2 rfl _ _ rfl (((K k).length : Int) + 1) (Z k) _ _ rfl rfl (IZ3.out.keep (below1 _ _)) (blk_new _ _ rfl) LN.out (TN.out.keep (below1 _ _)) ?_))
                  intro v' w9 hir htx
                  have IN := Lib.hid (NX.out ▸ hir)
                  have TN := Lib.hid (show TxZ wA w9 (K (k + 1)) _ from by rw [NK.out]; exact htx)
                  clear hir htx
                  go_wp2
                  go_roundw
                  case rel => exact ⟨k + 1, by omega, by go_num, TN.out, IN.out, ON.out⟩
                  case measure => simp [intOf]; omega
          · obtain rfl : k = m := by omega
            have AA := Lib.hid (AT.out.2 OK.out)
            obtain ⟨y1, y2⟩ := TO.out AA.out
            have Y1 := Lib.hid (X1.out.trans y1)
            have Y2 := Lib.hid (X2.out.trans y2)
            clear y1 y2 TO TB
            obtain ⟨k0, k1, k2, k3, k4, k5, k6, k7⟩ := vec8 KAr.out
            go_wp2
            go_ret2
            exact ⟨_, by rw [Y2.out]; rfl, by rw [Y1.out]; exact IZ.out.wide BA.out⟩
end Go.Proofs.Ytpekdmocgjjhnaa

/- ResolvePositions of the reference. -/
namespace Go.Proofs.Ytpekdmocgjjhnaa
open Go.RowKit
set_option maxRecDepth 100000
set_option linter.unusedVariables false

theorem specResolve (d : Nat) (v : Vec) (val : Value) (n : Int) (nms : List ByteArray) (na : Option Addr) (nc lo hi lo2 hi2 : Nat) (w : World) (hv : VecAt lo hi w d v val) (hhi : hi ≤ w.heap.size) (hsm : Small d v) (hT : TextsAt lo2 hi2 w na nms) (hh2 : hi2 ≤ w.heap.size) (ln2 : nms.length ≤ 1048576) :
    Calls Try.prog 13 #[.int .i64 n, .slice na nms.length nc, val] w (ResZ (rsZ n nms v) (rsS n nms v) w) := by
  by_cases h : ValidV v ∧ NmOk n nms ∧ (kindV v = 1 ∨ kindV v = 3 ∨ kindV v = 0)
  · obtain ⟨h1, h2, h3 | h3⟩ := h
    · exact specResolveL d v val n nms na nc lo hi lo2 hi2 w hv hhi hsm hT hh2 ln2 h1 h2 h3
    · exact specResolveT d v val n nms na nc lo hi lo2 hi2 w hv hhi hsm hT hh2 ln2 h1 h2 h3
  · exact specResolveA d v val n nms na nc lo hi lo2 hi2 w hv hhi hsm hT hh2 ln2 h
end Go.Proofs.Ytpekdmocgjjhnaa

/- A row of ints that a call has made, in laws: none, or a block of its own; its marks. -/
namespace Go.Proofs.Ytpekdmocgjjhnaa
open Go.RowKit
set_option maxRecDepth 100000
set_option linter.unusedVariables false

structure OwnJ (a : Option Addr) (n : Nat) (f : Nat → Int) (lo hi : Nat) (w : World) : Prop where
  out : n = 0 ∨ OwnI a n f lo hi w
theorem OwnJ.below {a : Option Addr} {n : Nat} {f : Nat → Int} {lo hi : Nat} {w w' : World} (h : OwnJ a n f lo hi w) (hb : Below w.heap.size w w') (hh : hi ≤ w.heap.size) : OwnJ a n f lo hi w' := ⟨h.out.imp id (fun h => h.below hb hh)⟩
theorem OwnJ.within {a : Option Addr} {n : Nat} {f : Nat → Int} {lo hi lo' hi' : Nat} {w w' : World} (h : OwnJ a n f lo hi w) (k : Within lo' hi' w w') (hr : hi ≤ lo' ∨ hi' ≤ lo) (hh : hi ≤ w.heap.size) : OwnJ a n f lo hi w' := ⟨h.out.imp id (fun h => h.within k hr hh)⟩
theorem OwnJ.at_ {a : Option Addr} {n : Nat} {f : Nat → Int} {lo hi : Nat} {w : World} (h : OwnJ a n f lo hi w) {H : Nat} (hh : hi ≤ H) : IntsAt H w a n f := by
  rcases h.out with rfl | h
  · intro i hi'; exact absurd hi' (Nat.not_lt_zero _)
  · exact h.at_ hh
theorem IntZ.ownJ {w w' : World} {l : List Int} {v : Value} (h : IntZ w w' l v) : ∃ sa c, v = .slice sa l.length c ∧ OwnJ sa l.length (fun i => l.getD i 0) w.heap.size w'.heap.size w' := by
  obtain ⟨hl, ⟨e, h0⟩ | ⟨g, cap, cur, e, hB, hg, hc, hm, hs, ht⟩⟩ := h.row
  · exact ⟨none, 0, by rw [e, h0], ⟨.inl h0⟩⟩
  · refine ⟨_, cap, e, ⟨.inr ⟨g, cur, rfl, hB, (Array.getElem?_eq_some_iff.1 hg).1, hg, by omega, fun i hi => ?_⟩⟩⟩
    have e1 : (intC l)[i]? = some (.int .i64 (l.getD i 0)) := by unfold intC; simp [List.getD_eq_getElem?_getD, List.getElem?_map, List.getElem?_eq_getElem hi]
    rw [← e1, ← ht, List.getElem?_take_of_lt (by omega), Array.getElem?_toList]
set_option maxHeartbeats 1000000 in
theorem markJ (a : Option Addr) (n c k : Nat) (f : Nat → Int) (lo hi : Nat) (w : World) (h : OwnJ a n f lo hi w) (hn : n ≤ 1048576) (h1 : 1 ≤ k) (hk : k + n ≤ 9000000) :
    Calls Try.prog 19 #[.slice a n c, .int .i64 k] w fun e w' => e = .returned (.int .i64 ((k : Int) + (n : Int))) ∧ OwnJ a n (fun i => (k : Int) + (i : Int)) lo hi w' ∧ Within lo hi w w' := by
  rcases h.out with rfl | h
  · have WR := Lib.hid (show Within lo hi w w from ⟨rfl, rfl, rfl, Nat.le_refl _, fun _ _ _ => rfl⟩)
    go_enter Try.func19, Try.ntmps19
    go_wp2
    go_loopw [1, 5] (fun kv iv wr => iv = .int .i64 0 ∧ kv = .int .i64 (k : Int) ∧ wr = w) (fun _ _ _ => 0)
    case atStart => exact ⟨rfl, rfl, rfl⟩
    case round =>
      obtain ⟨rfl, rfl, rfl⟩ := hrel
      go_wp2
      go_ret
      exact ⟨by simp, ⟨.inl rfl⟩, WR.out⟩
  · obtain ⟨b, C, rfl, h0, hb1, hC, hnC, _⟩ := h.out
    have hbw : b < w.heap.size := (Array.getElem?_eq_some_iff.1 hC).1
    have K0 := Lib.hid hC
    clear h hC
    go_enter Try.func19, Try.ntmps19
    go_wp2
    go_loopw [1, 5] (fun kv iv wr => ∃ j : Nat, j ≤ n ∧ iv = .int .i64 j ∧ kv = .int .i64 ((k : Int) + (j : Int)) ∧ (∃ C, wr.heap[b]? = some (.cells C 3 (0, 0)) ∧ n ≤ C.size ∧ ∀ i, i < j → C[i]? = some (.int .i64 ((k : Int) + (i : Int)))) ∧ Touch [b] w wr) (fun _ iv _ => n - (intOf iv).toNat)
    case atStart => exact ⟨0, Nat.zero_le _, rfl, int_eqK (by omega), ⟨C, K0.out, hnC, fun _ h => absurd h (Nat.not_lt_zero _)⟩, Touch.refl _ _⟩
    case round =>
      obtain ⟨j, hj, rfl, rfl, ⟨C1, hC1, hn1, hm1⟩, ht⟩ := hrel
      have TT := Lib.hid ht
      have KC := Lib.hid hC1
      have HM := Lib.hid hm1
      clear ht hC1 hm1
      by_cases hlt : j < n
      · have hfree : wr.frozen? ⟨b, j, none⟩ = false := freeOf KC.out
        obtain ⟨v0, hold⟩ : ∃ v0, wr.cell? ⟨b, j, none⟩ = some v0 := ⟨_, cellOf KC.out (Array.getElem?_eq_getElem (by omega))⟩
        have KN := Lib.hid (Joins.block_setCell KC.out (i := j) (.int .i64 ((k : Int) + (j : Int))))
        have TN := Lib.hid (TT.out.set (i := j) (List.mem_singleton.2 rfl) (.int .i64 ((k : Int) + (j : Int))))
        have MN := Lib.hid (show ∀ i, i < j + 1 → (C1.setIfInBounds j (.int .i64 ((k : Int) + (j : Int))))[i]? = some (.int .i64 ((k : Int) + (i : Int))) from fun i hi => by
          by_cases e : i = j
          · subst e; rw [Array.getElem?_setIfInBounds_self_of_lt (by omega)]
          · rw [Array.getElem?_setIfInBounds_ne (fun q => e q.symm)]; exact HM.out i (by omega))
        go_wp2
        go_roundw
        case rel => exact ⟨j + 1, by omega, by go_num, int_eqK (by omega), ⟨_, KN.out, by simpa using hn1, MN.out⟩, TN.out⟩
        case measure => simp [intOf]; omega
      · obtain rfl : j = n := by omega
        have WN := Lib.hid (TT.out.within (lo := lo) (hi := hi) (fun g hg => by obtain rfl := List.mem_singleton.1 hg; exact ⟨h0, hb1⟩))
        have ON := Lib.hid (show OwnJ (some ⟨b, 0, none⟩) j (fun i => (k : Int) + (i : Int)) lo hi wr from ⟨.inr ⟨b, C1, rfl, h0, hb1, KC.out, hn1, HM.out⟩⟩)
        go_wp2
        go_ret
        exact ⟨rfl, ON.out, WN.out⟩
set_option maxHeartbeats 1000000 in
theorem heldJ (a : Option Addr) (n c k : Nat) (B : Nat) (w : World) (hs : IntsAt B w a n (fun i => (k : Int) + (i : Int))) (hn : n ≤ 1048576) (hk : k + n ≤ 9000000) :
    Calls Try.prog 20 #[.slice a n c, .int .i64 k] w fun e w' => e = .returned (.int .i64 ((k : Int) + (n : Int))) ∧ w = w' := by
  have SA := Lib.hid hs
  clear hs
  go_enter Try.func20, Try.ntmps20
  go_wp2
  go_loop [1, 5] (fun kv iv => ∃ j : Nat, j ≤ n ∧ iv = .int .i64 j ∧ kv = .int .i64 ((k : Int) + (j : Int))) (fun _ iv => n - (intOf iv).toNat)
  case atStart => exact ⟨0, Nat.zero_le _, rfl, int_eqK (by omega)⟩
  case round =>
    obtain ⟨j, hj, rfl, rfl⟩ := hrel
    by_cases hlt : j < n
    · obtain ⟨b, off, rfl, hb, hc⟩ := SA.out j hlt
      change _ = some (Value.int .i64 ((k : Int) + (j : Int))) at hc
      go_wp2
      go_round
      case rel => exact ⟨j + 1, by omega, by go_num, int_eqK (by omega)⟩
      case measure => simp [intOf]; omega
    · obtain rfl : j = n := by omega
      go_wp2
      go_ret
      exact ⟨rfl, rfl⟩
/-- A row of ints and a text that a call answers. -/
def ResJ (n : Nat) (f : Nat → Int) (s : ByteArray) (w : World) (e : Ending) (w' : World) : Prop := ∃ a c, e = .returned (.tuple #[.slice a n c, .string s]) ∧ OwnJ a n f w.heap.size w'.heap.size w' ∧ Below w.heap.size w w'
theorem OwnJ.wide {a : Option Addr} {n : Nat} {f : Nat → Int} {lo hi lo' hi' : Nat} {w : World} (h : OwnJ a n f lo hi w) (h1 : lo' ≤ lo) (h2 : hi ≤ hi') : OwnJ a n f lo' hi' w := ⟨h.out.imp id (fun h => by
  obtain ⟨b, C, e, g0, g1, g2, r⟩ := h.out
  exact ⟨b, C, e, Nat.le_trans h1 g0, Nat.lt_of_lt_of_le g1 h2, g2, r⟩)⟩
/-- Texts that may be read. -/
structure StrsH (a : Option Addr) (n : Nat) (f : Nat → ByteArray) (w : World) : Prop where
  out : StrsAt w.heap.size w a n f
theorem StrsH.keep {a : Option Addr} {n : Nat} {f : Nat → ByteArray} {w w' : World} (h : StrsH a n f w) (hb : Below w.heap.size w w') : StrsH a n f w' := ⟨(h.out.below hb).mono hb.size⟩
end Go.Proofs.Ytpekdmocgjjhnaa

/- Laws on two vectors: what a region that calls on both keeps. -/
namespace Go.Proofs.Ytpekdmocgjjhnaa
set_option maxRecDepth 100000
open Go.RowKit
set_option linter.unusedVariables false

/-- A vector that may be read. -/
structure VatH (d : Nat) (v : Vec) (y : Value) (w : World) : Prop where
  out : VecAt 0 w.heap.size w d v y
theorem VatH.keep {d : Nat} {v : Vec} {y : Value} {w w1 : World} (h : VatH d v y w) (hb : Below w.heap.size w w1) : VatH d v y w1 := ⟨VecAt.wide (Nat.le_refl _) hb.size _ _ _ (h.out.below hb (Nat.le_refl _))⟩
theorem ResV.vatH {d : Nat} {v : Vec} {y : Value} {lo : Nat} {w : World} (h : Own d v y lo w.heap.size w) : VatH d v y w := ⟨h.vat (Nat.le_refl _)⟩
/-- A vector of one's own in a range, kept. -/
structure OwnH (d : Nat) (V : Vec) (y : Value) (lo hi : Nat) (w : World) : Prop where
  own : Own d V y lo hi w
  hh : hi ≤ w.heap.size
theorem OwnH.keep {d : Nat} {V : Vec} {y : Value} {lo hi : Nat} {w w1 : World} (h : OwnH d V y lo hi w) (hb : Below w.heap.size w w1) : OwnH d V y lo hi w1 := ⟨h.own.below hb h.hh, Nat.le_trans h.hh hb.size⟩
/-- A vector that was made and put into a variable of its own. -/
structure MadeU (V : Vec) (wk wx : World) (g : Nat) (C : Array Value) : Prop where
  blk : wx.heap[g]? = some (.cells C 31 (0, 0))
  own : Own 1 V (.agg C) wk.heap.size wx.heap.size wx
  below : Below wk.heap.size wk wx
  lo : wk.heap.size ≤ g
theorem MadeU.cells {V : Vec} {wk wx : World} {g : Nat} {C : Array Value} (h : MadeU V wk wx g C) : ∃ (k : Int) (a1 : Option Addr) (n1 m1 : Nat) (a2 : Option Addr) (n2 m2 : Nat) (a3 : Option Addr) (n3 m3 : Nat) (a4 : Option Addr) (n4 m4 : Nat) (a5 : Option Addr) (n5 m5 : Nat) (code env : Int), C = #[.int .i64 k, .slice a1 n1 m1, .slice a2 n2 m2, .slice a3 n3 m3, .slice a4 n4 m4, .slice a5 n5 m5, .int .i64 code, .int .i64 env] := by
  obtain ⟨k, a1, n1, m1, a2, n2, m2, a3, n3, m3, a4, n4, m4, a5, n5, m5, c, e, h'⟩ := h.own.agg
  simp only [Value.agg.injEq] at h'
  exact ⟨k, a1, n1, m1, a2, n2, m2, a3, n3, m3, a4, n4, m4, a5, n5, m5, c, e, h'⟩
section
variable {P : Program} {ops : Array Oper} {Q : Exit → Act → World → Prop} {S : World → Prop}
variable {r : List (Nat × Bool)} {a : Act} {e : List (Nat × Value)} {w : World} {i d : Nat} {g : Option (Nat × Bool)} {v : Value}
/-- A part of a call's several results. -/
theorem run_extract {x : Operand} {k : Nat} {vs : Array Value} (ho : opAt ops i = some (some d, .extract x k, g)) (hd : Nat.blt d a.tmps.size = true) (hw : wantE ops a e g = some true)
    (hx : lookO a e x = .tuple vs) (hv : vs[k]? = some v) (h : RunE P ops Q S r a ((d, v) :: e) w) : RunE P ops Q S ((i, true) :: r) a e w :=
  run_yield ho hd hw (fun o w' h1 _ => by
    unfold execOp; rw [h1]; simp only [hx]
    refine run_v ?_
    unfold Instr.extract
    simp only [hv]
    rfl) h
end
/-- A mark that goes on from k. -/
theorem markOwnK (d : Nat) (V : Vec) (y : Value) (k : Nat) (lo hi : Nat) (w : World) (h : Own d V y lo hi w) (hh : hi ≤ w.heap.size) (hs : Small d V) (hk : 1 ≤ k) (hc : k + cntM d V ≤ 8000000) :
    Calls Try.prog 10 #[y, .int .i64 k] w fun e w' => e = .returned (.int .i64 ((k + cntM d V : Nat) : Int)) ∧ Within lo hi w w' := by
  obtain ⟨F, h1, h2, h3⟩ := h.out
  refine (markVec d V y k F w h1 h2 (fun b hb => by have := h3 b hb; omega) hs hk hc).mono ?_
  rintro e w' ⟨rfl, ho, t⟩
  exact ⟨rfl, t.within h3⟩
end Go.Proofs.Ytpekdmocgjjhnaa
