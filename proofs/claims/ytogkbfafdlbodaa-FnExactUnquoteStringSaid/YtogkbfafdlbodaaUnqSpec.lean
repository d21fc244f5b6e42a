/- Reading quoted strings: the specification's function, against one plain function. -/
import Derived.Test.YtogkbfafdlbodaaRows
import Derived.Test.YtogkbfafdlbodaaUnqMath
import Derived.Test.YtogkbfafdlbodaaQuote
import Derived.WalkKit
import Derived.WalkSpells
import Derived.WalkLawsBesides
import Derived.Lib.Hide
import Derived.StillTailTactics
namespace Go.Proofs.Ytogkbfafdlbodaa
open Go.RowKit Go.Lib

def NoHex (b : UInt8) (k : Nat) : Prop := ∀ j, j < k → hexC j ≠ b
theorem NoHex.last {b : UInt8} (h : NoHex b 16) (d : Nat) : nibF d b = d := by
  have : (List.range 16).find? (fun j => hexC j == b) = none := by
    rw [List.find?_eq_none]
    intro j hj
    have hj' : j < 16 := by simpa using hj
    simpa using h j hj'
  unfold nibF; rw [this]; rfl
theorem NoHex.found {b : UInt8} {k : Nat} (h : NoHex b k) (hk : k < 16) (he : hexC k = b) (d : Nat) : nibF d b = k := by
  subst he; exact nibF_hex d k hk

set_option maxHeartbeats 400000 in
theorem l1Nibble_any (b : UInt8) (w : World) :
    Calls Try.prog 22 #[.int .u8 b.toNat] w fun e w' => e = .returned (.int .i64 (nibF 0 b)) ∧ w' = w := by
  go_enter Try.func22, Try.ntmps22
  go_wp2
  go_loop [3] (fun i => ∃ k : Nat, k ≤ 16 ∧ i = .int .i64 k ∧ NoHex b k) (fun i => 16 - (intOf i).toNat)
  case atStart => exact ⟨0, Nat.zero_le _, rfl, fun j hj => absurd hj (Nat.not_lt_zero _)⟩
  case round =>
    obtain ⟨k, hk, rfl, hno⟩ := hrel
    by_cases hlt : k < 16
    · have hx := fun h' => hex_at k hlt h'
      by_cases e : hexC k = b
      · have X := Lib.hid (hno.found hlt e 0)
        have E := Lib.hid (show ∀ h', (((⟨#[48, 49, 50, 51, 52, 53, 54, 55, 56, 57, 97, 98, 99, 100, 101, 102]⟩ : ByteArray)[k]'h').toNat : Int) = b.toNat by intro h'; rw [hx h', e])
        have hq : ∀ h', ((((⟨#[48, 49, 50, 51, 52, 53, 54, 55, 56, 57, 97, 98, 99, 100, 101, 102]⟩ : ByteArray)[k]'h').toNat : Int) == b.toNat) = true := by intro h'; rw [E.out h']; simp
        clear hx e
        go_wp2
        go_ret
        exact ⟨ret_i64q (by rw [X.out]), rfl⟩
      · have hq : ∀ h', ((((⟨#[48, 49, 50, 51, 52, 53, 54, 55, 56, 57, 97, 98, 99, 100, 101, 102]⟩ : ByteArray)[k]'h').toNat : Int) == b.toNat) = false := by
          intro h'
          rw [hx h', beq_eq_false_iff_ne]
          intro h; exact e (UInt8.toNat_inj.1 (by omega))
        clear hx
        go_wp2
        go_round
        case rel => exact ⟨k + 1, by omega, by go_num, fun j hj => by
          by_cases hjk : j = k
          · subst hjk; exact e
          · exact hno j (by omega)⟩
        case measure => simp [intOf]; omega
    · obtain rfl : k = 16 := by omega
      go_wp2
      go_ret
      exact ⟨ret_i64q (by rw [hno.last 0]; rfl), rfl⟩

theorem ext_eq (s : ByteArray) (k : Nat) (h : k < s.size) (x : UInt8) : ((s.extract k (k + 1)).toList == [x]) = decide ((s[k].toNat : Int) = x.toNat) := by
  rw [extract_one s k h, ByteArray.toList_mk, Bool.eq_iff_iff]
  simp only [beq_iff_eq, List.cons.injEq, and_true, decide_eq_true_eq]
  constructor
  · intro h; rw [h]
  · intro h; exact UInt8.toNat_inj.1 (by omega)

/-- What the loop knows at its head. -/
def UnqAt (s : ByteArray) (k : Nat) (v : Value) : Prop := ∃ acc, v = .string ⟨acc.toArray⟩ ∧ Unq (nibF 0) s k acc
theorem UnqAt.next {s : ByteArray} {k j : Nat} {acc : List UInt8} {u : UInt8} {b : ByteArray} (h : Unq (nibF 0) s k acc) (hk : k < s.size - 1) (hj : stepW (cur s k) = j) (hu : stepB (nibF 0) (cur s k) = u) (hb : b = ⟨(acc ++ [u]).toArray⟩) : UnqAt s (k + j) (.string b) :=
  ⟨acc ++ [u], by rw [hb], by subst hj; subst hu; exact h.step hk⟩

theorem step_other {s : ByteArray} {k : Nat} (i0 : k < s.size) (hk : k < s.size - 1) (h : (s[k]'i0).toNat ≠ 92 ∨ s.size - 1 ≤ k + 1) : stepW (cur s k) = 1 ∧ stepB (nibF 0) (cur s k) = (s[k]'i0) := by
  have h0 := cur_get s k 0 (by omega)
  have hl := cur_len s k
  have hc : (((cur s k).getD 0 0).toNat ≠ 92 ∨ (cur s k).length ≤ 1) := by rw [h0]; simp only [Nat.add_zero]; omega
  exact ⟨by rw [stepW, if_pos hc], by rw [stepB, if_pos hc, h0]; rfl⟩
theorem step_nl {s : ByteArray} {k : Nat} (i0 : k < s.size) (i1 : k + 1 < s.size) (hk : k + 1 < s.size - 1) (h : (s[k]'i0).toNat = 92) (h1 : (s[k + 1]'i1).toNat = 110) : stepW (cur s k) = 2 ∧ stepB (nibF 0) (cur s k) = 10 := by
  have h0 := cur_get s k 0 (by omega)
  have hg1 := cur_get s k 1 (by omega)
  have hl := cur_len s k
  have hc : ¬ (((cur s k).getD 0 0).toNat ≠ 92 ∨ (cur s k).length ≤ 1) := by rw [h0]; simp only [Nat.add_zero]; omega
  have hd : ((cur s k).getD 1 0).toNat = 110 := by rw [hg1]; exact h1
  exact ⟨by rw [stepW, if_neg hc, if_pos hd], by rw [stepB, if_neg hc, if_pos hd]⟩
theorem step_hex {s : ByteArray} {k : Nat} (i0 : k < s.size) (i1 : k + 1 < s.size) (i2 : k + 2 < s.size) (i3 : k + 3 < s.size) (hk : k + 3 < s.size - 1) (h : (s[k]'i0).toNat = 92) (h1 : (s[k + 1]'i1).toNat = 120) : stepW (cur s k) = 4 ∧ stepB (nibF 0) (cur s k) = (nibF 0 (s[k + 2]'i2) * 16 + nibF 0 (s[k + 3]'i3)).toUInt8 := by
  have h0 := cur_get s k 0 (by omega)
  have hg1 := cur_get s k 1 (by omega)
  have hg2 := cur_get s k 2 (by omega)
  have hg3 := cur_get s k 3 (by omega)
  have hl := cur_len s k
  have hc : ¬ (((cur s k).getD 0 0).toNat ≠ 92 ∨ (cur s k).length ≤ 1) := by rw [h0]; simp only [Nat.add_zero]; omega
  have hd : ¬ ((cur s k).getD 1 0).toNat = 110 := by rw [hg1]; omega
  have he : ((cur s k).getD 1 0).toNat = 120 ∧ 4 ≤ (cur s k).length := by rw [hg1]; omega
  exact ⟨by rw [stepW, if_neg hc, if_neg hd, if_pos he], by rw [stepB, if_neg hc, if_neg hd, if_pos he, hg2, hg3]⟩
theorem step_esc {s : ByteArray} {k : Nat} (i0 : k < s.size) (i1 : k + 1 < s.size) (hk : k + 1 < s.size - 1) (h : (s[k]'i0).toNat = 92) (h1 : (s[k + 1]'i1).toNat ≠ 110) (h2 : (s[k + 1]'i1).toNat ≠ 120 ∨ s.size - 1 ≤ k + 3) : stepW (cur s k) = 2 ∧ stepB (nibF 0) (cur s k) = (s[k + 1]'i1) := by
  have h0 := cur_get s k 0 (by omega)
  have hg1 := cur_get s k 1 (by omega)
  have hl := cur_len s k
  have hc : ¬ (((cur s k).getD 0 0).toNat ≠ 92 ∨ (cur s k).length ≤ 1) := by rw [h0]; simp only [Nat.add_zero]; omega
  have hd : ¬ ((cur s k).getD 1 0).toNat = 110 := by rw [hg1]; exact h1
  have he : ¬ (((cur s k).getD 1 0).toNat = 120 ∧ 4 ≤ (cur s k).length) := by rw [hg1]; omega
  exact ⟨by rw [stepW, if_neg hc, if_neg hd, if_neg he], by rw [stepB, if_neg hc, if_neg hd, if_neg he, hg1]⟩
theorem app_ext {s : ByteArray} {k : Nat} (h : k < s.size) (acc : List UInt8) : (⟨acc.toArray⟩ : ByteArray) ++ s.extract k (k + 1) = ⟨(acc ++ [s[k]]).toArray⟩ := by
  rw [extract_one s k h, bytes_append]

def hexByte (a b : Nat) : UInt8 := (a * 16 + b).toUInt8
theorem hexByte_nat (a b : Nat) (ha : a < 16) (hb : b < 16) : (hexByte a b).toNat = a * 16 + b := by
  unfold hexByte
  have : (a * 16 + b) % 256 = a * 16 + b := Nat.mod_eq_of_lt (by omega)
  simpa using this
theorem conv_byte (wr : World) (x : Int) (u : UInt8) (hx : x = u.toNat) :
    (convert 29 9 (.slice (some ⟨wr.heap.size, 0, none⟩) 1 1)).run Try.prog (wr.alloc (.cells #[.int .u8 x] 5)).drew = .ok (.string ⟨[u].toArray⟩) (wr.alloc (.cells #[.int .u8 x] 5)).drew := by
  subst hx
  refine run_convert_bytes_back _ 29 9 5 ⟨wr.heap.size, 0, none⟩ 1 [u] Try.underlying29 Try.underlying5 Try.underlying9 ?_
  intro j hj
  have hj0 : j = 0 := by simpa using hj
  subst hj0
  have hh : (wr.alloc (.cells #[.int .u8 (u.toNat : Int)] 5)).drew.heap[wr.heap.size]? = some (.cells #[.int .u8 (u.toNat : Int)] 5) := (MapKept.heap_alloc wr _).1
  have hcell : (wr.alloc (.cells #[.int .u8 (u.toNat : Int)] 5)).drew.cell? ⟨wr.heap.size, 0, none⟩ = some (.int .u8 (u.toNat : Int)) := by
    unfold World.cell?
    simp only [hh]
    rfl
  exact hcell

set_option maxHeartbeats 2000000 in
theorem specUnq (s : ByteArray) (w : World) (hs : s.size ≤ 1048576) :
    Calls Try.prog 10 #[.string s] w fun e w' => e = .returned (.tuple #[.string (unqT (nibF 0) s), .bool (unqOk (nibF 0) s)]) ∧ Below w.heap.size w w' := by
  go_enter Try.func10, Try.ntmps10
  go_wp2
  go_loopw [4, 5] (fun v i wr => ∃ k : Nat, 1 ≤ k ∧ i = .int .i64 k ∧ UnqAt s k v ∧ k ≤ s.size + 1 ∧ Below w.heap.size w wr) (fun _ i _ => s.size + 1 - (intOf i).toNat)
  case atStart => exact ⟨1, Nat.le_refl _, rfl, ⟨[], rfl, Unq.start _ _⟩, by omega, Below.refl _ _⟩
  case round =>
    obtain ⟨k, hk1, rfl, ⟨acc, rfl, hun⟩, hk2, hbw⟩ := hrel
    have hal := hun.len
    by_cases hlt : k < s.size - 1
    · have hlt' : (k : Int) < (s.size : Int) - 1 := by omega
      have i0 : k < s.size := by omega
      have HX := Lib.hid (ext_eq s k i0 92)
      by_cases hoth : s[k].toNat ≠ 92 ∨ s.size - 1 ≤ k + 1
      · have X := Lib.hid (step_other i0 hlt hoth)
        have Y := Lib.hid (app_ext (s := s) (k := k) i0 acc)
        by_cases e : s[k].toNat = 92
        · have h92 : ((s.extract k (k + 1)).toList == [92]) = true := by rw [HX.out]; simp [e]
          have hge : (s.size : Int) - 1 ≤ (k : Int) + 1 := by omega
          clear e hoth
          go_wp2
          go_roundw
          case rel => exact ⟨k + 1, by omega, by go_num, UnqAt.next hun hlt X.out.1 X.out.2 Y.out, by omega, hbw⟩
          case measure => simp [intOf]; omega
        · have h92 : ((s.extract k (k + 1)).toList == [92]) = false := by rw [HX.out]; simp; omega
          clear e hoth
          go_wp2
          go_roundw
          case rel => exact ⟨k + 1, by omega, by go_num, UnqAt.next hun hlt X.out.1 X.out.2 Y.out, by omega, hbw⟩
          case measure => simp [intOf]; omega
      · have e : s[k].toNat = 92 := by omega
        have hlt1 : k + 1 < s.size - 1 := by omega
        have i1 : k + 1 < s.size := by omega
        have hlt1' : (k : Int) + 1 < (s.size : Int) - 1 := by omega
        have h92 : ((s.extract k (k + 1)).toList == [92]) = true := by rw [HX.out]; simp [e]
        have HY := Lib.hid (fun x => ext_eq s (k + 1) i1 x)
        clear hoth
        by_cases e1 : s[k + 1].toNat = 110
        · have X := Lib.hid (step_nl i0 i1 hlt1 e e1)
          have h110 : ((s.extract (k + 1) (k + 1 + 1)).toList == [110]) = true := by rw [HY.out]; simp [e1]
          clear e e1
          go_wp2
          go_roundw
          case rel => exact ⟨k + 2, by omega, by go_num, UnqAt.next hun hlt X.out.1 X.out.2 (by rw [show (#[10] : Array UInt8) = [10].toArray from rfl, bytes_append]), by omega, hbw⟩
          case measure => simp [intOf]; omega
        · have h110 : ((s.extract (k + 1) (k + 1 + 1)).toList == [110]) = false := by rw [HY.out]; simp; omega
          have Y := Lib.hid (app_ext (s := s) (k := k + 1) i1 acc)
          by_cases e2 : s[k + 1].toNat ≠ 120
          · have X := Lib.hid (step_esc i0 i1 hlt1 e e1 (.inl e2))
            have h120 : ((s.extract (k + 1) (k + 1 + 1)).toList == [120]) = false := by rw [HY.out]; simp; omega
            clear e e1 e2
            go_wp2
            go_roundw
            case rel => exact ⟨k + 2, by omega, by go_num, UnqAt.next hun hlt X.out.1 X.out.2 Y.out, by omega, hbw⟩
            case measure => simp [intOf]; omega
          · have e3 : s[k + 1].toNat = 120 := by omega
            have h120 : ((s.extract (k + 1) (k + 1 + 1)).toList == [120]) = true := by rw [HY.out]; simp [e3]
            by_cases hlt3 : k + 3 < s.size - 1
            · have i2 : k + 2 < s.size := by omega
              have i3 : k + 3 < s.size := by omega
              have X := Lib.hid (step_hex i0 i1 i2 i3 hlt3 e e3)
              have hlt3' : (k : Int) + 1 + 2 < (s.size : Int) - 1 := by omega
              clear e e1 e2 e3
              have na := nibF_lt 0 (by omega) s[k + 2]
              have nb := nibF_lt 0 (by omega) s[k + 3]
              have s1 : IntKind.i64.wrap ((k : Int) + 1 + 1) = (k : Int) + 2 := by rw [IntWalk.i64_in _ (by omega)]; omega
              have s2 : IntKind.i64.wrap ((k : Int) + 1 + 2) = (k : Int) + 3 := by rw [IntWalk.i64_in _ (by omega)]; omega
              have s3 : ((k : Int) + 2).toNat = k + 2 := by omega
              have s4 : ((k : Int) + 3).toNat = k + 3 := by omega
              have s5 : (0 : Int) ≤ (k : Int) + 2 := by omega
              have s6 : (0 : Int) ≤ (k : Int) + 3 := by omega
              have c2 : (k : Int) + 2 < (s.size : Int) := by omega
              have c3 : (k : Int) + 3 < (s.size : Int) := by omega
              have s7 : IntKind.i64.wrap ((nibF 0 s[k + 2] : Int) * 16) = (nibF 0 s[k + 2] : Int) * 16 := IntWalk.i64_in _ (by omega)
              have s8 : IntKind.i64.wrap ((nibF 0 s[k + 2] : Int) * 16 + (nibF 0 s[k + 3] : Int)) = (nibF 0 s[k + 2] : Int) * 16 + (nibF 0 s[k + 3] : Int) := IntWalk.i64_in _ (by omega)
              have s9 : IntKind.u8.wrap ((nibF 0 s[k + 2] : Int) * 16 + (nibF 0 s[k + 3] : Int)) = (nibF 0 s[k + 2] : Int) * 16 + (nibF 0 s[k + 3] : Int) := IntWalk.u8_in _ (by omega)
              go_wp2_with fail
              refine wp_region_still_tail 13 (by kernel_rfl) (by kernel_rfl) ?_
              simp only [List.take_succ_cons, List.take_zero, List.drop_succ_cons, List.drop_zero]
              repeat (first | still_step | still_call (l1Nibble_any _ _))
              refine wpStill_nil ?_
              change wpList _ _ _ _ _ wr.drew
              clear s1 s2 s7 s8 s9
              have hcv := conv_byte wr ((nibF 0 s[k + 2] : Int) * 16 + (nibF 0 s[k + 3] : Int)) (hexByte (nibF 0 s[k + 2]) (nibF 0 s[k + 3])) (by have := hexByte_nat _ _ na nb; omega)
              have Z := Lib.hid (bytes_append acc [hexByte (nibF 0 s[k + 2]) (nibF 0 s[k + 3])])
              go_wp2
              go_roundw
              case rel => exact ⟨k + 4, by omega, by go_num, UnqAt.next hun hlt X.out.1 X.out.2 Z.out, by omega, (hbw.alloc hbw.size _).drew⟩
              case measure => simp [intOf]; omega
            · have X := Lib.hid (step_esc i0 i1 hlt1 e e1 (.inr (by omega)))
              have hge3 : (s.size : Int) - 1 ≤ (k : Int) + 1 + 2 := by omega
              clear e e1 e2 e3
              go_wp2
              go_roundw
              case rel => exact ⟨k + 2, by omega, by go_num, UnqAt.next hun hlt X.out.1 X.out.2 Y.out, by omega, hbw⟩
              case measure => simp [intOf]; omega
    · have hge : (s.size : Int) - 1 ≤ (k : Int) := by omega
      have X := hun.last (by omega)
      subst X
      have hun2 := Lib.hid hun
      clear hun
      have hql : (⟨(unesc (nibF 0) s).toArray⟩ : ByteArray).size ≤ 1048576 := by show (unesc (nibF 0) s).toArray.size ≤ _; simp; omega
      cases hok : unqOk (nibF 0) s
      · have T := Lib.hid (show unqT (nibF 0) s = ⟨#[]⟩ by unfold unqT; rw [if_neg (by simp [hok])])
        have hne : (quoteL (unesc (nibF 0) s) == s.toList) = false := by rw [ByteArray.toList_eq]; exact hok
        have HOK := Lib.hid hok
        clear hok
        go_wp2_with (go_at_call 8; refine (specQuote _ _ hql).mono ?_; rintro e w' ⟨rfl, rfl⟩)
        go_ret2
        exact ⟨by rw [T.out, HOK.out]; rfl, hbw⟩
      · have T := Lib.hid (show unqT (nibF 0) s = ⟨(unesc (nibF 0) s).toArray⟩ by unfold unqT; rw [if_pos hok])
        have hne : (quoteL (unesc (nibF 0) s) == s.toList) = true := by rw [ByteArray.toList_eq]; exact hok
        have HOK := Lib.hid hok
        clear hok
        go_wp2_with (go_at_call 8; refine (specQuote _ _ hql).mono ?_; rintro e w' ⟨rfl, rfl⟩)
        go_ret2
        exact ⟨by rw [T.out, HOK.out]; rfl, hbw⟩
end Go.Proofs.Ytogkbfafdlbodaa
