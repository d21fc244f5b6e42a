/- The laws' own helper that derives one code from another: what it hands out is bytes. -/
import Derived.Test.YtjbddpcfbmjjpaaDrawCore
import Derived.OwnWalk
import Derived.Laws.OwnMore
import Derived.Maps.AppendAt
import Derived.Deep.OwnRows
import Derived.ChangeSlices
import Derived.ProofKit
namespace Go.Proofs.Ytjbddpcfbmjjpaa
open Go.RowKit
set_option linter.unusedVariables false

theorem cellsByteF : Try.prog.cellsOf 5 = 1 := by kernel_rfl
theorem u8_inF {n : Int} (h : (Lit.int .u8 n).wf = true) : 0 ≤ n ∧ n < 256 := by
  simp [Lit.wf, IntKind.min, IntKind.max, IntKind.signed, IntKind.bits] at h
  omega
theorem cell_ltF {w : World} {p : Addr} {v : Value} (h : w.cell? p = some v) : p.block < w.heap.size := by
  unfold World.cell? at h
  rcases Nat.lt_or_ge p.block w.heap.size with h' | h'
  · exact h'
  · rw [Array.getElem?_eq_none h'] at h; cases h
/-- What a slice of bytes that came in holds. -/
theorem bytes_inF {H : Type} {enc : TypeId × Value → H} {W : World} {base : Nat} {sp : Nat → Bool} {held : Bool} {fuel : Nat} {a : Option Addr} {n cap : Nat} {x : DataW H × List MemPlace}
    (hf : DataW.trod enc Try.prog W base sp held fuel 22 (Value.slice a n cap).cells.toList = some x) : CodeAt W.heap.size W a n := by
  rcases ChangeShapes.open_ints Try.underlying22 Try.underlying5 cellsByteF hf with ⟨hcs, _⟩ | ⟨b, l, c, zs, hcs, _, hl, hm, hz, _, hcell, hws⟩
  · simp [Value.cells] at hcs
    obtain ⟨rfl, rfl, rfl⟩ := hcs
    exact fun i hi => absurd hi (Nat.not_lt_zero _)
  · simp [Value.cells] at hcs
    obtain ⟨rfl, rfl, rfl⟩ := hcs
    intro i hi
    have hlen : i < zs.length := by rw [hz]; split <;> omega
    have hc := hcell i hlen
    obtain ⟨bb, off, spot⟩ := b
    have hspot : spot = none := by simpa [Addr.add] using World.cell?_spot (hcell 0 (by omega))
    subst hspot
    have e : (⟨bb, off, none⟩ : Addr).add i = ⟨bb, off + i, none⟩ := by
      unfold Addr.add
      split
      · rename_i h; subst h; rfl
      · rfl
    rw [e] at hc
    have hr := u8_inF (hws (zs.getD i 0) (by rw [List.getD_eq_getElem?_getD, List.getElem?_eq_getElem hlen]; exact List.getElem_mem hlen))
    exact ⟨bb, off, rfl, cell_ltF hc, _, hr.1, hr.2, hc⟩

theorem bigCode (a : Option Addr) (n cap : Nat) (w : World) :
    Calls Try.prog 14 #[.slice a n cap] w fun e w' => e = .returned (.bool (decide (1048576 < (n : Int)))) ∧ w = w' := by
  go_enter Try.func14, Try.ntmps14
  go_wp2
  go_ret
  exact ⟨rfl, rfl⟩

theorem infoByte : (Try.prog.info? 5).map (fun i => (i.zero, i.size, i.bytes)) = some (some (.int .u8 0), 1, 1) := by kernel_rfl
theorem wrap8_in (z : Int) : 0 ≤ IntKind.wrap .u8 z ∧ IntKind.wrap .u8 z < 256 := by
  unfold IntKind.wrap
  simp [IntKind.signed, IntKind.bits]
  omega
/-- A row of bytes of the call's own. -/
def OwnB (B : Nat) (w : World) (v : Value) (zs : List Int) : Prop := w.ownsRow B 5 1 v zs.length (zs.map (Value.int .u8))
theorem OwnB.base {B : Nat} {w : World} {v : Value} {zs : List Int} (h : OwnB B w v zs) : ∀ k, v.ownBlock = some k → B ≤ k := by
  intro k hk
  rcases h.2 with ⟨rfl, _⟩ | ⟨g, cap, cur, rfl, hb, _⟩
  · cases hk
  · simp only [Value.ownBlock, Option.some.injEq] at hk; omega
theorem OwnB.snoc {B : Nat} {w : World} {v : Value} {acc : List Int} {x : Int} (h : w.ownsRow B 5 1 v (acc.length + 1) (acc.map (Value.int .u8) ++ [.int .u8 x])) : OwnB B w v (acc ++ [x]) := by
  unfold OwnB; rw [List.length_append, List.map_append]; exact h
theorem ownB_one (B : Nat) (w : World) (x : Int) (hB : B ≤ w.heap.size) : OwnB B (w.alloc (.cells #[.int .u8 x] 5)) (.slice (some ⟨w.heap.size, 0, none⟩) 1 1) [x] :=
  World.ownsRow_lit w #[.int .u8 x] 1 hB (by decide) rfl
theorem ownB_code {B : Nat} {w : World} {v : Value} {zs : List Int} (h : OwnB B w v zs) (hz : ∀ z ∈ zs, 0 ≤ z ∧ z < 256) : ∃ a cap, v = .slice a zs.length cap ∧ CodeAt w.heap.size w a zs.length := by
  rcases h.2 with ⟨rfl, e⟩ | ⟨g, cap, cur, rfl, hb, hg, rest⟩
  · exact ⟨none, 0, by rw [e], fun i hi => by omega⟩
  · refine ⟨_, cap, rfl, fun i hi => ⟨g, 0, rfl, (Array.getElem?_eq_some_iff.1 hg).1, zs[i], (hz _ (List.getElem_mem hi)).1, (hz _ (List.getElem_mem hi)).2, ?_⟩⟩
    have k := World.ownsRow.cellAt h i (by omega)
    rw [Nat.zero_add, k]
    simp [hi]
theorem byte_one (w : World) (x : Int) (t : TypeId) : ∀ j u, [Value.int .u8 x][j]? = some u → (w.alloc (.cells #[.int .u8 x] t)).cell? ((⟨w.heap.size, 0, none⟩ : Addr).add j) = some u := by
  exact cell_one_new w (.int .u8 x) t

set_option maxHeartbeats 2000000 in
set_option maxRecDepth 100000 in
theorem freshAny (salt : Int) (h0 : 0 ≤ salt) (h1 : salt ≤ 1000) (a : Option Addr) (n cap : Nat) (w : World) (hs : CodeAt w.heap.size w a n) (hn : n ≤ 1048576) :
    Calls Try.prog 17 #[.slice a n cap, .int .i64 salt] w fun e w' => (∃ a' n' cap', e = .returned (.slice a' n' cap') ∧ n' ≤ 601 ∧ CodeAt w'.heap.size w' a' n') ∧ Below w.heap.size w w' := by
  obtain ⟨i0, hi, hz0, hz1, hz2⟩ := info_parts infoByte
  have S := Lib.hid hs
  clear hs
  go_enter Try.func17, Try.ntmps17
  go_wp2
  go_loopw [5, 6] (fun v c wr => ∃ (k : Nat) (acc : List Int), k ≤ n ∧ k ≤ 600 ∧ c = .int .i64 k ∧ OwnB w.heap.size wr v acc ∧ acc.length = k + 1 ∧ (∀ x ∈ acc, 0 ≤ x ∧ x < 256) ∧ Below w.heap.size w wr) (fun _ c _ => n - (intOf c).toNat)
  case atStart => exact ⟨0, [_], by omega, by omega, rfl, ownB_one _ _ _ (Nat.le_refl _), rfl, fun x hx => by simp at hx; subst hx; first | exact wrap8_in _ | omega, (Below.refl _ _).alloc (Nat.le_refl _) _⟩
  case round =>
    rename_i wr
    obtain ⟨k, acc, hk, hk6, rfl, hown, hlen, hsm, hb⟩ := hrel
    have OW := Lib.hid hown
    have SM := Lib.hid hsm
    have B1 := Lib.hid hb
    have HL := Lib.hid hlen
    clear hown hsm hb hlen
    by_cases hlt : k < n ∧ k < 600
    · obtain ⟨hlt, hl6⟩ := hlt
      obtain ⟨b, off, rfl, hbb, y, hy0, hy1, hy⟩ := (S.out.below B1.out) k hlt
      have hlt' : (k : Int) < (n : Int) := by omega
      have hl9 : acc.length ≤ 601 := by have := HL.out; omega
      obtain ⟨z, hz⟩ : ∃ z, wrap64 (y * 3 + wrap64 (salt * ((k : Int) % 7 + 1))) % 256 = z := ⟨_, rfl⟩
      have Z := Lib.hid (show 0 ≤ z ∧ z < 256 by omega)
      have HZ := Lib.hid hz
      clear hz
      go_wp2_with (at_builtin; rw [HZ.out]; refine wpList_append_own _ rfl _ _ 22 rfl w.heap.size 5 i0 (.int .u8 0) 1 1 Try.underlying22 hi hz0 hz1 hz2 rfl (by decide) _ _ _ rfl (World.ownsRow.alloc OW.out _) ⟨wr.heap.size, 0, none⟩ 1 1 [.int .u8 z] rfl rfl ?c1 ?c2 ?c3 ?c4 ?c5 ?_)
      case c1 => exact cell_one_new _ _ _
      case c2 => intro u hu; simp at hu; subst hu; rfl
      case c3 => unfold maxLen; omega
      case c4 => omega
      case c5 => have := B1.out.size; simp; omega
      intro v' w3 hown' hgrow _
      have O3 := Lib.hid (OwnB.snoc (x := z) hown')
      have B3 := Lib.hid (((B1.out.alloc B1.out.size _)).grown hgrow (by have := B1.out.size; simp; omega) (fun j hj => OW.out.base j hj))
      clear hown' hgrow
      go_wp2
      go_roundw
      case rel => exact ⟨k + 1, acc ++ [z], by omega, by omega, by go_num, O3.out, by rw [List.length_append, List.length_singleton, HL.out], fun x hx => by
        rcases List.mem_append.1 hx with h | h
        · exact SM.out x h
        · simp at h; subst h; exact Z.out, B3.out⟩
      case measure => simp [intOf]; omega
    · have hend : ¬ (k < n) ∨ ¬ (k < 600) := by omega
      obtain ⟨a', c', rfl, hcode⟩ := ownB_code OW.out SM.out
      have HC := Lib.hid hcode
      have hl : acc.length ≤ 601 := by have := HL.out; omega
      clear hlt hcode
      rcases hend with hend | hend
      all_goals
        go_wp2
        all_goals
          go_ret
          exact ⟨⟨_, _, _, rfl, by omega, HC.out⟩, B1.out⟩
end Go.Proofs.Ytjbddpcfbmjjpaa
