/- The laws' own helper that derives one code from another: what it hands out is bytes. -/
import Derived.Test.YtmglolpiekbnpaaDoorDrawCore
import Derived.OwnWalk
import Derived.Laws.OwnMore
import Derived.Maps.AppendAt
import Derived.Deep.OwnRows
import Derived.ChangeSlices
import Derived.ProofKit
namespace Go.Proofs.YtmglolpiekbnpaaDoor
set_option maxRecDepth 100000
open Go.RowKit
set_option linter.unusedVariables false

theorem cellsByteF : Tryd.prog.cellsOf 5 = 1 := by kernel_rfl
theorem u8_inF {n : Int} (h : (Lit.int .u8 n).wf = true) : 0 ≤ n ∧ n < 256 := by
  simp [Lit.wf, IntKind.min, IntKind.max, IntKind.signed, IntKind.bits] at h
  omega
theorem cell_ltF {w : World} {p : Addr} {v : Value} (h : w.cell? p = some v) : p.block < w.heap.size := by
  unfold World.cell? at h
  rcases Nat.lt_or_ge p.block w.heap.size with h' | h'
  · exact h'
  · rw [Array.getElem?_eq_none h'] at h; cases h
/-- What a slice of bytes that came in holds. -/
theorem bytes_inF {H : Type} {enc : TypeId × Value → H} {W : World} {base : Nat} {sp : Nat → Bool} {held : Bool} {fuel : Nat} {a : Option Addr} {n cap : Nat} {x : DataW H × List MemPlace}
    (hf : DataW.trod enc Tryd.prog W base sp held fuel 22 (Value.slice a n cap).cells.toList = some x) : CodeAt W.heap.size W a n := by
  rcases ChangeShapes.open_ints Tryd.underlying22 Tryd.underlying5 cellsByteF hf with ⟨hcs, _⟩ | ⟨b, l, c, zs, hcs, _, hl, hm, hz, _, hcell, hws⟩
  · simp [Value.cells] at hcs
    obtain ⟨rfl, rfl, rfl⟩ := hcs
    exact fun i hi => absurd hi (Nat.not_lt_zero _)
  · simp [Value.cells] at hcs
    obtain ⟨rfl, rfl, rfl⟩ := hcs
    intro i hi
    have hlen : i < zs.length := by rw [hz]; split <;> omega
    have hc := hcell i hlen
    obtain ⟨bb, off, spot⟩ := b
    have hspot : spot = none := by simpa [Addr.add] using World.cell?_spot (hcell 0 (by omega))
    subst hspot
    have e : (⟨bb, off, none⟩ : Addr).add i = ⟨bb, off + i, none⟩ := by
      unfold Addr.add
      split
      · rename_i h; subst h; rfl
      · rfl
    rw [e] at hc
    have hr := u8_inF (hws (zs.getD i 0) (by rw [List.getD_eq_getElem?_getD, List.getElem?_eq_getElem hlen]; exact List.getElem_mem hlen))
    exact ⟨bb, off, rfl, cell_ltF hc, _, hr.1, hr.2, hc⟩

theorem bigCode (a : Option Addr) (n cap : Nat) (w : World) :
    Calls Tryd.prog 4 #[.slice a n cap] w fun e w' => e = .returned (.bool (decide (1048576 < (n : Int)))) ∧ w = w' := by
  go_enter Tryd.func4, Tryd.ntmps4
  go_wp2
  go_ret
  exact ⟨rfl, rfl⟩

theorem infoByte : (Tryd.prog.info? 5).map (fun i => (i.zero, i.size, i.bytes)) = some (some (.int .u8 0), 1, 1) := by kernel_rfl
theorem wrap8_in (z : Int) : 0 ≤ IntKind.wrap .u8 z ∧ IntKind.wrap .u8 z < 256 := by
  unfold IntKind.wrap
  simp [IntKind.signed, IntKind.bits]
  omega
/-- A row of bytes of the call's own. -/
def OwnB (B : Nat) (w : World) (v : Value) (zs : List Int) : Prop := w.ownsRow B 5 1 v zs.length (zs.map (Value.int .u8))
theorem OwnB.base {B : Nat} {w : World} {v : Value} {zs : List Int} (h : OwnB B w v zs) : ∀ k, v.ownBlock = some k → B ≤ k := by
  intro k hk
  rcases h.2 with ⟨rfl, _⟩ | ⟨g, cap, cur, rfl, hb, _⟩
  · cases hk
  · simp only [Value.ownBlock, Option.some.injEq] at hk; omega
theorem OwnB.snoc {B : Nat} {w : World} {v : Value} {acc : List Int} {x : Int} (h : w.ownsRow B 5 1 v (acc.length + 1) (acc.map (Value.int .u8) ++ [.int .u8 x])) : OwnB B w v (acc ++ [x]) := by
  unfold OwnB; rw [List.length_append, List.map_append]; exact h
theorem ownB_one (B : Nat) (w : World) (x : Int) (hB : B ≤ w.heap.size) : OwnB B (w.alloc (.cells #[.int .u8 x] 5)) (.slice (some ⟨w.heap.size, 0, none⟩) 1 1) [x] :=
  World.ownsRow_lit w #[.int .u8 x] 1 hB (by decide) rfl
theorem ownB_code {B : Nat} {w : World} {v : Value} {zs : List Int} (h : OwnB B w v zs) (hz : ∀ z ∈ zs, 0 ≤ z ∧ z < 256) : ∃ a cap, v = .slice a zs.length cap ∧ CodeAt w.heap.size w a zs.length := by
  rcases h.2 with ⟨rfl, e⟩ | ⟨g, cap, cur, rfl, hb, hg, rest⟩
  · exact ⟨none, 0, by rw [e], fun i hi => by omega⟩
  · refine ⟨_, cap, rfl, fun i hi => ⟨g, 0, rfl, (Array.getElem?_eq_some_iff.1 hg).1, zs[i], (hz _ (List.getElem_mem hi)).1, (hz _ (List.getElem_mem hi)).2, ?_⟩⟩
    have k := World.ownsRow.cellAt h i (by omega)
    rw [Nat.zero_add, k]
    simp [hi]
theorem byte_one (w : World) (x : Int) (t : TypeId) : ∀ j u, [Value.int .u8 x][j]? = some u → (w.alloc (.cells #[.int .u8 x] t)).cell? ((⟨w.heap.size, 0, none⟩ : Addr).add j) = some u := by
  exact cell_one_new w (.int .u8 x) t

end Go.Proofs.YtmglolpiekbnpaaDoor
