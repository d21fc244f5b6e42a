/- The reserved words: both functions, against one list of byte lists. -/
import Derived.Test.YtikgcogiiohahaaGreatDoorRows
import Derived.Test.YtikgcogiiohahaaGreatDoorIsName
import Derived.WalkKit
import Derived.WalkSpells
import Derived.WalkLawsBesides
import Derived.Lib.Hide
namespace Go.Proofs.YtikgcogiiohahaaGreatDoor
open Go.RowKit Go.Lib

def reservedWords : List (List UInt8) := [[105, 102], [101, 108, 115, 101], [102, 111, 114], [105, 110], [119, 104, 105, 108, 101], [98, 114, 101, 97, 107], [110, 101, 120, 116], [102, 117, 110, 99, 116, 105, 111, 110], [114, 101, 116, 117, 114, 110], [84, 82, 85, 69], [70, 65, 76, 83, 69], [78, 85, 76, 76], [78, 65], [78, 65, 95, 110, 117, 109, 98, 101, 114, 95], [78, 65, 95, 99, 104, 97, 114, 97, 99, 116, 101, 114, 95], [116, 114, 121, 67, 97, 116, 99, 104], [119, 105, 116, 104, 67, 97, 108, 108, 105, 110, 103, 72, 97, 110, 100, 108, 101, 114, 115], [119, 105, 116, 104, 82, 101, 115, 116, 97, 114, 116], [105, 110, 118, 111, 107, 101, 82, 101, 115, 116, 97, 114, 116], [109, 105, 115, 115, 105, 110, 103], [111, 110, 46, 101, 120, 105, 116], [85, 115, 101, 77, 101, 116, 104, 111, 100], [78, 101, 120, 116, 77, 101, 116, 104, 111, 100]]
def reservedB (l : List UInt8) : Bool := reservedWords.any (fun x => l == x)

/-- The place of the first of c strings from place i on that is s; -1 if none is. -/
def findF (s : ByteArray) (f : Nat → ByteArray) : Nat → Nat → Int
  | 0, _ => -1
  | c + 1, i => if (f i).toList == s.toList then (i : Int) else findF s f c (i + 1)
theorem findF_le (s : ByteArray) (f : Nat → ByteArray) : ∀ c i, -1 ≤ findF s f c i ∧ findF s f c i ≤ i + c := by
  intro c
  induction c with
  | zero => intro i; simp only [findF]; omega
  | succ c ih =>
    intro i
    simp only [findF]
    split
    · omega
    · have := ih (i + 1); omega
theorem findF_any (s : ByteArray) (f : Nat → ByteArray) : ∀ c i, decide (0 ≤ findF s f c i) = ((List.range' i c).any (fun k => (f k).toList == s.toList)) := by
  intro c
  induction c with
  | zero => intro i; simp [findF]
  | succ c ih =>
    intro i
    simp only [findF, List.range'_succ, List.any_cons, ← ih (i + 1)]
    split
    · rename_i h; simp [h]
    · rename_i h
      have h' : ((f i).toList == s.toList) = false := by simpa using h
      simp [h']
def FindAt (s : ByteArray) (f : Nat → ByteArray) (n k : Nat) : Prop := findF s f n 0 = findF s f (n - k) k
theorem FindAt.yes {s : ByteArray} {f : Nat → ByteArray} {n k : Nat} (h : FindAt s f n k) (hk : k < n) (hp : ((f k).toList == s.toList) = true) : findF s f n 0 = k := by
  unfold FindAt at h
  obtain ⟨c, hc⟩ : ∃ c, n - k = c + 1 := ⟨n - k - 1, by omega⟩
  rw [h, hc]; simp [findF, hp]
theorem FindAt.no {s : ByteArray} {f : Nat → ByteArray} {n k : Nat} (h : FindAt s f n k) (hk : k < n) (hp : ((f k).toList == s.toList) = false) : FindAt s f n (k + 1) := by
  unfold FindAt at *
  obtain ⟨c, hc⟩ : ∃ c, n - k = c + 1 := ⟨n - k - 1, by omega⟩
  have hc' : n - (k + 1) = c := by omega
  rw [h, hc, hc']; simp [findF, hp]
theorem FindAt.last {s : ByteArray} {f : Nat → ByteArray} {n k : Nat} (h : FindAt s f n k) (hk : ¬ k < n) : findF s f n 0 = -1 := by
  unfold FindAt at h
  have hc : n - k = 0 := by omega
  rw [h, hc]; rfl
theorem ret_i64 {a b : Int} (h : a = b) : Ending.returned (.int .i64 a) = .returned (.int .i64 b) := by rw [h]

set_option maxHeartbeats 400000 in
theorem specFind (s : ByteArray) (w : World) (b n cap : Nat) (hn : n < 1000000) (f : Nat → ByteArray) (hc : ∀ i, i < n → w.cell? ⟨b, i, none⟩ = some (.string (f i))) :
    Calls Tryz.prog 74 #[.slice (some ⟨b, 0, none⟩) n cap, .string s] w fun e w' => e = .returned (.int .i64 (findF s f n 0)) ∧ w = w' := by
  go_enter Tryz.func74, Tryz.ntmps74
  go_wp2
  go_loop [5] (fun i => ∃ k : Nat, k ≤ n ∧ i = .int .i64 k ∧ FindAt s f n k) (fun i => n - (intOf i).toNat)
  case atStart => exact ⟨0, Nat.zero_le _, rfl, rfl⟩
  case round =>
    obtain ⟨k, hk, rfl, hf⟩ := hrel
    by_cases hlt : k < n
    · have hck := hc k hlt
      clear hc
      by_cases hp : ((f k).toList == s.toList) = true
      · go_wp2
        go_ret
        exact ⟨ret_i64 (hf.yes hlt hp).symm, rfl⟩
      · have hp' : ((f k).toList == s.toList) = false := by simpa using hp
        clear hp
        go_wp2
        go_round
        case rel => exact ⟨k + 1, by omega, by go_num, hf.no hlt hp'⟩
        case measure => simp [intOf]; omega
    · clear hc
      go_wp2
      go_ret
      exact ⟨ret_i64 (hf.last hlt).symm, rfl⟩

theorem cell_strs (w : World) (ss : List ByteArray) (t : TypeId) (i : Nat) (hi : i < ss.length) : (w.alloc (.cells (ss.map Value.string).toArray t)).cell? ⟨w.heap.size, i, none⟩ = some (.string (ss.getD i ByteArray.empty)) := by
  have h : (w.alloc (.cells (ss.map Value.string).toArray t)).heap[w.heap.size]? = some (.cells (ss.map Value.string).toArray t) := (MapKept.heap_alloc w _).1
  unfold World.cell?
  simp only [h]
  simp [hi]

theorem any_range (L : List ByteArray) (q : ByteArray → Bool) : (List.range' 0 L.length).any (fun k => q (L.getD k ByteArray.empty)) = L.any q := by
  rw [Bool.eq_iff_iff, List.any_eq_true, List.any_eq_true]
  constructor
  · rintro ⟨k, hk, hq⟩
    have hk' : k < L.length := by simpa using hk
    exact ⟨L[k], List.getElem_mem _, by simpa [hk'] using hq⟩
  · rintro ⟨x, hx, hq⟩
    obtain ⟨k, hk, rfl⟩ := List.getElem_of_mem hx
    exact ⟨k, by simpa using hk, by simpa [hk] using hq⟩
theorem reserved_find (s : ByteArray) : decide (0 ≤ findF s (fun i => (reservedWords.map (fun l => (⟨l.toArray⟩ : ByteArray))).getD i ByteArray.empty) 23 0) = reservedB s.toList := by
  rw [findF_any]
  have h := any_range (reservedWords.map (fun l => (⟨l.toArray⟩ : ByteArray))) (fun x => x.toList == s.toList)
  refine (show _ = _ from h).trans ?_
  rw [List.any_map]
  unfold reservedB
  congr 1
  funext l
  simp only [Function.comp, ByteArray.toList_mk]
  exact Bool.beq_comm

end Go.Proofs.YtikgcogiiohahaaGreatDoor
