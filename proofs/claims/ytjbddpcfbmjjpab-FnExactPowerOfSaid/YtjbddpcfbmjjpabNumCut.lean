/- What an exact law on two items knows between its statements. -/
import Derived.Test.YtjbddpcfbmjjpabNumMath
import Derived.Test.YtjbddpcfbmjjpabNumKit
namespace Go.Proofs.Ytjbddpcfbmjjpab
open Go.RowKit
set_option linter.unusedVariables false

/-- Behind the first statement: both arguments lie where they lay, and block g holds an item. -/
def Aft (w : World) (x y z : It) (g : Nat) (v : World) : Prop :=
  Below w.heap.size w v ∧ v.heap[w.heap.size]? = some (.cells #[.int .i64 x.n, .int .i64 x.d, .string x.t] 23 (0, 0)) ∧
  v.heap[w.heap.size + 1]? = some (.cells #[.int .i64 y.n, .int .i64 y.d, .string y.t] 23 (0, 0)) ∧ w.heap.size + 1 < g ∧
  v.heap[g]? = some (.cells #[.int .i64 z.n, .int .i64 z.d, .string z.t] 25 (0, 0))
theorem aft_set {w v : World} {x y z : It} {g : Nat} {a b c : Value} (B : Below w.heap.size w v)
    (GX : v.heap[w.heap.size]? = some (.cells #[.int .i64 x.n, .int .i64 x.d, .string x.t] 23 (0, 0)))
    (GY : v.heap[w.heap.size + 1]? = some (.cells #[.int .i64 y.n, .int .i64 y.d, .string y.t] 23 (0, 0)))
    (G : v.heap[g]? = some (.cells #[a, b, c] 25 (0, 0))) (hg : w.heap.size + 1 < g) :
    Aft w x y z g (((v.setCell ⟨g, 0, none⟩ (.int .i64 z.n)).setCell ⟨g, 1, none⟩ (.int .i64 z.d)).setCell ⟨g, 2, none⟩ (.string z.t)) :=
  ⟨below_three B (by omega) _ _ _, blk_set3 GX (by omega), blk_set3 GY (by omega), hg, Joins.block_setCell (Joins.block_setCell (Joins.block_setCell G _) _) _⟩
theorem aft_new {w v : World} {x y z : It} (B : Below w.heap.size w v)
    (GX : v.heap[w.heap.size]? = some (.cells #[.int .i64 x.n, .int .i64 x.d, .string x.t] 23 (0, 0)))
    (GY : v.heap[w.heap.size + 1]? = some (.cells #[.int .i64 y.n, .int .i64 y.d, .string y.t] 23 (0, 0))) :
    Aft w x y z v.heap.size (v.alloc (.cells #[.int .i64 z.n, .int .i64 z.d, .string z.t] 25)) :=
  ⟨B.alloc B.size _, blk_old GX, blk_old GY, (Array.getElem?_eq_some_iff.1 GY).1, blk_new _ _ rfl⟩
/-- Behind the second statement: two blocks hold the same item. -/
def Aft2 (w : World) (z : It) (g h : Nat) (v : World) : Prop :=
  Below w.heap.size w v ∧ v.heap[g]? = some (.cells #[.int .i64 z.n, .int .i64 z.d, .string z.t] 25 (0, 0)) ∧
  v.heap[h]? = some (.cells #[.int .i64 z.n, .int .i64 z.d, .string z.t] 25 (0, 0))
theorem aft2_set {w v : World} {z : It} {g h : Nat} {a b c : Value} (B : Below w.heap.size w v)
    (GZ : v.heap[g]? = some (.cells #[.int .i64 z.n, .int .i64 z.d, .string z.t] 25 (0, 0)))
    (G : v.heap[h]? = some (.cells #[a, b, c] 25 (0, 0))) (hg : w.heap.size ≤ h) (hh : g < h) :
    Aft2 w z g h (((v.setCell ⟨h, 0, none⟩ (.int .i64 z.n)).setCell ⟨h, 1, none⟩ (.int .i64 z.d)).setCell ⟨h, 2, none⟩ (.string z.t)) :=
  ⟨below_three B hg _ _ _, blk_set3 GZ hh, Joins.block_setCell (Joins.block_setCell (Joins.block_setCell G _) _) _⟩
theorem aft2_new {w v : World} {z : It} {g : Nat} (B : Below w.heap.size w v)
    (GZ : v.heap[g]? = some (.cells #[.int .i64 z.n, .int .i64 z.d, .string z.t] 25 (0, 0))) :
    Aft2 w z g v.heap.size (v.alloc (.cells #[.int .i64 z.n, .int .i64 z.d, .string z.t] 25)) :=
  ⟨B.alloc B.size _, blk_old GZ, blk_new _ _ rfl⟩
end Go.Proofs.Ytjbddpcfbmjjpab
