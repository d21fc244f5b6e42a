/- The text of an integer: the program's function. -/
import Derived.Test.YtjpdnabfpiengaaDoorRows
import Derived.Test.YtjpdnabfpiengaaDoorShelf
import Derived.Lib.AppendIntMem
import Derived.WalkKit
import Derived.Lib.Hide
namespace Go.Proofs.YtjpdnabfpiengaaDoor
set_option maxRecDepth 100000
open Go.RowKit

theorem implFmt (n : Int) (w : World) (h0 : -9223372036854775808 ≤ n) (h1 : n ≤ 9223372036854775807) (htab : Lib.TabIs Tryd.prog w "internal/strconv.uint64pow10" .u64 Lib.pow10Tab) :
    Calls Tryd.prog 83 #[.int .i64 n] w fun e w' => e = .returned (.string ⟨(Lib.itoa n).toArray⟩) ∧ Below w.heap.size w w' := by
  have H := Lib.hid htab
  clear htab
  go_enter Tryd.func83, Tryd.ntmps83
  go_wp2_with fail
  refine (Tryd.strconv_Itoa n h0 h1 _ H.out).mono ?_
  rintro e w1 ⟨rfl, k, os, rfl⟩
  go_wp2_with fail
  go_ret
  exact ⟨rfl, Lib.below_grow _ w (Nat.le_refl _) k os⟩
end Go.Proofs.YtjpdnabfpiengaaDoor
