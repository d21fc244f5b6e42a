/- The table of powers of ten, as a row of three variables lists it. -/
import Derived.Test.YtddebgmjolojeaaDoorRows
import Derived.Test.YtddebgmjolojeaaDoorMt2
import Derived.LaidMore
import Derived.Lib.LaidTab
namespace Go.Proofs.YtddebgmjolojeaaDoor
set_option maxRecDepth 100000
open Go.RowKit Go.ChangeShapes

theorem powOf {a b : String × DataW Unit} {rest : List (String × DataW Unit)} {W : World} (h : laidMet Tryd.prog (a :: b :: ("internal/strconv.uint64pow10", Rows.laid_internal_strconv_uint64pow10) :: rest) W) :
    Lib.TabIs Tryd.prog W "internal/strconv.uint64pow10" .u64 Lib.pow10Tab := by
  have h2 := h.tail.tail
  rw [powData] at h2
  exact Lib.tabIs_of_head (rest := rest) gPow gPowType Tryd.underlying103 Tryd.underlying96 cellsU64 cellsTab h2
end Go.Proofs.YtddebgmjolojeaaDoor
