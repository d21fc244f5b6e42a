/- The reference's differences (the region draws its order). -/
import Derived.Test.YtmglolpiekbnpaaDoorNumSpec
import Derived.RegionTactic
namespace Go.Proofs.YtmglolpiekbnpaaDoor
set_option maxRecDepth 100000
open Go.RowKit
set_option linter.unusedVariables false

end Go.Proofs.YtmglolpiekbnpaaDoor
