/- Package hex: Take. -/
import Derived.Test.YtabmckjlmpajoaaDoorKAQ
namespace Go.Proofs.YtabmckjlmpajoaaDoor
open Go.RowKit

end Go.Proofs.YtabmckjlmpajoaaDoor
