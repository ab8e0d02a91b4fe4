/- The contracts of what reads a number out of bytes. -/
import Derived.Test.YtabmckjlmpajoaaDoorRows
import Derived.Test.YtabmckjlmpajoaaDoorKAA
import Derived.Test.YtabmckjlmpajoaaDoorKAH
namespace Go.Proofs.YtabmckjlmpajoaaDoor
open Go.RowKit

end Go.Proofs.YtabmckjlmpajoaaDoor
