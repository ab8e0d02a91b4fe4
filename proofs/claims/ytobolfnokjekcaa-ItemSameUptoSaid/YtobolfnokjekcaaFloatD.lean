
/- Package float: a half or a single, widened. -/
import Derived.Test.YtobolfnokjekcaaFloatC
namespace Go.Proofs.Ytobolfnokjekcaa
open Go.RowKit
end Go.Proofs.Ytobolfnokjekcaa
