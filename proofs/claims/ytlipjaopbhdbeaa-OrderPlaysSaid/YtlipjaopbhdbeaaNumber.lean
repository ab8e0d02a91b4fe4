
/- The contracts of what reads a number out of bytes. -/
import Derived.Test.YtlipjaopbhdbeaaRows
import Derived.Test.YtlipjaopbhdbeaaWords
import Derived.Test.YtlipjaopbhdbeaaNum
namespace Go.Proofs.Ytlipjaopbhdbeaa
open Go.RowKit

end Go.Proofs.Ytlipjaopbhdbeaa
