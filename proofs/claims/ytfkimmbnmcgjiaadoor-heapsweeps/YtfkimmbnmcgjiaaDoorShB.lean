/- The walks of the document's own plain functions of chapter 4. -/
import Derived.Test.YtfkimmbnmcgjiaaDoorShA
namespace Go.Proofs.YtfkimmbnmcgjiaaDoor
open Go.RowKit

end Go.Proofs.YtfkimmbnmcgjiaaDoor
