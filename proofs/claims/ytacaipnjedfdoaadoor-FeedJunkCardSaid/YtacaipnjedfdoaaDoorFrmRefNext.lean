/-
  Layer 3, frame: what stands at the beginning: the document's own way.
-/
import Derived.Test.YtacaipnjedfdoaaDoorFrmRefPut
import Derived.Test.YtacaipnjedfdoaaDoorFrmNext
namespace Go.Proofs.YtacaipnjedfdoaaDoor
open Go.RowKit

end Go.Proofs.YtacaipnjedfdoaaDoor
