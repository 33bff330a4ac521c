/-
  The document's answers for layer 1: Right, Add, Mul, Sum come to what the program's do.
-/
import Derived.Test.YtioagepalfiioaaDoorNumSum
namespace Go.Proofs.YtioagepalfiioaaDoor
open Go.RowKit

theorem mul_div_le {x y : Int} (hy : 0 < y) : (4611686018427387904 / y < x) ↔ 4611686018427387904 < x * y := by
  exact Int.ediv_lt_iff_lt_mul hy
end Go.Proofs.YtioagepalfiioaaDoor
