/-
  Layer 2: the document's answers: Right, Get, Short: their contracts.
-/
import Derived.Test.YtacaipnjedfdoaaDoorFieldParse
import Derived.Test.YtacaipnjedfdoaaDoorRefText
import Derived.Test.YtacaipnjedfdoaaDoorRefParse
import Derived.Test.YtacaipnjedfdoaaDoorFieldRefText
namespace Go.Proofs.YtacaipnjedfdoaaDoor
open Go.RowKit

theorem no1_take (s : ByteArray) (k : Nat) (h : k < s.size) : no1 (s.data.toList.take (k + 1)) = (no1 (s.data.toList.take k) && (s[k] != 1)) := take_b s k h _
theorem no1_bad (s : ByteArray) (k : Nat) (h : k < s.size) (he : s[k] = 1) : no1 s.data.toList = false := by
  rw [Bool.eq_false_iff]; intro ha
  have hm : s[k] ∈ s.data.toList := by
    show s.data[k] ∈ s.data.toList
    exact List.getElem_mem (l := s.data.toList) (by simpa using h)
  have := List.all_eq_true.1 ha _ hm
  rw [he] at this; revert this; decide
def shortB (l : List Fld) : Bool := decide (l.length ≤ 110) && l.all fun f => decide (f.val.size ≤ 300)
end Go.Proofs.YtacaipnjedfdoaaDoor
