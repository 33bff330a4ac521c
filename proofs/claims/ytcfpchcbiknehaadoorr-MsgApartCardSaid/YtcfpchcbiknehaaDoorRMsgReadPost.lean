/-
  Layer 5, msg: what a reading of a body hands back.
-/
import Derived.Test.YtcfpchcbiknehaaDoorRMsgBackN
import Derived.Test.YtcfpchcbiknehaaDoorRFieldParse
namespace Go.Proofs.YtcfpchcbiknehaaDoorR
open Go.RowKit

def MReadPost (bs : List UInt8) (w : World) (e : Ending) (w' : World) : Prop := e = .returned (.tuple #[(mReadV bs).val, .int .i64 (mReadE bs)]) ∧ Below w.heap.size w w'
theorem resL_right {bs : List UInt8} (h : resE (parseF bs) = 0) : parseF bs = .ok (resL (parseF bs)) ∧ (resL (parseF bs)).all Fld.right = true ∧ (resL (parseF bs)).length ≤ 100 := by
  have hb : bs.length ≤ 65536 := by
    rcases Nat.lt_or_ge 65536 bs.length with hl | hl
    · unfold parseF at h; rw [if_pos hl] at h; cases h
    · exact hl
  rcases parse_cases5 bs hb with ⟨e, he, hne⟩ | ⟨l, he, _, hr, hl⟩
  · rw [he] at h; exact absurd h hne
  · rw [he]; exact ⟨rfl, hr, hl⟩
end Go.Proofs.YtcfpchcbiknehaaDoorR
