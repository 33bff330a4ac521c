/-
  Layer 1, num.Sum: its contract.
-/
import Derived.Test.YtcfpchcbiknehaaDoorRNum
import Derived.Shelf.Spec.BitsCarry
namespace Go.Proofs.YtcfpchcbiknehaaDoorR
open Go.RowKit

/-- The slice at a holds these numbers. -/
def Ints (k : IntKind) (w : World) (a : Option Addr) (zs : List Int) : Prop :=
  zs = [] ∨ ∃ b off, a = some ⟨b, off, none⟩ ∧ ∀ i, i < zs.length → w.cell? ⟨b, off + i, none⟩ = some (.int k (zs.getD i 0))

theorem addr_add (b off i : Nat) : Addr.add ⟨b, off, none⟩ i = ⟨b, off + i, none⟩ := by
  unfold Addr.add; split
  · rename_i h; subst h; rfl
  · rfl
theorem sum_take (zs : List Int) (k : Nat) (h : k < zs.length) : (zs.take (k + 1)).sum = (zs.take k).sum + zs.getD k 0 := by
  rw [List.take_succ_eq_append_getElem h, List.sum_append]; simp [List.getD, h]
theorem all_take (zs : List Int) (k : Nat) (h : k < zs.length) : (zs.take (k + 1)).all right = ((zs.take k).all right && right (zs.getD k 0)) := by
  rw [List.take_succ_eq_append_getElem h, List.all_append]; simp [List.getD, h]
theorem sum_bound (zs : List Int) (h : zs.all right = true) : -(4611686018427387904 * (zs.length : Int)) ≤ zs.sum ∧ zs.sum ≤ 4611686018427387904 * (zs.length : Int) := by
  induction zs with
  | nil => simp
  | cons z r ih =>
    simp only [List.all_cons, Bool.and_eq_true] at h
    have := ih h.2
    have := right_iff.1 h.1
    simp only [List.sum_cons, List.length_cons]
    push_cast
    omega
theorem sumB_bad (zs : List Int) (k : Nat) (h : k < zs.length) (hb : right (zs.getD k 0) = false) : sumB zs = false := by
  unfold sumB
  have : zs.all right = false := by
    rw [List.all_eq_false]
    exact ⟨zs.getD k 0, by simp [List.getD, h], by simpa using hb⟩
  simp [this]

end Go.Proofs.YtcfpchcbiknehaaDoorR
