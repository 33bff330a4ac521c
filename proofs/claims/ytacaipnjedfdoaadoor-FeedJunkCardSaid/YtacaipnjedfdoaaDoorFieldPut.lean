/-
  Layer 2, field: the contract of Put.
-/
import Derived.Test.YtacaipnjedfdoaaDoorFieldRead
namespace Go.Proofs.YtacaipnjedfdoaaDoor
open Go.RowKit

theorem infoB : (Tryd.prog.info? 5).map (fun i => (i.zero, i.size, i.bytes)) = some (some (.int .u8 0), 1, 1) := by kernel_rfl
theorem size61 : (ByteArray.mk #[61]).size = 1 := rfl
def PutPost (l : List Fld) (w : World) (e : Ending) (w' : World) : Prop :=
  ∃ A n c, e = .returned (.tuple #[.slice A n c, .int .i64 (putE l)]) ∧ Sl w' A n c 1 (bcells (putV l)) ∧ Below w.heap.size w w' ∧ Fm A
theorem putE_long {l : List Fld} (h : 100 < l.length) : putE l = 4 ∧ putV l = [] := by simp [putV, putE, h]
theorem putE_arg {l : List Fld} (h : ¬ 100 < l.length) (ha : l.all Fld.right = false) : putE l = 1 ∧ putV l = [] := by simp [putV, putE, h, ha]
theorem putE_ok {l : List Fld} (h : ¬ 100 < l.length) (ha : l.all Fld.right = true) : putE l = 0 ∧ putV l = putL l := by simp [putV, putE, h, ha]
theorem all_take_f (l : List Fld) (k : Nat) (h : k < l.length) : (l.take (k + 1)).all Fld.right = ((l.take k).all Fld.right && l[k].right) := by
  rw [List.take_succ_eq_append_getElem h, List.all_append]; simp
theorem all_bad (l : List Fld) (k : Nat) (h : k < l.length) (hb : l[k].right = false) : l.all Fld.right = false := by
  rw [Bool.eq_false_iff]; intro ha
  have := List.all_eq_true.1 ha _ (List.getElem_mem h)
  rw [hb] at this; cases this
theorem putL_take (l : List Fld) (k : Nat) (h : k < l.length) : putL (l.take (k + 1)) = putL (l.take k) ++ (showL l[k].tag ++ ([61] ++ (l[k].val.data.toList ++ [1]))) := by
  rw [List.take_succ_eq_append_getElem h, putL_app]; simp [putL, fldB]

end Go.Proofs.YtacaipnjedfdoaaDoor
