/-
  Layer 2: the document's answer for Parse: its contract.
-/
import Derived.Test.YtcfpchcbiknehaaDoorRFieldRefPut
import Derived.RegionTactic
import Derived.Deep.CutBlock
import Derived.Deep.DeepCutAuto
namespace Go.Proofs.YtcfpchcbiknehaaDoorR
open Go.RowKit

theorem take_no1 {l : List UInt8} {k : Nat} (h : k < l.length) (h0 : (1 : UInt8) ∉ l.take k) (h1 : ¬ l[k] = 1) : (1 : UInt8) ∉ l.take (k + 1) := by
  rw [List.take_succ_eq_append_getElem h]
  simp only [List.mem_append, List.mem_singleton, not_or]
  exact ⟨h0, fun e => h1 e.symm⟩
theorem split_at {l : List UInt8} {k : Nat} (h : k < l.length) (h0 : (1 : UInt8) ∉ l.take k) (h1 : l[k] = 1) : split1 1 l = some (l.take k, l.drop (k + 1)) := by
  have : l = l.take k ++ 1 :: l.drop (k + 1) := by
    conv => lhs; rw [← List.take_append_drop k l, List.drop_eq_getElem_cons h, h1]
  conv => lhs; rw [this]
  exact split1_app h0
theorem u8_beq {c : UInt8} {n : Nat} (hn : n < 256) : (((c.toNat : Int) == (n : Int)) = true ∧ ((c.toNat : Int) != (n : Int)) = false ∧ c = UInt8.ofNat n) ∨ (((c.toNat : Int) == (n : Int)) = false ∧ ((c.toNat : Int) != (n : Int)) = true ∧ ¬ c = UInt8.ofNat n) := by
  by_cases h : c = UInt8.ofNat n
  · left
    have e : (c.toNat : Int) = n := by rw [h]; simp; omega
    exact ⟨by simp [e], by simp [e], h⟩
  · right
    have e : ¬ (c.toNat : Int) = n := fun e => h (UInt8.toNat_inj.1 (by simp; omega))
    exact ⟨by simp [e], by simp [e], h⟩

end Go.Proofs.YtcfpchcbiknehaaDoorR
