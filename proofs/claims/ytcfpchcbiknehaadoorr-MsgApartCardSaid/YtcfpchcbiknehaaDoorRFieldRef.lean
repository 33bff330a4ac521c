/-
  Layer 2: the document's answers: Right, Get, Short: their contracts.
-/
import Derived.Test.YtcfpchcbiknehaaDoorRFieldParse
import Derived.Test.YtcfpchcbiknehaaDoorRRefText
import Derived.Test.YtcfpchcbiknehaaDoorRRefParse
import Derived.Test.YtcfpchcbiknehaaDoorRFieldRefText
namespace Go.Proofs.YtcfpchcbiknehaaDoorR
open Go.RowKit

theorem no1_take (s : ByteArray) (k : Nat) (h : k < s.size) : no1 (s.data.toList.take (k + 1)) = (no1 (s.data.toList.take k) && (s[k] != 1)) := take_b s k h _
theorem no1_bad (s : ByteArray) (k : Nat) (h : k < s.size) (he : s[k] = 1) : no1 s.data.toList = false := by
  rw [Bool.eq_false_iff]; intro ha
  have hm : s[k] ∈ s.data.toList := by
    show s.data[k] ∈ s.data.toList
    exact List.getElem_mem (l := s.data.toList) (by simpa using h)
  have := List.all_eq_true.1 ha _ hm
  rw [he] at this; revert this; decide
set_option maxRecDepth 100000 in
theorem ref_FRight (t : Int) (s : ByteArray) (hs : s.size ≤ maxLen) (w : World) : Calls Tryd.prog 42 #[.agg #[.int .i64 t, .string s]] w fun e w' => e = .returned (.bool (Fld.mk t s).right) ∧ Below w.heap.size w w' := by
  unfold maxLen at hs
  have Hr := Lib.hid (show (Fld.mk t s).right = (rightT t && rightV s.data.toList) from rfl)
  have Hv : Hid (rightV s.data.toList = (!s.data.toList.isEmpty && (decide (s.size ≤ 256) && no1 s.data.toList))) := by unfold rightV; simp [Hid]
  go_enter Tryd.func42, Tryd.ntmps42
  go_wp2
  go_loop [3] (fun i => ∃ k : Nat, k ≤ s.size ∧ k ≤ 256 ∧ i = .int .i64 k ∧ Hid (no1 (s.data.toList.take k) = true)) (fun i => s.size - (intOf i).toNat)
  case atStart => exact ⟨0, Nat.zero_le _, Nat.zero_le _, rfl, rfl⟩
  case round =>
    obtain ⟨k, hk, hk2, rfl, H⟩ := hrel
    by_cases hlt : k < s.size
    · have Ht := Lib.hid (no1_take s k hlt)
      have Hb := Lib.hid (no1_bad s k hlt)
      rcases (show (((s[k].toNat : Int) == 1) = true ∧ s[k] = 1) ∨ (((s[k].toNat : Int) == 1) = false ∧ (s[k] != 1) = true) by
        by_cases h : s[k] = 1
        · left; rw [h]; exact ⟨rfl, rfl⟩
        · right
          refine ⟨?_, by simp [h]⟩
          rw [beq_eq_false_iff_ne]; intro h'; exact h (UInt8.toNat_inj.1 (by simp; omega))) with ⟨d, he⟩ | ⟨d, he⟩
      · have HB := Lib.hid (Hb.out he); clear he Hb
        go_wp2
        go_ret
        exact ⟨retB (by rw [Hr.out, Hv.out, HB.out]; simp), (Below.refl _ _).alloc (Nat.le_refl _) _⟩
      · have He := Lib.hid he; clear he Hb
        by_cases h256 : 256 ≤ k
        · go_wp2
          go_ret
          exact ⟨retB (by rw [Hr.out, Hv.out, decide_eq_false (by omega)]; simp), (Below.refl _ _).alloc (Nat.le_refl _) _⟩
        · go_wp2
          go_round
          case rel => exact ⟨k + 1, by omega, by omega, by go_num, by rw [Ht.out, H.out, He.out]; rfl⟩
          case measure => simp [intOf]; omega
    · obtain rfl : k = s.size := by omega
      have HV : Hid (rightV s.data.toList = decide (0 < s.size)) := by
        have h := H.out
        rw [List.take_of_length_le (by simp)] at h
        rw [Hv.out, h, decide_eq_true hk2]
        show ((!s.data.toList.isEmpty) && true) = _
        rw [Bool.and_true]
        have hl : s.data.toList.length = s.size := by simp
        cases hd : s.data.toList with
        | nil => rw [hd] at hl; simp at hl; simp [← hl]
        | cons x r => rw [hd] at hl; simp at hl; simp [← hl]
      clear H
      rcases (show (rightT t = false ∧ decide (0 < t) = false ∧ t ≤ 0) ∨ (rightT t = false ∧ decide (0 < t) = true ∧ 0 < t ∧ 9999 < t) ∨ (rightT t = true ∧ decide (0 < t) = true ∧ 0 < t ∧ t ≤ 9999) by unfold rightT; simp; omega) with ⟨ht, d, t0⟩ | ⟨ht, d, t0, t1⟩ | ⟨ht, d, t0, t1⟩
      all_goals
        have HT := Lib.hid ht; clear ht
        try (have d1 : decide (t < 10000) = true := by simp; omega)
        try (have d1 : decide (t < 10000) = false := by simp; omega)
        go_wp2
        go_ret
        exact ⟨retB (by rw [Hr.out, HV.out, HT.out]; simp), (Below.refl _ _).alloc (Nat.le_refl _) _⟩
def shortB (l : List Fld) : Bool := decide (l.length ≤ 110) && l.all fun f => decide (f.val.size ≤ 300)
end Go.Proofs.YtcfpchcbiknehaaDoorR
