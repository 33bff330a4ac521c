/-
  Layer 2: the document's answers: Right, Get, Short: their contracts.
-/
import Derived.Test.YtbkihakccojknaaDoorFieldParse
import Derived.Test.YtbkihakccojknaaDoorRefText
import Derived.Test.YtbkihakccojknaaDoorRefParse
import Derived.Test.YtbkihakccojknaaDoorFieldRefText
namespace Go.Proofs.YtbkihakccojknaaDoor
open Go.RowKit

theorem ref_FGet (A : Option Addr) (c : Nat) (l : List Fld) (tag : Int) (w : World) (h : Row w A (fcells l)) (hl : l.length ≤ 1000000) :
    Calls Tryd.prog 12 #[.slice A l.length c, .int .i64 tag] w fun e w' => e = .returned (.tuple #[.string (getV l tag), .bool (getB l tag)]) ∧ w = w' := by
  have HR := Lib.hid h; clear h
  go_enter Tryd.func12, Tryd.ntmps12
  go_wp2
  go_loop [6] (fun i => ∃ k : Nat, k ≤ l.length ∧ i = .int .i64 k ∧ Hid (getV (l.drop k) tag = getV l tag ∧ getB (l.drop k) tag = getB l tag)) (fun i => l.length - (intOf i).toNat)
  case atStart => exact ⟨0, Nat.zero_le _, rfl, ⟨rfl, rfl⟩⟩
  case round =>
    obtain ⟨k, hk, rfl, H⟩ := hrel
    by_cases hlt : k < l.length
    · obtain ⟨b, off, rfl, h0, h1⟩ := HR.out.fld hlt
      have Hd := Lib.hid (get_drop l tag k hlt)
      generalize l[k].tag = t at *
      generalize l[k].val = s at *
      by_cases ht : t = tag
      · subst ht
        have H1 := Lib.hid (Hd.out.1 rfl); clear Hd
        go_wp2
        go_ret2
        exact ⟨retSB (H1.out.1.symm.trans H.out.1) (H1.out.2.symm.trans H.out.2), rfl⟩
      · have H1 := Lib.hid (Hd.out.2 ht); clear Hd
        go_wp2
        go_round
        case rel => exact ⟨k + 1, by omega, by go_num, ⟨H1.out.1.symm.trans H.out.1, H1.out.2.symm.trans H.out.2⟩⟩
        case measure => simp [intOf]; omega
    · obtain rfl : k = l.length := by omega
      go_wp2
      go_ret2
      have := H.out
      rw [List.drop_length] at this
      exact ⟨retSB this.1 this.2, rfl⟩

theorem no1_take (s : ByteArray) (k : Nat) (h : k < s.size) : no1 (s.data.toList.take (k + 1)) = (no1 (s.data.toList.take k) && (s[k] != 1)) := take_b s k h _
theorem no1_bad (s : ByteArray) (k : Nat) (h : k < s.size) (he : s[k] = 1) : no1 s.data.toList = false := by
  rw [Bool.eq_false_iff]; intro ha
  have hm : s[k] ∈ s.data.toList := by
    show s.data[k] ∈ s.data.toList
    exact List.getElem_mem (l := s.data.toList) (by simpa using h)
  have := List.all_eq_true.1 ha _ hm
  rw [he] at this; revert this; decide
set_option maxRecDepth 100000 in
theorem ref_FRight (t : Int) (s : ByteArray) (hs : s.size ≤ maxLen) (w : World) : Calls Tryd.prog 16 #[.agg #[.int .i64 t, .string s]] w fun e w' => e = .returned (.bool (Fld.mk t s).right) ∧ Below w.heap.size w w' := by
  unfold maxLen at hs
  have Hr := Lib.hid (show (Fld.mk t s).right = (rightT t && rightV s.data.toList) from rfl)
  have Hv : Hid (rightV s.data.toList = (!s.data.toList.isEmpty && (decide (s.size ≤ 256) && no1 s.data.toList))) := by unfold rightV; simp [Hid]
  go_enter Tryd.func16, Tryd.ntmps16
  go_wp2
  go_loop [3] (fun i => ∃ k : Nat, k ≤ s.size ∧ k ≤ 256 ∧ i = .int .i64 k ∧ Hid (no1 (s.data.toList.take k) = true)) (fun i => s.size - (intOf i).toNat)
  case atStart => exact ⟨0, Nat.zero_le _, Nat.zero_le _, rfl, rfl⟩
  case round =>
    obtain ⟨k, hk, hk2, rfl, H⟩ := hrel
    by_cases hlt : k < s.size
    · have Ht := Lib.hid (no1_take s k hlt)
      have Hb := Lib.hid (no1_bad s k hlt)
      rcases (show (((s[k].toNat : Int) == 1) = true ∧ s[k] = 1) ∨ (((s[k].toNat : Int) == 1) = false ∧ (s[k] != 1) = true) by
        by_cases h : s[k] = 1
        · left; rw [h]; exact ⟨rfl, rfl⟩
        · right
          refine ⟨?_, by simp [h]⟩
          rw [beq_eq_false_iff_ne]; intro h'; exact h (UInt8.toNat_inj.1 (by simp; omega))) with ⟨d, he⟩ | ⟨d, he⟩
      · have HB := Lib.hid (Hb.out he); clear he Hb
        go_wp2
        go_ret
        exact ⟨retB (by rw [Hr.out, Hv.out, HB.out]; simp), (Below.refl _ _).alloc (Nat.le_refl _) _⟩
      · have He := Lib.hid he; clear he Hb
        by_cases h256 : 256 ≤ k
        · go_wp2
          go_ret
          exact ⟨retB (by rw [Hr.out, Hv.out, decide_eq_false (by omega)]; simp), (Below.refl _ _).alloc (Nat.le_refl _) _⟩
        · go_wp2
          go_round
          case rel => exact ⟨k + 1, by omega, by omega, by go_num, by rw [Ht.out, H.out, He.out]; rfl⟩
          case measure => simp [intOf]; omega
    · obtain rfl : k = s.size := by omega
      have HV : Hid (rightV s.data.toList = decide (0 < s.size)) := by
        have h := H.out
        rw [List.take_of_length_le (by simp)] at h
        rw [Hv.out, h, decide_eq_true hk2]
        show ((!s.data.toList.isEmpty) && true) = _
        rw [Bool.and_true]
        have hl : s.data.toList.length = s.size := by simp
        cases hd : s.data.toList with
        | nil => rw [hd] at hl; simp at hl; simp [← hl]
        | cons x r => rw [hd] at hl; simp at hl; simp [← hl]
      clear H
      rcases (show (rightT t = false ∧ decide (0 < t) = false ∧ t ≤ 0) ∨ (rightT t = false ∧ decide (0 < t) = true ∧ 0 < t ∧ 9999 < t) ∨ (rightT t = true ∧ decide (0 < t) = true ∧ 0 < t ∧ t ≤ 9999) by unfold rightT; simp; omega) with ⟨ht, d, t0⟩ | ⟨ht, d, t0, t1⟩ | ⟨ht, d, t0, t1⟩
      all_goals
        have HT := Lib.hid ht; clear ht
        try (have d1 : decide (t < 10000) = true := by simp; omega)
        try (have d1 : decide (t < 10000) = false := by simp; omega)
        go_wp2
        go_ret
        exact ⟨retB (by rw [Hr.out, HV.out, HT.out]; simp), (Below.refl _ _).alloc (Nat.le_refl _) _⟩
def shortB (l : List Fld) : Bool := decide (l.length ≤ 110) && l.all fun f => decide (f.val.size ≤ 300)
theorem ref_Short (A : Option Addr) (c : Nat) (l : List Fld) (w : World) (h : Row w A (fcells l)) (hl : l.length ≤ maxLen) (hv : ∀ f ∈ l, f.val.size ≤ maxLen) :
    Calls Tryd.prog 8 #[.slice A l.length c] w fun e w' => e = .returned (.bool (shortB l)) ∧ w = w' := by
  unfold maxLen at hl
  have HR := Lib.hid h; clear h
  have HV := Lib.hid hv; clear hv
  by_cases h110 : 110 < l.length
  · have HS : Hid (shortB l = false) := by unfold shortB; rw [decide_eq_false (by omega)]; rfl
    go_enter Tryd.func8, Tryd.ntmps8
    go_wp2
    go_ret
    exact ⟨retB HS.out.symm, rfl⟩
  · have HS : Hid (shortB l = l.all fun f => decide (f.val.size ≤ 300)) := by unfold shortB; rw [decide_eq_true (by omega)]; rfl
    go_enter Tryd.func8, Tryd.ntmps8
    go_wp2
    go_loop [3] (fun i => ∃ k : Nat, k ≤ l.length ∧ i = .int .i64 k ∧ Hid ((l.take k).all (fun f => decide (f.val.size ≤ 300)) = true)) (fun i => l.length - (intOf i).toNat)
    case atStart => exact ⟨0, Nat.zero_le _, rfl, rfl⟩
    case round =>
      obtain ⟨k, hk, rfl, H⟩ := hrel
      by_cases hlt : k < l.length
      · obtain ⟨b, off, rfl, h0, h1⟩ := HR.out.fld hlt
        have hs := HV.out _ (List.getElem_mem hlt)
        unfold maxLen at hs
        have Ht : Hid ((l.take (k + 1)).all (fun f => decide (f.val.size ≤ 300)) = ((l.take k).all (fun f => decide (f.val.size ≤ 300)) && decide (l[k].val.size ≤ 300))) := by
          rw [List.take_succ_eq_append_getElem hlt, List.all_append]; simp [Hid]
        have Hb : Hid (¬ l[k].val.size ≤ 300 → l.all (fun f => decide (f.val.size ≤ 300)) = false) := fun hn => by
          rw [Bool.eq_false_iff]; intro ha
          exact hn (of_decide_eq_true (List.all_eq_true.1 ha _ (List.getElem_mem hlt)))
        generalize l[k].tag = t at *
        generalize l[k].val = s at *
        by_cases h3 : s.size ≤ 300
        · have Ht2 : Hid ((l.take (k + 1)).all (fun f => decide (f.val.size ≤ 300)) = true) := by rw [Ht.out, H.out, decide_eq_true h3]; rfl
          clear Ht Hb H
          go_wp2
          go_round
          case rel => exact ⟨k + 1, by omega, by go_num, Ht2⟩
          case measure => simp [intOf]; omega
        · have HB := Lib.hid (Hb.out h3)
          clear Ht Hb H
          go_wp2
          go_ret
          exact ⟨retB (by rw [HS.out, HB.out]), rfl⟩
      · obtain rfl : k = l.length := by omega
        have H2 := H.out
        rw [List.take_length] at H2
        have HA := Lib.hid H2; clear H2 H
        go_wp2
        go_ret
        exact ⟨retB (by rw [HS.out, HA.out]), rfl⟩
end Go.Proofs.YtbkihakccojknaaDoor
