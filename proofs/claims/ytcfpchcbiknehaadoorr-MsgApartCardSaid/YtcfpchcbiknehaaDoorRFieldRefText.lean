/-
  Layer 2: the document's way of reading a field's text comes to the same: plain mathematics.
-/
import Derived.Test.YtcfpchcbiknehaaDoorRFieldText
namespace Go.Proofs.YtcfpchcbiknehaaDoorR

theorem decA_lt : ∀ (l : List UInt8) (n m : Nat), l.all digB = true → n < 10 ^ m → decA n l < 10 ^ (m + l.length)
  | [], n, m, _, h => by simpa [decA_nil] using h
  | c :: r, n, m, h, hn => by
    simp only [List.all_cons, Bool.and_eq_true] at h
    have hc := digB_iff.1 h.1
    rw [decA_cons, List.length_cons, show m + (r.length + 1) = (m + 1) + r.length by omega]
    refine decA_lt r _ (m + 1) h.2 ?_
    rw [Nat.pow_succ]; omega
theorem parse_digits {a : List UInt8} (h : a.all digB = true) (hl : a.length ≤ 18) (h0 : ∃ c r, a = c :: r ∧ c ≠ 48) : parseE a = 0 ∧ parseV a = (decA 0 a : Nat) := by
  obtain ⟨c, r, rfl, hc⟩ := h0
  have hd : digB c = true := by simp only [List.all_cons, Bool.and_eq_true] at h; exact h.1
  have h45 : ¬ c = 45 := by rintro rfl; revert hd; decide
  have hn : isNeg (c :: r) = false := by rw [isNeg_cons]; simp [h45]
  have hdg := digitsOf_pos c r h45
  have hf : formB (c :: r) = true := by
    unfold formB
    rw [hdg, hn, formD, if_neg hc]
    simpa using h
  have hv : valN (c :: r) = (decA 0 (c :: r) : Nat) := by unfold valN; rw [hn, hdg]; rfl
  have hlt := decA_lt (c :: r) 0 0 h (by decide)
  have hp : 10 ^ (0 + (c :: r).length) ≤ 10 ^ 18 := Nat.pow_le_pow_right (by decide) (by simpa using hl)
  have h18 : (10 : Nat) ^ 18 = 1000000000000000000 := by decide
  have hr : right (valN (c :: r)) = true := by rw [hv]; exact right_t (by omega) (by omega)
  have ⟨e1, e2⟩ := parse_ok (l := c :: r) (by omega) hf hr
  exact ⟨e1, by rw [e2, hv]⟩
theorem show_digits {t : Int} (h : rightT t = true) : ∃ c r, showL t = c :: r ∧ c ≠ 48 := by
  have ⟨h0, h1⟩ := rightT_iff.1 h
  unfold showL
  rw [if_pos (right_of_rightT h), Lib.itoa, if_neg (by omega)]
  exact decDigits_head _ (by omega)
/-- What the document's answer finds out about a text t: j digits ahead, at most 4, and no more. -/
def Digs (t : List UInt8) (j : Nat) : Prop := j ≤ 4 ∧ j ≤ t.length ∧ (t.take j).all digB = true ∧ (j < 4 → ∀ c, t[j]? = some c → digB c = false)
theorem readF_no {t : List UInt8} {j : Nat} (hd : Digs t j) (h : j = 0 ∨ t[0]? = some 48 ∨ j = t.length ∨ t[j]? ≠ some 61) : readF t = none := by
  cases hr : readF t with
  | none => rfl
  | some f =>
    exfalso
    obtain ⟨h4, hjl, hall, hmax⟩ := hd
    have ⟨hf, he⟩ := readF_some hr
    have ht : rightT f.tag = true := by simp only [Fld.right, Bool.and_eq_true] at hf; exact hf.1
    have hm := show_len ht
    have hdig := digB_of_mem_show ht
    obtain ⟨c, r, hs, hc⟩ := show_digits ht
    have at61 : t[(showL f.tag).length]? = some 61 := by rw [he, List.getElem?_append_right (Nat.le_refl _)]; simp
    have j_le : j ≤ (showL f.tag).length := by
      rcases Nat.lt_or_ge (showL f.tag).length j with hlt | hge
      · exfalso
        have hm61 : (61 : UInt8) ∈ t.take j := by
          have : (t.take j)[(showL f.tag).length]? = some 61 := by rw [List.getElem?_take, if_pos hlt, at61]
          exact List.mem_of_getElem? this
        have := List.all_eq_true.1 hall _ hm61
        revert this; decide
      · exact hge
    have j_eq : j = (showL f.tag).length := by
      rcases Nat.lt_or_ge j (showL f.tag).length with hlt | hge
      · exfalso
        have hg : t[j]? = some (showL f.tag)[j] := by rw [he, List.getElem?_append_left hlt]; simp
        have := hmax (by omega) _ hg
        rw [hdig _ (List.getElem_mem hlt)] at this; cases this
      · omega
    rw [← j_eq] at at61
    rcases h with h | h | h | h
    · rw [h, hs] at j_eq; simp at j_eq
    · rw [he, hs] at h; simp at h; exact hc h
    · rw [List.getElem?_eq_none (by omega)] at at61; cases at61
    · exact h at61
theorem readF_yes {t : List UInt8} {j : Nat} (hd : Digs t j) (h0 : 0 < j) (h1 : t[0]? ≠ some 48) (h2 : j < t.length) (h3 : t[j]? = some 61) :
    readF t = if rightT (decA 0 (t.take j) : Nat) = true ∧ rightV (t.drop (j + 1)) = true then some ⟨(decA 0 (t.take j) : Nat), ⟨(t.drop (j + 1)).toArray⟩⟩ else none := by
  obtain ⟨h4, hjl, hall, hmax⟩ := hd
  have hne : ∃ c r, t.take j = c :: r ∧ c ≠ 48 := by
    match t, h1, h2 with
    | c :: r, h1, _ =>
      obtain ⟨i, rfl⟩ : ∃ i, j = i + 1 := ⟨j - 1, by omega⟩
      exact ⟨c, r.take i, rfl, fun e => h1 (by simp [e])⟩
  have ⟨e1, e2⟩ := parse_digits hall (by simp; omega) hne
  have hs : t = t.take j ++ 61 :: t.drop (j + 1) := by
    have hg : t[j] = 61 := by rw [List.getElem?_eq_getElem h2] at h3; injection h3
    conv => lhs; rw [← List.take_append_drop j t, List.drop_eq_getElem_cons h2, hg]
  have hsp : split1 61 t = some (t.take j, t.drop (j + 1)) := by
    conv => lhs; rw [hs]
    exact split1_app fun hm => by have := List.all_eq_true.1 hall _ hm; revert this; decide
  unfold readF
  rw [hsp]
  simp only [e1, e2, true_and]
end Go.Proofs.YtcfpchcbiknehaaDoorR
