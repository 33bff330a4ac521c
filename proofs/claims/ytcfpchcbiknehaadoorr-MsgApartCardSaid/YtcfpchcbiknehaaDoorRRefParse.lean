/-
  The document's answer for layer 1's Parse comes to what the program's does.
-/
import Derived.Test.YtcfpchcbiknehaaDoorRRefText
import Derived.Deep.DeepCutAuto
namespace Go.Proofs.YtcfpchcbiknehaaDoorR
open Go.RowKit

theorem decA_snoc (l : List UInt8) (c : UInt8) : ∀ n, decA n (l ++ [c]) = decA n l * 10 + (c.toNat - 48) := by
  intro n; unfold decA; rw [List.foldl_append]; rfl
/-- The bytes from i up to k. -/
def mid (l : List UInt8) (i k : Nat) : List UInt8 := (l.drop i).take (k - i)
theorem mid_succ (s : ByteArray) (i k : Nat) (hi : i ≤ k) (h : k < s.size) : mid s.data.toList i (k + 1) = mid s.data.toList i k ++ [s[k]] := by
  unfold mid
  have hk : k - i < (s.data.toList.drop i).length := by simp; omega
  rw [show k + 1 - i = (k - i) + 1 by omega, List.take_succ_eq_append_getElem hk]
  congr 2
  rw [List.getElem_drop]
  have : i + (k - i) = k := by omega
  simp only [this]; rfl
theorem mid_all (s : ByteArray) (i : Nat) (_ : i ≤ s.size) : mid s.data.toList i s.size = s.data.toList.drop i := by
  unfold mid; exact List.take_of_length_le (by simp)

theorem starts (s : ByteArray) : ∃ (neg : Bool) (i : Nat), Hid (i = if neg then 1 else 0) ∧ i ≤ s.size ∧ Hid (digitsOf s.data.toList = s.data.toList.drop i) ∧ Hid (isNeg s.data.toList = neg) ∧
    ((0 < s.size ∧ ∃ h : 0 < s.size, ((s[0].toNat : Int) == 45) = neg) ∨ (s.size = 0 ∧ neg = false)) := by
  have hsz : s.data.toList.length = s.size := by simp
  match h : s.data.toList, hsz with
  | [], hsz => exact ⟨false, 0, rfl, Nat.zero_le _, rfl, rfl, .inr ⟨hsz.symm, rfl⟩⟩
  | c :: r, hsz =>
    simp only [List.length_cons] at hsz
    have h0 : 0 < s.size := by omega
    have hc : s[0] = c := by
      have : s.data.toList[0]'(by rw [h]; simp) = c := by simp only [h]; rfl
      rw [← this]; rfl
    by_cases e : c = 45
    · subst e
      refine ⟨true, 1, rfl, by omega, digitsOf_neg r, by rw [isNeg_cons]; rfl, .inl ⟨h0, h0, by rw [hc]; rfl⟩⟩
    · refine ⟨false, 0, rfl, by omega, digitsOf_pos c r e, by rw [isNeg_cons]; exact decide_eq_false e, .inl ⟨h0, h0, ?_⟩⟩
      rw [hc, beq_eq_false_iff_ne]
      have := u8_ne (n := 45) (by omega) e
      omega
/-- What stands behind the first test: too few digits, a 0 too many, or digits to be read. -/
theorem form_cases (s : ByteArray) (neg : Bool) (i : Nat) (hi : i = if neg then 1 else 0) (ile : i ≤ s.size) (hd : digitsOf s.data.toList = s.data.toList.drop i) (hneg : isNeg s.data.toList = neg) :
    (i = s.size ∧ formB s.data.toList = false) ∨ (∃ h : i < s.size, ((s[i].toNat : Int) == 48) = true ∧ 1 < s.size ∧ formB s.data.toList = false) ∨
      (∃ h : i < s.size, (((s[i].toNat : Int) == 48) = false ∨ (((s[i].toNat : Int) == 48) = true ∧ s.size ≤ 1)) ∧ formB s.data.toList = (s.data.toList.drop i).all digB) := by
  have hsz : s.data.toList.length = s.size := by simp
  unfold formB
  rw [hd, hneg]
  rcases Nat.lt_or_ge i s.size with h | h
  · right
    have hk : i < s.data.toList.length := by omega
    have e : s.data.toList.drop i = s[i] :: s.data.toList.drop (i + 1) := by rw [List.drop_eq_getElem_cons hk]; rfl
    have hlen : (s.data.toList.drop (i + 1)).length = s.size - (i + 1) := by simp
    rw [e]
    generalize hr : s.data.toList.drop (i + 1) = r at *
    by_cases hc : s[i] = 48
    · have hb : ((s[i].toNat : Int) == 48) = true := by rw [hc]; rfl
      by_cases h1 : 1 < s.size
      · left
        refine ⟨h, hb, h1, ?_⟩
        rw [hc]
        rw [show formD neg (48 :: r) = (r.isEmpty && !neg) from rfl]
        cases neg with
        | true => simp
        | false =>
          have : i = 0 := by simpa using hi
          cases r with
          | nil => simp at hlen; omega
          | cons _ _ => rfl
      · right
        refine ⟨h, .inr ⟨hb, by omega⟩, ?_⟩
        have hi0 : i = 0 := by omega
        have hn : neg = false := by cases neg with
          | false => rfl
          | true => simp at hi; omega
        have hr0 : r = [] := by
          cases r with
          | nil => rfl
          | cons _ _ => simp at hlen; omega
        rw [hc, hn, hr0]; rfl
    · right
      refine ⟨h, .inl ?_, formD_cons hc⟩
      rw [beq_eq_false_iff_ne]
      have := u8_ne (n := 48) (by omega) hc
      omega
  · left
    refine ⟨by omega, ?_⟩
    rw [List.drop_eq_nil_of_le (by omega)]; rfl
theorem valN_of (l : List UInt8) (neg : Bool) (i : Nat) (hd : digitsOf l = l.drop i) (hneg : isNeg l = neg) : valN l = if neg then -((decA 0 (l.drop i) : Nat) : Int) else ((decA 0 (l.drop i) : Nat) : Int) := by
  unfold valN; rw [hd, hneg]
end Go.Proofs.YtcfpchcbiknehaaDoorR
