/-
  Layer 1, plain: texts of numbers. Nothing of the program.
-/
import Derived.Test.YtcfpchcbiknehaaDoorRNumMath
import Derived.Shelf.Small.Wraps
namespace Go.Proofs.YtcfpchcbiknehaaDoorR

def digB (c : UInt8) : Bool := decide (48 ≤ c.toNat ∧ c.toNat ≤ 57)
def formD (neg : Bool) : List UInt8 → Bool
  | [] => false
  | c :: r => if c = 48 then r.isEmpty && !neg else digB c && r.all digB
def isNeg (l : List UInt8) : Bool := Lib.hasPrefix l [45]
def digitsOf (l : List UInt8) : List UInt8 := Lib.trimPrefix l [45]
def formB (l : List UInt8) : Bool := formD (isNeg l) (digitsOf l)
def decStep (n : Nat) (c : UInt8) : Nat := n * 10 + (c.toNat - 48)
def decA (n : Nat) (l : List UInt8) : Nat := l.foldl decStep n
def valN (l : List UInt8) : Int := if isNeg l then -(decA 0 (digitsOf l) : Nat) else (decA 0 (digitsOf l) : Nat)
def parseE (l : List UInt8) : Int := if 20 < l.length then 4 else if formB l then (if right (valN l) then 0 else 9) else 3
def parseV (l : List UInt8) : Int := if parseE l = 0 then valN l else 0
def showL (n : Int) : List UInt8 := if right n then Lib.itoa n else []

theorem decA_cons (n : Nat) (c : UInt8) (r : List UInt8) : decA n (c :: r) = decA (n * 10 + (c.toNat - 48)) r := by
  unfold decA; rw [List.foldl_cons]; rfl
theorem decA_nil (n : Nat) : decA n [] = n := by unfold decA; rw [List.foldl_nil]
theorem decA_ge (l : List UInt8) : ∀ n, n ≤ decA n l := by
  induction l with
  | nil => intro n; rw [decA_nil]; exact Nat.le_refl _
  | cons c r ih => intro n; rw [decA_cons]; exact Nat.le_trans (by omega) (ih _)
theorem digB_iff {c : UInt8} : digB c = true ↔ 48 ≤ c.toNat ∧ c.toNat ≤ 57 := by simp [digB]
theorem parseUintM_digits (M : Nat) (hM : M = 18446744073709551615) (l : List UInt8) : ∀ acc, l.all digB = true → acc ≤ M →
    (decA acc l ≤ M ∧ Lib.parseUintM M acc l = .ok (decA acc l)) ∨ (M < decA acc l ∧ Lib.parseUintM M acc l = .range) := by
  induction l with
  | nil => intro acc _ h; rw [decA_nil]; exact .inl ⟨h, rfl⟩
  | cons c r ih =>
    intro acc h hacc
    simp only [List.all_cons, Bool.and_eq_true] at h
    have hc := digB_iff.1 h.1
    have hg := decA_ge r (acc * 10 + (c.toNat - 48))
    have e : Lib.parseUintM M acc (c :: r) = if 1844674407370955162 ≤ acc then .range else if M < acc * 10 + (c.toNat - 48) then .range else Lib.parseUintM M (acc * 10 + (c.toNat - 48)) r := by
      rw [Lib.parseUintM]; exact if_pos hc
    rw [e, decA_cons]
    by_cases h1 : 1844674407370955162 ≤ acc
    · rw [if_pos h1]; exact .inr ⟨by omega, rfl⟩
    · rw [if_neg h1]
      by_cases h2 : M < acc * 10 + (c.toNat - 48)
      · rw [if_pos h2]; exact .inr ⟨by omega, rfl⟩
      · rw [if_neg h2]; exact ih _ h.2 (by omega)
theorem parseUintB_digits (l : List UInt8) (hne : l ≠ []) (h : l.all digB = true) :
    (decA 0 l < 18446744073709551616 ∧ Lib.parseUintB 64 l = .ok (decA 0 l)) ∨ (18446744073709551616 ≤ decA 0 l ∧ Lib.parseUintB 64 l = .range) := by
  rw [Lib.parseUintB, if_neg hne]
  have hM : 2 ^ 64 - 1 = 18446744073709551615 := by decide
  generalize 2 ^ 64 - 1 = M at *
  rcases parseUintM_digits M hM l 0 h (Nat.zero_le _) with ⟨a, b⟩ | ⟨a, b⟩
  · exact .inl ⟨by omega, b⟩
  · exact .inr ⟨by omega, b⟩
theorem formD_digits {neg : Bool} {d : List UInt8} (h : formD neg d = true) : d ≠ [] ∧ d.all digB = true := by
  match d, h with
  | c :: r, h =>
    refine ⟨by simp, ?_⟩
    by_cases hc : c = 48
    · subst hc
      simp [formD] at h
      simp [h.1, digB]
    · simpa [formD, hc] using h
theorem isNeg_cons (c : UInt8) (r : List UInt8) : isNeg (c :: r) = decide (c = 45) := by
  by_cases h : c = 45
  · subst h; simp [isNeg, Lib.hasPrefix]
  · have h' : ¬ 45 = c := fun e => h e.symm
    rw [decide_eq_false h]
    show ((45 == c) && List.isPrefixOf [] r) = false
    rw [beq_eq_false_iff_ne.2 h']; rfl
theorem digitsOf_neg (r : List UInt8) : digitsOf (45 :: r) = r := by simp [digitsOf, Lib.trimPrefix, Lib.hasPrefix]
theorem digitsOf_pos (c : UInt8) (r : List UInt8) (h : ¬ c = 45) : digitsOf (c :: r) = c :: r := by
  have h' := isNeg_cons c r
  rw [decide_eq_false h] at h'
  unfold isNeg at h'
  simp [digitsOf, Lib.trimPrefix, h']
theorem u8_ne {c : UInt8} {n : Nat} (hn : n < 256) (h : ¬ c = UInt8.ofNat n) : c.toNat ≠ n := by
  intro e; apply h; apply UInt8.toNat_inj.1; simp [e]; omega

theorem pow63 : 2 ^ (64 - 1) = 9223372036854775808 := by decide
theorem parseInt_formed {l : List UInt8} (h : formB l = true) :
    (-9223372036854775808 ≤ valN l ∧ valN l ≤ 9223372036854775807 ∧ Lib.parseIntB 64 l = .ok (valN l)) ∨ (right (valN l) = false ∧ Lib.parseIntB 64 l = .range) := by
  match l, h with
  | c :: r, h =>
    by_cases hc : c = 45
    · subst hc
      unfold formB at h
      rw [digitsOf_neg] at h
      have ⟨hne, hd⟩ := formD_digits h
      have hv : valN (45 :: r) = -(decA 0 r : Nat) := by simp [valN, isNeg_cons, digitsOf_neg]
      rw [hv]
      unfold Lib.parseIntB
      rw [pow63]
      simp only
      rw [if_pos (by decide)]
      rcases parseUintB_digits r hne hd with ⟨a, hu⟩ | ⟨a, hu⟩
      · rw [hu]
        generalize decA 0 r = u at *
        simp only
        rw [if_neg (by simp)]
        by_cases h2 : 9223372036854775808 < u
        · rw [if_pos ⟨by decide, h2⟩]; exact .inr ⟨right_f0 (by omega), rfl⟩
        · rw [if_neg (by omega), if_pos (by decide)]; exact .inl ⟨by omega, by omega, rfl⟩
      · rw [hu]; exact .inr ⟨right_f0 (by omega), rfl⟩
    · unfold formB at h
      rw [digitsOf_pos c r hc] at h
      have ⟨hne, hd⟩ := formD_digits h
      have hdc : digB c = true := by simp only [List.all_cons, Bool.and_eq_true] at hd; exact hd.1
      have ⟨c0, c1⟩ := digB_iff.1 hdc
      have hv : valN (c :: r) = (decA 0 (c :: r) : Nat) := by simp [valN, isNeg_cons, hc, digitsOf_pos c r hc]
      rw [hv]
      unfold Lib.parseIntB
      rw [pow63]
      simp only
      rw [if_neg (by omega)]
      rcases parseUintB_digits (c :: r) hne hd with ⟨a, hu⟩ | ⟨a, hu⟩
      · rw [hu]
        generalize decA 0 (c :: r) = u at *
        simp only
        by_cases h2 : 9223372036854775808 ≤ u
        · rw [if_pos ⟨by omega, h2⟩]; exact .inr ⟨right_f1 (by omega), rfl⟩
        · rw [if_neg (by omega), if_neg (by omega), if_neg (by omega)]; exact .inl ⟨by omega, by omega, rfl⟩
      · rw [hu]; exact .inr ⟨right_f1 (by omega), rfl⟩
end Go.Proofs.YtcfpchcbiknehaaDoorR
