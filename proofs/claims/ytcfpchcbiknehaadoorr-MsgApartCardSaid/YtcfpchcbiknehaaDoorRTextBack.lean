/-
  Layer 1, plain: a number's text is read as it was shown, and a text that is read shows as it was. Nothing of the program.
-/
import Derived.Test.YtcfpchcbiknehaaDoorRRefParse
namespace Go.Proofs.YtcfpchcbiknehaaDoorR

theorem digit_nat (d : Nat) (h : d < 10) : (UInt8.ofNat (48 + d)).toNat = 48 + d := by simp; omega
theorem digB_digit (d : Nat) (h : d < 10) : digB (UInt8.ofNat (48 + d)) = true := digB_iff.2 (by rw [digit_nat d h]; omega)
theorem decDigits_all (u : Nat) : (Lib.decDigits u).all digB = true := by
  induction u using Nat.strongRecOn with
  | _ u ih =>
    by_cases h : u < 10
    · rw [decDigits_small h, List.all_cons, digB_digit u h]; rfl
    · rw [decDigits_big h, List.all_append, ih (u / 10) (by omega), List.all_cons, digB_digit (u % 10) (by omega)]; rfl
theorem decA_decDigits (u : Nat) : decA 0 (Lib.decDigits u) = u := by
  induction u using Nat.strongRecOn with
  | _ u ih =>
    by_cases h : u < 10
    · rw [decDigits_small h, decA_cons, decA_nil, digit_nat u h]; omega
    · rw [decDigits_big h, decA_snoc, ih (u / 10) (by omega), digit_nat (u % 10) (by omega)]; omega
theorem decDigits_len : ∀ (k u : Nat), u < 10 ^ (k + 1) → (Lib.decDigits u).length ≤ k + 1
  | 0, u, h => by rw [decDigits_small (by simpa using h)]; simp
  | k + 1, u, h => by
    by_cases h' : u < 10
    · rw [decDigits_small h']; simp
    · rw [decDigits_big h', List.length_append]
      have := decDigits_len k (u / 10) (by rw [Nat.pow_succ] at h; omega)
      simp only [List.length_singleton]; omega
/-- It does not begin with a 0, unless it is 0. -/
theorem decDigits_head (u : Nat) (h0 : 0 < u) : ∃ c r, Lib.decDigits u = c :: r ∧ c ≠ 48 := by
  induction u using Nat.strongRecOn with
  | _ u ih =>
    by_cases h : u < 10
    · refine ⟨_, [], decDigits_small h, fun e => ?_⟩
      have := congrArg UInt8.toNat e
      rw [digit_nat u h] at this
      have h48 : (48 : UInt8).toNat = 48 := rfl
      omega
    · obtain ⟨c, r, e, hc⟩ := ih (u / 10) (by omega) (by omega)
      exact ⟨c, r ++ [UInt8.ofNat (48 + u % 10)], by rw [decDigits_big h, e]; rfl, hc⟩
theorem formD_decDigits (neg : Bool) (u : Nat) (h : 0 < u ∨ neg = false) : formD neg (Lib.decDigits u) = true := by
  rcases Nat.eq_zero_or_pos u with h0 | h0
  · subst h0
    rcases h with h | h
    · omega
    · subst h; rw [decDigits_small (by omega)]; rfl
  · obtain ⟨c, r, e, hc⟩ := decDigits_head u h0
    rw [e, formD_cons hc, ← e]; exact decDigits_all u
theorem decDigits_not45 (u : Nat) : ∀ c r, Lib.decDigits u = c :: r → ¬ c = 45 := by
  intro c r e h
  have := decDigits_all u
  rw [e] at this
  simp only [List.all_cons, Bool.and_eq_true] at this
  have := digB_iff.1 this.1
  subst h
  have h45 : (45 : UInt8).toNat = 45 := rfl
  omega
theorem itoa_parts (n : Int) : isNeg (Lib.itoa n) = decide (n < 0) ∧ digitsOf (Lib.itoa n) = Lib.decDigits n.natAbs := by
  unfold Lib.itoa
  by_cases h : n < 0
  · rw [if_pos h, isNeg_cons, digitsOf_neg]; simp [h]
  · rw [if_neg h]
    have e : n.toNat = n.natAbs := by omega
    rw [e]
    cases hd : Lib.decDigits n.natAbs with
    | nil => have := (formD_digits (formD_decDigits false n.natAbs (.inr rfl))).1; exact absurd hd this
    | cons c r =>
      have hc := decDigits_not45 _ c r hd
      rw [isNeg_cons, digitsOf_pos c r hc]; simp [h, hc]
theorem valN_itoa (n : Int) : valN (Lib.itoa n) = n := by
  have ⟨h1, h2⟩ := itoa_parts n
  unfold valN; rw [h1, h2, decA_decDigits]
  by_cases h : n < 0 <;> simp [h] <;> omega
theorem formB_itoa (n : Int) : formB (Lib.itoa n) = true := by
  have ⟨h1, h2⟩ := itoa_parts n
  unfold formB; rw [h1, h2]
  exact formD_decDigits _ _ (by by_cases h : n < 0 <;> simp [h] <;> omega)
theorem parse_show {n : Int} (h : right n = true) : parseE (showL n) = 0 ∧ parseV (showL n) = n := by
  have hs : showL n = Lib.itoa n := by simp [showL, h]
  have ⟨r0, r1⟩ := right_iff.1 h
  have hl : ¬ 20 < (Lib.itoa n).length := by
    have := decDigits_len 18 n.natAbs (by have : 10 ^ (18 + 1) = 10000000000000000000 := by decide
                                          omega)
    unfold Lib.itoa
    by_cases h : n < 0
    · rw [if_pos h, List.length_cons]; omega
    · rw [if_neg h]; have e : n.toNat = n.natAbs := by omega
      rw [e]; omega
  rw [hs]
  have := parse_ok (l := Lib.itoa n) hl (formB_itoa n) (by rw [valN_itoa]; exact h)
  rw [valN_itoa] at this; exact this
theorem digit_back (c : UInt8) (h : digB c = true) : UInt8.ofNat (48 + (c.toNat - 48)) = c := by
  have ⟨a, b⟩ := digB_iff.1 h
  apply UInt8.toNat_inj.1
  rw [digit_nat _ (by omega)]; omega
/-- Digits without a 0 ahead are those of what they come to. -/
theorem decDigits_decA : ∀ (k : Nat) (c : UInt8) (r : List UInt8), r.length ≤ k → ¬ c = 48 → (c :: r).all digB = true → Lib.decDigits (decA 0 (c :: r)) = c :: r ∧ 0 < decA 0 (c :: r) := by
  intro k
  induction k with
  | zero =>
    intro c r hk hc hd
    have hr : r = [] := by cases r with
      | nil => rfl
      | cons _ _ => simp at hk
    subst hr
    simp only [List.all_cons, Bool.and_eq_true] at hd
    have ⟨a, b⟩ := digB_iff.1 hd.1
    have h48 := u8_ne (n := 48) (by omega) hc
    rw [decA_cons, decA_nil]
    refine ⟨?_, by omega⟩
    rw [decDigits_small (by omega)]
    have : 0 * 10 + (c.toNat - 48) = c.toNat - 48 := by omega
    rw [this, digit_back c hd.1]
  | succ k ih =>
    intro c r hk hc hd
    rcases List.eq_nil_or_concat r with hr | ⟨r', x, hr⟩
    · exact ih c r (by subst hr; simp) hc hd
    · have hr' : r = r' ++ [x] := by simpa using hr
      subst hr'
      rw [← List.cons_append, List.all_append] at hd
      simp only [Bool.and_eq_true] at hd
      have ⟨h1, h2⟩ := ih c r' (by simp at hk; omega) hc hd.1
      have hx : digB x = true := by simpa using hd.2
      have ⟨a, b⟩ := digB_iff.1 hx
      rw [← List.cons_append, decA_snoc]
      generalize decA 0 (c :: r') = v at *
      refine ⟨?_, by omega⟩
      rw [decDigits_big (by omega), show (v * 10 + (x.toNat - 48)) / 10 = v by omega, show (v * 10 + (x.toNat - 48)) % 10 = x.toNat - 48 by omega, h1, digit_back x hx]
theorem formD_back {neg : Bool} {d : List UInt8} (h : formD neg d = true) : Lib.decDigits (decA 0 d) = d ∧ (neg = true → 0 < decA 0 d) := by
  match d, h with
  | c :: r, h =>
    by_cases hc : c = 48
    · subst hc
      rw [show formD neg (48 :: r) = (r.isEmpty && !neg) from rfl] at h
      simp only [Bool.and_eq_true, List.isEmpty_iff, Bool.not_eq_true'] at h
      obtain ⟨rfl, rfl⟩ := h
      refine ⟨?_, fun h => by cases h⟩
      rw [decA_cons, decA_nil, decDigits_small (by decide)]; rfl
    · have := decDigits_decA r.length c r (Nat.le_refl _) hc (by rw [← formD_cons (neg := neg) hc]; exact h)
      exact ⟨this.1, fun _ => this.2⟩
theorem itoa_valN {l : List UInt8} (h : formB l = true) : Lib.itoa (valN l) = l := by
  match l, h with
  | [], h => cases h
  | c :: r, h =>
    unfold formB at h
    by_cases hc : c = 45
    · subst hc
      rw [digitsOf_neg, isNeg_cons] at h
      have ⟨h1, h2⟩ := formD_back h
      have h3 := h2 (by decide)
      unfold valN
      rw [isNeg_cons, digitsOf_neg]
      generalize decA 0 r = v at *
      rw [if_pos (by decide)]
      unfold Lib.itoa
      rw [if_pos (by omega), show (-(v : Int)).natAbs = v by omega, h1]
    · rw [digitsOf_pos c r hc, isNeg_cons] at h
      have ⟨h1, _⟩ := formD_back h
      unfold valN
      rw [isNeg_cons, digitsOf_pos c r hc]
      generalize decA 0 (c :: r) = v at *
      rw [if_neg (by simpa using hc)]
      unfold Lib.itoa
      rw [if_neg (by omega), show ((v : Nat) : Int).toNat = v by omega, h1]
theorem show_parse {l : List UInt8} (h : parseE l = 0) : showL (parseV l) = l := by
  unfold parseV; rw [if_pos h]
  unfold parseE at h
  by_cases h1 : 20 < l.length
  · rw [if_pos h1] at h; omega
  · rw [if_neg h1] at h
    by_cases h2 : formB l = true
    · rw [if_pos h2] at h
      by_cases h3 : right (valN l) = true
      · unfold showL; rw [if_pos h3, itoa_valN h2]
      · rw [if_neg h3] at h; omega
    · rw [if_neg h2] at h; omega
theorem parseV_zero {l : List UInt8} (h : ¬ parseE l = 0) : parseV l = 0 := by unfold parseV; rw [if_neg h]
theorem sum_halves {l : List Int} (at' : Nat) (h1 : sumB (l.take at') = true) (h2 : sumB (l.drop at') = true) : sumB l = addB (sumV (l.take at')) (sumV (l.drop at')) ∧ sumV l = addV (sumV (l.take at')) (sumV (l.drop at')) := by
  have e : l = l.take at' ++ l.drop at' := (List.take_append_drop _ _).symm
  have v1 : sumV (l.take at') = (l.take at').sum := by simp [sumV, h1]
  have v2 : sumV (l.drop at') = (l.drop at').sum := by simp [sumV, h2]
  have hs : l.sum = (l.take at').sum + (l.drop at').sum := by rw [← List.sum_append, ← e]
  unfold sumB at h1 h2
  simp only [Bool.and_eq_true] at h1 h2
  have ha : l.all right = true := by rw [e, List.all_append, h1.1, h2.1]; rfl
  have hb : sumB l = addB (sumV (l.take at')) (sumV (l.drop at')) := by
    unfold sumB addB; rw [v1, v2, ha, h1.2, h2.2, hs]; rfl
  refine ⟨hb, ?_⟩
  unfold sumV addV
  rw [hb]
  simp only [show sumB (l.take at') = true from by unfold sumB; simp [h1], show sumB (l.drop at') = true from by unfold sumB; simp [h2], if_true]
  rw [← hs]
  have v1' : sumV (l.take at') = (l.take at').sum := v1
  have v2' : sumV (l.drop at') = (l.drop at').sum := v2
  rw [v1', v2']
end Go.Proofs.YtcfpchcbiknehaaDoorR
