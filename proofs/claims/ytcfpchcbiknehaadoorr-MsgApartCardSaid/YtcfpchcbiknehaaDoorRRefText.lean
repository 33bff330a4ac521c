/-
  The document's answers for layer 1's Show and Parse come to what the program's do.
-/
import Derived.Test.YtcfpchcbiknehaaDoorRRefNum
import Derived.Test.YtcfpchcbiknehaaDoorRNumText
import Derived.WalkLawsBesides
import Derived.Lib.SmallJoins
namespace Go.Proofs.YtcfpchcbiknehaaDoorR
open Go.RowKit

theorem decDigits_small {u : Nat} (h : u < 10) : Lib.decDigits u = [UInt8.ofNat (48 + u)] := by rw [Lib.decDigits, dif_pos h]
theorem decDigits_big {u : Nat} (h : ¬ u < 10) : Lib.decDigits u = Lib.decDigits (u / 10) ++ [UInt8.ofNat (48 + u % 10)] := by rw [Lib.decDigits, dif_neg h]

theorem decDigits_le (u : Nat) : (Lib.decDigits u).length ≤ u + 1 := by
  induction u using Nat.strongRecOn with
  | _ u ih =>
    by_cases h : u < 10
    · rw [decDigits_small h]; simp
    · rw [decDigits_big h, List.length_append]
      have := ih (u / 10) (by omega)
      simp only [List.length_singleton]; omega
theorem enc_digit (n : Nat) (h : n < 10) : Utf8.encode (48 + (n : Int)) = ⟨#[UInt8.ofNat (48 + n)]⟩ := by
  rcases (show n = 0 ∨ n = 1 ∨ n = 2 ∨ n = 3 ∨ n = 4 ∨ n = 5 ∨ n = 6 ∨ n = 7 ∨ n = 8 ∨ n = 9 by omega) with rfl | rfl | rfl | rfl | rfl | rfl | rfl | rfl | rfl | rfl <;> rfl
theorem app_bytes (l : List UInt8) (c : UInt8) : (⟨l.toArray⟩ : ByteArray) ++ ⟨#[c]⟩ = ⟨(l ++ [c]).toArray⟩ := by
  apply ByteArray.ext
  apply Array.ext'
  rw [Joins.data_append]
theorem cons_bytes (l : List UInt8) (c : UInt8) : (⟨#[c]⟩ : ByteArray) ++ ⟨l.toArray⟩ = ⟨(c :: l).toArray⟩ := by
  apply ByteArray.ext
  apply Array.ext'
  rw [Joins.data_append]; rfl


theorem show_nn : ∀ (k : Nat) (n : Int), 0 ≤ n → n ≤ 4611686018427387904 → n.toNat ≤ k → ∀ w : World, Calls Tryd.prog 41 #[.int .i64 n] w fun e w' => e = .returned (.string ⟨(Lib.decDigits n.toNat).toArray⟩) ∧ w = w' := by
  intro k
  induction k using Nat.strongRecOn with
  | _ k IH =>
    intro n n0 hM hk w
    have hr : right n = true := right_t (by omega) (by omega)
    by_cases h : n < 10
    · have hd : (⟨(Lib.decDigits n.toNat).toArray⟩ : ByteArray) = Utf8.encode (48 + n) := by
        rw [decDigits_small (by omega), ← enc_digit n.toNat (by omega), Int.toNat_of_nonneg n0]
      have Hd := Lib.hid hd
      clear IH hd hk
      go_enter Tryd.func41, Tryd.ntmps41
      go_wp2_with (first | (go_at_call 56; refine (ref_Right _ _).mono ?_; rintro e w' ⟨rfl, rfl⟩))
      go_ret
      exact ⟨by rw [Hd.out]; rfl, rfl⟩
    · have ih : Hid (∀ w : World, Calls Tryd.prog 41 #[.int .i64 (n / 10)] w fun e w' => e = .returned (.string ⟨(Lib.decDigits (n / 10).toNat).toArray⟩) ∧ w = w') := IH (n / 10).toNat (by omega) (n / 10) (by omega) (by omega) (Nat.le_refl _)
      have hd : (⟨(Lib.decDigits n.toNat).toArray⟩ : ByteArray) = ⟨(Lib.decDigits (n / 10).toNat).toArray⟩ ++ Utf8.encode (48 + n % 10) := by
        rw [decDigits_big (by omega), ← app_bytes, ← enc_digit _ (Nat.mod_lt _ (by omega)), show n.toNat / 10 = (n / 10).toNat by omega, show ((n.toNat % 10 : Nat) : Int) = n % 10 by omega]
      have Hd := Lib.hid hd
      have n1 : 10 ≤ n := by omega
      have room : (Lib.decDigits (n / 10).toNat).length + (Utf8.encode (48 + n % 10)).size ≤ 9223372036854775807 := by
        have h1 := decDigits_le (n / 10).toNat
        have h2 := enc_digit (n % 10).toNat (by omega)
        rw [Int.toNat_of_nonneg (by omega)] at h2
        rw [h2]
        have : (ByteArray.mk #[UInt8.ofNat (48 + (n % 10).toNat)]).size = 1 := rfl
        omega
      clear IH hd hk h
      go_enter Tryd.func41, Tryd.ntmps41
      go_wp2_with (first | (go_at_call 56; refine (ref_Right _ _).mono ?_; rintro e w' ⟨rfl, rfl⟩) | (go_at_call 41; refine (ih.out _).mono ?_; rintro e w' ⟨rfl, rfl⟩))
      go_ret
      exact ⟨by rw [Hd.out]; rfl, rfl⟩
theorem ref_Show (n : Int) (w : World) : Calls Tryd.prog 41 #[.int .i64 n] w fun e w' => e = .returned (.string ⟨(showL n).toArray⟩) ∧ w = w' := by
  rcases Bool.eq_false_or_eq_true (right n) with hr | hr
  · have hs : showL n = Lib.itoa n := by simp [showL, hr]
    have ⟨r0, r1⟩ := right_iff.1 hr
    by_cases h0 : 0 ≤ n
    · refine (show_nn n.toNat n h0 r1 (Nat.le_refl _) w).mono fun e w' ⟨he, hw⟩ => ⟨?_, hw⟩
      rw [he, hs, Lib.itoa, if_neg (by omega)]
    · obtain ⟨m, hm⟩ : ∃ m, m = -n := ⟨_, rfl⟩
      have ih : Hid (∀ w : World, Calls Tryd.prog 41 #[.int .i64 (-n)] w fun e w' => e = .returned (.string ⟨(Lib.decDigits n.natAbs).toArray⟩) ∧ w = w') := fun w => by
        have := show_nn m.toNat m (by omega) (by omega) (Nat.le_refl _) w
        rw [show n.natAbs = m.toNat by omega, ← hm]; exact this
      have hd : (⟨(showL n).toArray⟩ : ByteArray) = ⟨#[45]⟩ ++ ⟨(Lib.decDigits n.natAbs).toArray⟩ := by
        rw [cons_bytes, hs, Lib.itoa, if_pos (by omega)]
      have Hd := Lib.hid hd
      have hn : n < 0 := by omega
      have room : 1 + (Lib.decDigits n.natAbs).length ≤ 9223372036854775807 := by
        have h1 := decDigits_le n.natAbs
        omega
      clear hd hs hm h0
      go_enter Tryd.func41, Tryd.ntmps41
      go_wp2_with (first | (go_at_call 56; refine (ref_Right _ _).mono ?_; rintro e w' ⟨rfl, rfl⟩) | (go_at_call 41; refine (ih.out _).mono ?_; rintro e w' ⟨rfl, rfl⟩))
      go_ret
      exact ⟨by rw [Hd.out]; rfl, rfl⟩
  · have Hs := Lib.hid (show showL n = [] by simp [showL, hr])
    go_enter Tryd.func41, Tryd.ntmps41
    go_wp2_with (first | (go_at_call 56; refine (ref_Right _ _).mono ?_; rintro e w' ⟨rfl, rfl⟩))
    go_ret
    exact ⟨by rw [Hs.out]; rfl, rfl⟩
end Go.Proofs.YtcfpchcbiknehaaDoorR
