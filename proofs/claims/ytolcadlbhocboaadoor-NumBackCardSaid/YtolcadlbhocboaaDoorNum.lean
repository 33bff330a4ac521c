/-
  Layer 1, num: the contracts of its functions.
-/
import Derived.Test.YtolcadlbhocboaaDoorShelf
import Derived.Test.YtolcadlbhocboaaDoorNumMath
import Derived.WalkKit
import Derived.WalkSmall
import Derived.Lib.Hide
import Derived.Deep.QuietTactic
import Derived.Deep.RegionWith
import Derived.IntWalk
import Derived.BigQuiet
namespace Go.Proofs.YtolcadlbhocboaaDoor
open Go.RowKit

theorem ret2 {k : IntKind} {a a' : Int} {b b' : Bool} (h : a = a') (g : b = b') : Ending.returned (.tuple #[.int k a, .bool b]) = .returned (.tuple #[.int k a', .bool b']) := by rw [h, g]

theorem num_Right (n : Int) (w : World) : Calls Tryd.prog 14 #[.int .i64 n] w fun e w' => e = .returned (.bool (right n)) ∧ w = w' := by
  rcases right_cases n with ⟨hr, h0, h1⟩ | ⟨hr, h | h⟩
  all_goals
    go_enter Tryd.func14, Tryd.ntmps14
    go_wp2
    go_ret
    exact ⟨by simp [hr]; first | done | omega, rfl⟩
theorem num_number (n : Int) (w : World) : Calls Tryd.prog 22 #[.int .i64 n] w fun e w' => e = .returned (.tuple #[.int .i64 (numV n), .bool (right n)]) ∧ w = w' := by
  rcases right_cases n with ⟨hr, h0, h1⟩ | ⟨hr, h⟩
  all_goals
    go_enter Tryd.func22, Tryd.ntmps22
    go_wp2_with (go_at_call 14; refine (num_Right _ _).mono ?_; rintro e w' ⟨rfl, rfl⟩)
    go_ret2
    exact ⟨ret2 (by simp [numV, hr]) (by simp [hr]), rfl⟩

theorem num_Add (a b : Int) (w : World) : Calls Tryd.prog 10 #[.int .i64 a, .int .i64 b] w fun e w' => e = .returned (.tuple #[.int .i64 (addV a b), .bool (addB a b)]) ∧ w = w' := by
  rcases Bool.eq_false_or_eq_true (right a) with ha | ha
  · rcases Bool.eq_false_or_eq_true (right b) with hb | hb
    · have ⟨a0, a1⟩ := right_iff.1 ha
      have ⟨b0, b1⟩ := right_iff.1 hb
      have hn : numV (wrap64 (a + b)) = addV a b ∧ right (wrap64 (a + b)) = addB a b := by
        rcases right_cases (a + b) with ⟨hs, s0, s1⟩ | ⟨hs, h⟩
        · have : wrap64 (a + b) = a + b := by unfold wrap64; omega
          rw [this]; simp [numV, addV, addB, ha, hb, hs]
        · have hw : right (wrap64 (a + b)) = false := by
            rcases right_cases (wrap64 (a + b)) with ⟨_, t0, t1⟩ | ⟨ht, _⟩
            · unfold wrap64 at t0 t1; omega
            · exact ht
          simp [numV, addV, addB, ha, hb, hs, hw]
      have Hn := Lib.hid hn; clear hn
      go_enter Tryd.func10, Tryd.ntmps10
      go_wp2_with (first | (go_at_call 14; refine (num_Right _ _).mono ?_; rintro e w' ⟨rfl, rfl⟩) | (go_at_call 22; refine (num_number _ _).mono ?_; rintro e w' ⟨rfl, rfl⟩))
      go_ret2
      exact ⟨ret2 Hn.out.1 Hn.out.2, rfl⟩
    · have hn : addB a b = false := by simp [addB, hb]
      have Hn := Lib.hid hn; clear hn
      go_enter Tryd.func10, Tryd.ntmps10
      go_wp2_with (go_at_call 14; refine (num_Right _ _).mono ?_; rintro e w' ⟨rfl, rfl⟩)
      go_ret2
      exact ⟨ret2 (addV_f Hn.out).symm Hn.out.symm, rfl⟩
  · have hn : addB a b = false := by simp [addB, ha]
    have Hn := Lib.hid hn; clear hn
    go_enter Tryd.func10, Tryd.ntmps10
    go_wp2_with (go_at_call 14; refine (num_Right _ _).mono ?_; rintro e w' ⟨rfl, rfl⟩)
    go_ret2
    exact ⟨ret2 (addV_f Hn.out).symm Hn.out.symm, rfl⟩


theorem num_size (n : Int) (h : right n = true) (w : World) : Calls Tryd.prog 24 #[.int .i64 n] w fun e w' => e = .returned (.int .u64 (absV n)) ∧ w = w' := by
  have ⟨h0, h1⟩ := right_iff.1 h
  clear h
  by_cases hn : n < 0
  all_goals
    go_enter Tryd.func24, Tryd.ntmps24
    go_wp2
    go_ret
    exact ⟨congrArg (fun z => Ending.returned (.int .u64 z)) (show _ = absV n by unfold absV; first | omega | (show (-n : Int) = _; omega) | (show (n : Int) = _; omega)), rfl⟩
theorem num_signs (n : Int) (h0 : -9223372036854775808 ≤ n) (h1 : n ≤ 9223372036854775807) (w : World) : Calls Tryd.prog 26 #[.int .i64 n] w fun e w' => e = .returned (.int .u64 (sgnU n)) ∧ w = w' := by
  go_enter Tryd.func26, Tryd.ntmps26
  go_wp2
  go_ret
  refine ⟨congrArg (fun z => Ending.returned (.int .u64 z)) (show _ = sgnU n from ?_), rfl⟩
  show IntKind.u64.wrap (n / 9223372036854775808) = sgnU n
  rw [IntKind.wrap_u64]; unfold sgnU; split <;> omega
theorem mul64 (x y : Int) (hx : 0 ≤ x) (hx' : x < 18446744073709551616) (hy : 0 ≤ y) (hy' : y < 18446744073709551616) (w : World) :
    Calls Tryd.prog 23 #[.int .u64 x, .int .u64 y] w fun e w' => e = .returned (.tuple #[.int .u64 (mulHi x y), .int .u64 (mulLo x y)]) ∧ w = w' := by
  obtain ⟨x, rfl⟩ := Int.eq_ofNat_of_zero_le hx
  obtain ⟨y, rfl⟩ := Int.eq_ofNat_of_zero_le hy
  refine (Tryd.bits_Mul64 x y (by omega) (by omega) w).mono ?_
  rintro e w' ⟨rfl, rfl⟩
  exact ⟨by simp [mulHi, mulLo], rfl⟩
set_option maxHeartbeats 400000 in
theorem num_Mul (a b : Int) (w : World) : Calls Tryd.prog 12 #[.int .i64 a, .int .i64 b] w fun e w' => e = .returned (.tuple #[.int .i64 (mulV a b), .bool (mulB a b)]) ∧ w = w' := by
  rcases Bool.eq_false_or_eq_true (right a) with ha | ha
  · rcases Bool.eq_false_or_eq_true (right b) with hb | hb
    · have a0 := absV_nn a
      have a1 := absV_le ha
      have b0 := absV_nn b
      have b1 := absV_le hb
      rcases Bool.eq_false_or_eq_true (right (a * b)) with hm | hm
      · have ⟨hi, lo, le⟩ := mul_small ha hb hm
        have l0 := absV_nn (a * b)
        have hn : mulV a b = a * b ∧ mulB a b = true := by have : mulB a b = true := by simp [mulB, ha, hb, hm]
                                                           exact ⟨mulV_t this, this⟩
        have Hn := Lib.hid hn
        have Ha := Lib.hid ha
        have Hb := Lib.hid hb
        clear hn
        generalize hz : absV (a * b) = z at *
        have Hz := Lib.hid hz; clear hz hm
        rcases (show (decide (a < 0) = true ∧ a < 0) ∨ (decide (a < 0) = false ∧ 0 ≤ a) by simp; omega) with ⟨da, sa⟩ | ⟨da, sa⟩ <;> rcases (show (decide (b < 0) = true ∧ b < 0) ∨ (decide (b < 0) = false ∧ 0 ≤ b) by simp; omega) with ⟨db, sb⟩ | ⟨db, sb⟩
        all_goals
          go_enter Tryd.func12, Tryd.ntmps12
          go_wp2_with (first | (go_at_call 14; refine (num_Right _ _).mono ?_; rintro e w' ⟨rfl, rfl⟩) | (go_at_call 24; refine (num_size _ (by first | exact Ha.out | exact Hb.out) _).mono ?_; rintro e w' ⟨rfl, rfl⟩) | (go_at_call 23; refine (mul64 _ _ (by omega) (by omega) (by omega) (by omega) _).mono ?_; rintro e w' ⟨rfl, rfl⟩))
        all_goals
          go_ret2
          first
            | exact ⟨ret2 (by rw [Hn.out.1, ← mul_neg (by omega), Hz.out]) Hn.out.2.symm, rfl⟩
            | exact ⟨ret2 (by rw [Hn.out.1, ← mul_pos (by omega), Hz.out]) Hn.out.2.symm, rfl⟩
      · have hn : mulV a b = 0 ∧ mulB a b = false := by have : mulB a b = false := by simp [mulB, hm]
                                                        exact ⟨mulV_f this, this⟩
        have Hn := Lib.hid hn
        have Ha := Lib.hid ha
        have Hb := Lib.hid hb
        clear hn
        rcases (show ((mulHi (absV a) (absV b) == 0) = false ∧ (mulHi (absV a) (absV b) != 0) = true) ∨ (mulHi (absV a) (absV b) = 0 ∧ 4611686018427387904 < mulLo (absV a) (absV b)) from
          (mul_great ha hb hm).elim (fun h => .inl ⟨h, by rw [bne, h]; rfl⟩) .inr) with ⟨hi, hi'⟩ | ⟨hi, lo⟩
        all_goals
          clear hm
          go_enter Tryd.func12, Tryd.ntmps12
          go_wp2_with (first | (go_at_call 14; refine (num_Right _ _).mono ?_; rintro e w' ⟨rfl, rfl⟩) | (go_at_call 24; refine (num_size _ (by first | exact Ha.out | exact Hb.out) _).mono ?_; rintro e w' ⟨rfl, rfl⟩) | (go_at_call 23; refine (mul64 _ _ (by omega) (by omega) (by omega) (by omega) _).mono ?_; rintro e w' ⟨rfl, rfl⟩))
        all_goals first
          | (exfalso; omega)
          | (go_ret2; exact ⟨ret2 Hn.out.1.symm Hn.out.2.symm, rfl⟩)
    · have hn : mulB a b = false := by simp [mulB, hb]
      have Hn := Lib.hid hn; clear hn
      go_enter Tryd.func12, Tryd.ntmps12
      go_wp2_with (go_at_call 14; refine (num_Right _ _).mono ?_; rintro e w' ⟨rfl, rfl⟩)
      go_ret2
      exact ⟨ret2 (mulV_f Hn.out).symm Hn.out.symm, rfl⟩
  · have hn : mulB a b = false := by simp [mulB, ha]
    have Hn := Lib.hid hn; clear hn
    go_enter Tryd.func12, Tryd.ntmps12
    go_wp2_with (go_at_call 14; refine (num_Right _ _).mono ?_; rintro e w' ⟨rfl, rfl⟩)
    go_ret2
    exact ⟨ret2 (mulV_f Hn.out).symm Hn.out.symm, rfl⟩
end Go.Proofs.YtolcadlbhocboaaDoor
