/-
  The document's answers for layer 1: Right, Add, Mul, Sum come to what the program's do.
-/
import Derived.Test.YtolcadlbhocboaaDoorNumSum
namespace Go.Proofs.YtolcadlbhocboaaDoor
open Go.RowKit

theorem ref_Right (n : Int) (w : World) : Calls Tryd.prog 15 #[.int .i64 n] w fun e w' => e = .returned (.bool (right n)) ∧ w = w' := by
  rcases right_cases n with ⟨hr, h0, h1⟩ | ⟨hr, h | h⟩
  all_goals
    go_enter Tryd.func15, Tryd.ntmps15
    go_wp2
    go_ret
    exact ⟨by simp [hr]; first | done | omega, rfl⟩

set_option maxHeartbeats 400000 in
theorem ref_Add (a b : Int) (w : World) : Calls Tryd.prog 11 #[.int .i64 a, .int .i64 b] w fun e w' => e = .returned (.tuple #[.int .i64 (addV a b), .bool (addB a b)]) ∧ w = w' := by
  rcases Bool.eq_false_or_eq_true (right a) with ha | ha
  · rcases Bool.eq_false_or_eq_true (right b) with hb | hb
    · have ⟨a0, a1⟩ := right_iff.1 ha
      have ⟨b0, b1⟩ := right_iff.1 hb
      rcases right_cases (a + b) with ⟨hs, s0, s1⟩ | ⟨hs, hs'⟩
      · have hn : addB a b = true := by simp [addB, ha, hb, hs]
        have Hn := Lib.hid hn; clear hn
        rcases (show (0 < b ∧ decide (0 < b) = true ∧ decide (4611686018427387904 - b < a) = false ∧ decide (b < 0) = false) ∨ (b < 0 ∧ decide (0 < b) = false ∧ decide (b < 0) = true ∧ decide (a < -4611686018427387904 - b) = false) ∨ (b = 0) by simp; omega) with ⟨c1, d1, d2, d3⟩ | ⟨c1, d1, d2, d3⟩ | rfl
        all_goals
          go_enter Tryd.func11, Tryd.ntmps11
          go_wp2_with (go_at_call 15; refine (ref_Right _ _).mono ?_; rintro e w' ⟨rfl, rfl⟩)
          go_ret2
          exact ⟨ret2 (by rw [addV_t Hn.out]; first | done | omega) Hn.out.symm, rfl⟩
      · have hn : addB a b = false := by simp [addB, hs]
        have Hn := Lib.hid hn; clear hn
        rcases (show (0 < b ∧ decide (0 < b) = true ∧ decide (4611686018427387904 - b < a) = true ∧ decide (b < 0) = false) ∨ (b < 0 ∧ decide (0 < b) = false ∧ decide (b < 0) = true ∧ decide (a < -4611686018427387904 - b) = true) by simp; omega) with ⟨c1, d1, d2, d3⟩ | ⟨c1, d1, d2, d3⟩
        all_goals
          clear hs'
          go_enter Tryd.func11, Tryd.ntmps11
          go_wp2_with (go_at_call 15; refine (ref_Right _ _).mono ?_; rintro e w' ⟨rfl, rfl⟩)
          go_ret2
          exact ⟨ret2 (addV_f Hn.out).symm Hn.out.symm, rfl⟩
    · have hn : addB a b = false := by simp [addB, hb]
      have Hn := Lib.hid hn; clear hn
      go_enter Tryd.func11, Tryd.ntmps11
      go_wp2_with (go_at_call 15; refine (ref_Right _ _).mono ?_; rintro e w' ⟨rfl, rfl⟩)
      go_ret2
      exact ⟨ret2 (addV_f Hn.out).symm Hn.out.symm, rfl⟩
  · have hn : addB a b = false := by simp [addB, ha]
    have Hn := Lib.hid hn; clear hn
    go_enter Tryd.func11, Tryd.ntmps11
    go_wp2_with (go_at_call 15; refine (ref_Right _ _).mono ?_; rintro e w' ⟨rfl, rfl⟩)
    go_ret2
    exact ⟨ret2 (addV_f Hn.out).symm Hn.out.symm, rfl⟩

theorem mul_div_le {x y : Int} (hy : 0 < y) : (4611686018427387904 / y < x) ↔ 4611686018427387904 < x * y := by
  exact Int.ediv_lt_iff_lt_mul hy
set_option maxHeartbeats 1000000 in
theorem ref_Mul (a b : Int) (w : World) : Calls Tryd.prog 13 #[.int .i64 a, .int .i64 b] w fun e w' => e = .returned (.tuple #[.int .i64 (mulV a b), .bool (mulB a b)]) ∧ w = w' := by
  rcases Bool.eq_false_or_eq_true (right a) with ha | ha
  · rcases Bool.eq_false_or_eq_true (right b) with hb | hb
    · have ⟨a0, a1⟩ := right_iff.1 ha
      have ⟨b0, b1⟩ := right_iff.1 hb
      by_cases haz : a = 0
      · subst haz
        have Hn := Lib.hid (show mulB 0 b = true by simp [mulB, hb, show right 0 = true from rfl])
        go_enter Tryd.func13, Tryd.ntmps13
        go_wp2_with (go_at_call 15; refine (ref_Right _ _).mono ?_; rintro e w' ⟨rfl, rfl⟩)
        go_ret2
        exact ⟨ret2 (by rw [mulV_t Hn.out]; simp) Hn.out.symm, rfl⟩
      by_cases hbz : b = 0
      · subst hbz
        have Hn := Lib.hid (show mulB a 0 = true by simp [mulB, ha, show right 0 = true from rfl])
        have za : (a == 0) = false := beq_eq_false_iff_ne.2 haz
        go_enter Tryd.func13, Tryd.ntmps13
        go_wp2_with (go_at_call 15; refine (ref_Right _ _).mono ?_; rintro e w' ⟨rfl, rfl⟩)
        go_ret2
        exact ⟨ret2 (by rw [mulV_t Hn.out]; simp) Hn.out.symm, rfl⟩
      have key : ∀ x y : Int, 0 < x → 0 < y → x ≤ 4611686018427387904 → y ≤ 4611686018427387904 → (decide (4611686018427387904 / y < x) = false ∧ x * y ≤ 4611686018427387904 ∧ 0 < x * y) ∨ (decide (4611686018427387904 / y < x) = true ∧ 4611686018427387904 < x * y) := fun x y hx hy _ _ => by
        have := Int.mul_pos hx hy
        by_cases h : 4611686018427387904 < x * y
        · exact .inr ⟨decide_eq_true ((mul_div_le hy).2 h), h⟩
        · exact .inl ⟨decide_eq_false (fun h' => h ((mul_div_le hy).1 h')), by omega, this⟩
      rcases (show (∃ x, 0 < x ∧ a = -x) ∨ 0 < a by by_cases h : a < 0; exact .inl ⟨-a, by omega, by omega⟩; exact .inr (by omega)) with ⟨x, hx, rfl⟩ | hx <;>
      rcases (show (∃ y, 0 < y ∧ b = -y) ∨ 0 < b by by_cases h : b < 0; exact .inl ⟨-b, by omega, by omega⟩; exact .inr (by omega)) with ⟨y, hy, rfl⟩ | hy
      · have Hv : Hid ((-x) * (-y) = x * y) := Int.neg_mul_neg x y
        have za : ((-x) == 0) = false := beq_eq_false_iff_ne.2 (by omega)
        have zb : ((-y) == 0) = false := beq_eq_false_iff_ne.2 (by omega)
        clear haz hbz
        rcases key x y hx hy (by omega) (by omega) with ⟨hd, h1, h0⟩ | ⟨hd, h1⟩
        · have Hn := Lib.hid (show mulB (-x) (-y) = true by unfold mulB; rw [ha, hb, Hv.out, right_t (by omega) (by omega)]; rfl)
          clear key
          go_enter Tryd.func13, Tryd.ntmps13
          go_wp2_with (go_at_call 15; refine (ref_Right _ _).mono ?_; rintro e w' ⟨rfl, rfl⟩)
          go_ret2
          exact ⟨ret2 (by rw [mulV_t Hn.out, Hv.out]) Hn.out.symm, rfl⟩
        · have Hn := Lib.hid (show mulB (-x) (-y) = false by unfold mulB; rw [ha, hb, Hv.out, right_f1 (by omega)]; rfl)
          clear key
          go_enter Tryd.func13, Tryd.ntmps13
          go_wp2_with (go_at_call 15; refine (ref_Right _ _).mono ?_; rintro e w' ⟨rfl, rfl⟩)
          go_ret2
          exact ⟨ret2 (mulV_f Hn.out).symm Hn.out.symm, rfl⟩
      · have Hv : Hid ((-x) * (b) = -(x * b)) := Int.neg_mul x b
        have za : ((-x) == 0) = false := beq_eq_false_iff_ne.2 (by omega)
        have zb : ((b) == 0) = false := beq_eq_false_iff_ne.2 (by omega)
        clear haz hbz
        rcases key x b hx hy (by omega) (by omega) with ⟨hd, h1, h0⟩ | ⟨hd, h1⟩
        · have Hn := Lib.hid (show mulB (-x) (b) = true by unfold mulB; rw [ha, hb, Hv.out, right_t (by omega) (by omega)]; rfl)
          clear key
          go_enter Tryd.func13, Tryd.ntmps13
          go_wp2_with (go_at_call 15; refine (ref_Right _ _).mono ?_; rintro e w' ⟨rfl, rfl⟩)
          go_ret2
          exact ⟨ret2 (by rw [mulV_t Hn.out, Hv.out]) Hn.out.symm, rfl⟩
        · have Hn := Lib.hid (show mulB (-x) (b) = false by unfold mulB; rw [ha, hb, Hv.out, right_f0 (by omega)]; rfl)
          clear key
          go_enter Tryd.func13, Tryd.ntmps13
          go_wp2_with (go_at_call 15; refine (ref_Right _ _).mono ?_; rintro e w' ⟨rfl, rfl⟩)
          go_ret2
          exact ⟨ret2 (mulV_f Hn.out).symm Hn.out.symm, rfl⟩
      · have Hv : Hid ((a) * (-y) = -(a * y)) := Int.mul_neg a y
        have za : ((a) == 0) = false := beq_eq_false_iff_ne.2 (by omega)
        have zb : ((-y) == 0) = false := beq_eq_false_iff_ne.2 (by omega)
        clear haz hbz
        rcases key a y hx hy (by omega) (by omega) with ⟨hd, h1, h0⟩ | ⟨hd, h1⟩
        · have Hn := Lib.hid (show mulB (a) (-y) = true by unfold mulB; rw [ha, hb, Hv.out, right_t (by omega) (by omega)]; rfl)
          clear key
          go_enter Tryd.func13, Tryd.ntmps13
          go_wp2_with (go_at_call 15; refine (ref_Right _ _).mono ?_; rintro e w' ⟨rfl, rfl⟩)
          go_ret2
          exact ⟨ret2 (by rw [mulV_t Hn.out, Hv.out]) Hn.out.symm, rfl⟩
        · have Hn := Lib.hid (show mulB (a) (-y) = false by unfold mulB; rw [ha, hb, Hv.out, right_f0 (by omega)]; rfl)
          clear key
          go_enter Tryd.func13, Tryd.ntmps13
          go_wp2_with (go_at_call 15; refine (ref_Right _ _).mono ?_; rintro e w' ⟨rfl, rfl⟩)
          go_ret2
          exact ⟨ret2 (mulV_f Hn.out).symm Hn.out.symm, rfl⟩
      · have za : ((a) == 0) = false := beq_eq_false_iff_ne.2 (by omega)
        have zb : ((b) == 0) = false := beq_eq_false_iff_ne.2 (by omega)
        clear haz hbz
        rcases key a b hx hy (by omega) (by omega) with ⟨hd, h1, h0⟩ | ⟨hd, h1⟩
        · have Hn := Lib.hid (show mulB (a) (b) = true by unfold mulB; rw [ha, hb, right_t (by omega) (by omega)]; rfl)
          clear key
          go_enter Tryd.func13, Tryd.ntmps13
          go_wp2_with (go_at_call 15; refine (ref_Right _ _).mono ?_; rintro e w' ⟨rfl, rfl⟩)
          go_ret2
          exact ⟨ret2 (by rw [mulV_t Hn.out]) Hn.out.symm, rfl⟩
        · have Hn := Lib.hid (show mulB (a) (b) = false by unfold mulB; rw [ha, hb, right_f1 (by omega)]; rfl)
          clear key
          go_enter Tryd.func13, Tryd.ntmps13
          go_wp2_with (go_at_call 15; refine (ref_Right _ _).mono ?_; rintro e w' ⟨rfl, rfl⟩)
          go_ret2
          exact ⟨ret2 (mulV_f Hn.out).symm Hn.out.symm, rfl⟩
    · have hn : mulB a b = false := by simp [mulB, hb]
      have Hn := Lib.hid hn; clear hn
      go_enter Tryd.func13, Tryd.ntmps13
      go_wp2_with (go_at_call 15; refine (ref_Right _ _).mono ?_; rintro e w' ⟨rfl, rfl⟩)
      go_ret2
      exact ⟨ret2 (mulV_f Hn.out).symm Hn.out.symm, rfl⟩
  · have hn : mulB a b = false := by simp [mulB, ha]
    have Hn := Lib.hid hn; clear hn
    go_enter Tryd.func13, Tryd.ntmps13
    go_wp2_with (go_at_call 15; refine (ref_Right _ _).mono ?_; rintro e w' ⟨rfl, rfl⟩)
    go_ret2
    exact ⟨ret2 (mulV_f Hn.out).symm Hn.out.symm, rfl⟩
end Go.Proofs.YtolcadlbhocboaaDoor
