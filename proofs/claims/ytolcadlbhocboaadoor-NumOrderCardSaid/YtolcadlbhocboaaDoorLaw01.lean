/-
  Layer 1's laws: the walks of awake, NumRight, NumChecked, NumOrder.
-/
import Derived.Test.YtolcadlbhocboaaDoorRefNum
import Derived.Test.YtolcadlbhocboaaDoorNumText
import Derived.Deep.DeepCutAuto
namespace Go.Proofs.YtolcadlbhocboaaDoor
open Go.RowKit

theorem dec70 : showL 70 = [55, 48] := by
  have h1 : Lib.decDigits 7 = [55] := by rw [Lib.decDigits]; rfl
  have h2 : Lib.decDigits 70 = [55, 48] := by rw [Lib.decDigits]; simp [h1]
  have h3 : right 70 = true := by decide
  unfold showL; rw [h3]; unfold Lib.itoa
  simpa using h2

set_option maxHeartbeats 400000 in
theorem awake01 (w : World) (hctx : Ctx w) : Calls Tryd.prog 9 #[] w fun e w' => e = .returned (.bool true) ∧ Below w.heap.size w w' := by
  have a1 : addV 3 (-5) = -2 := by decide
  have a2 : addB 3 (-5) = true := by decide
  have m1 : mulV (-3) 5 = -15 := by decide
  have m2 : mulB (-3) 5 = true := by decide
  have o2 : addB 4611686018427387904 1 = false := by decide
  have p1 : parseV [45, 49, 50] = -12 := by decide
  have p2 : parseE [45, 49, 50] = 0 := by decide
  have s1 := dec70
  have hp : Hid (∀ w, Ctx w → Calls Tryd.prog 18 #[.string ⟨#[45, 49, 50]⟩] w fun e w' => e = .returned (.tuple #[.int .i64 (-12), .int .i64 0]) ∧ Below w.heap.size w w') := fun w h =>
    (num_Parse ⟨#[45, 49, 50]⟩ (by decide) w h).mono fun e w' ⟨he, hb⟩ => ⟨by rw [he]; exact retII p1 p2, hb⟩
  have hs : Hid (∀ w, Ctx w → Calls Tryd.prog 20 #[.int .i64 70] w fun e w' => e = .returned (.string ⟨#[55, 48]⟩) ∧ Below w.heap.size w w') := fun w h =>
    (num_Show 70 (by decide) (by decide) w h).mono fun e w' ⟨he, hb⟩ => ⟨by rw [he, s1], hb⟩
  clear p1 p2 s1
  go_enter Tryd.func9, Tryd.ntmps9
  go_wp2_with (first | (go_at_call 10; refine (num_Add _ _ _).mono ?_; rintro e w' ⟨rfl, rfl⟩) | (go_at_call 12; refine (num_Mul _ _ _).mono ?_; rintro e w' ⟨rfl, rfl⟩) | (go_at_call 18; refine (hp.out _ hctx).mono ?_; rintro e w' ⟨rfl, hb⟩) | (go_at_call 20; refine (hs.out _ (hctx.on hb)).mono ?_; rintro e w2 ⟨rfl, hb2⟩))
  go_ret
  exact ⟨rfl, hb.trans (hb2.mono hb.size)⟩
theorem walk_NumRight (a b : Int) (w : World) (hctx : Ctx w) : Calls Tryd.prog 3 #[.int .i64 a, .int .i64 b] w fun e w' => e = .returned (.bool true) ∧ Below w.heap.size w w' := by
  go_enter Tryd.func3, Tryd.ntmps3
  go_wp2_with (first | (go_at_call 9; refine (awake01 _ hctx).mono ?_; rintro e w' ⟨rfl, hb⟩) | (go_at_call 10; refine (num_Add _ _ _).mono ?_; rintro e w' ⟨rfl, rfl⟩) | (go_at_call 12; refine (num_Mul _ _ _).mono ?_; rintro e w' ⟨rfl, rfl⟩) | (go_at_call 11; refine (ref_Add _ _ _).mono ?_; rintro e w' ⟨rfl, rfl⟩) | (go_at_call 13; refine (ref_Mul _ _ _).mono ?_; rintro e w' ⟨rfl, rfl⟩) | (go_at_call 14; refine (num_Right _ _).mono ?_; rintro e w' ⟨rfl, rfl⟩) | (go_at_call 15; refine (ref_Right _ _).mono ?_; rintro e w' ⟨rfl, rfl⟩))
  go_ret
  exact ⟨rfl, hb⟩

set_option maxHeartbeats 1000000 in
theorem walk_NumChecked (a b : Int) (hb0 : -9223372036854775808 ≤ b) (hb1 : b ≤ 9223372036854775807) (w : World) (hctx : Ctx w) : Calls Tryd.prog 6 #[.int .i64 a, .int .i64 b] w fun e w' => e = .returned (.bool true) ∧ Below w.heap.size w w' := by
  have c1 := addV_comm b a
  have c2 := addB_comm b a
  have c3 := mulV_comm b a
  have c4 := mulB_comm b a
  have c5 : mulV a 2 = addV a a := by unfold mulV addV mulB addB; rw [show right 2 = true from rfl, show a + a = a * 2 by omega]; cases right a <;> simp
  have c6 : mulB a 2 = addB a a := by unfold mulB addB; rw [show right 2 = true from rfl, show a + a = a * 2 by omega]; cases right a <;> simp
  rcases Bool.eq_false_or_eq_true (addB a b) with hab | hab
  · have hab' := hab
    unfold addB at hab'
    simp only [Bool.and_eq_true] at hab'
    have ⟨b0, b1⟩ := right_iff.1 hab'.1.2
    have n1 : addB (addV a b) (-b) = true := by
      rw [addV_t hab]; unfold addB; simp only [Bool.and_eq_true]
      exact ⟨⟨hab'.2, right_t (by omega) (by omega)⟩, by rw [show a + b + -b = a by omega]; exact hab'.1.1⟩
    have n2 : addV (addV a b) (-b) = a := by rw [addV_t n1, addV_t hab]; omega
    clear hab'
    rcases Bool.eq_false_or_eq_true (mulB a b) with hm | hm
    · have hp := mulV_t hm
      by_cases hbz : b = 0
      · have z1 : (b == 0) = true := by simp [hbz]
        have z2 : (b != 0) = false := by simp [hbz]
        clear hp hbz
        go_enter Tryd.func6, Tryd.ntmps6
        go_wp2_with (first | (go_at_call 9; refine (awake01 _ hctx).mono ?_; rintro e w' ⟨rfl, hb⟩) | (go_at_call 10; refine (num_Add _ _ _).mono ?_; rintro e w' ⟨rfl, rfl⟩) | (go_at_call 12; refine (num_Mul _ _ _).mono ?_; rintro e w' ⟨rfl, rfl⟩))
        go_ret
        exact ⟨rfl, hb⟩
      · have z1 : (b == 0) = false := by simp [hbz]
        have z2 : (b != 0) = true := by simp [hbz]
        have ⟨q1, q2⟩ : wrap64 ((mulV a b).tdiv b) = a ∧ (mulV a b).tmod b = 0 := by
          rw [hp]
          have : right a = true := by unfold mulB at hm; simp only [Bool.and_eq_true] at hm; exact hm.1.1
          have := right_iff.1 this
          rw [Int.mul_tdiv_cancel _ hbz, Int.mul_tmod_left]
          exact ⟨by unfold wrap64; omega, rfl⟩
        clear hp
        go_enter Tryd.func6, Tryd.ntmps6
        go_wp2_with (first | (go_at_call 9; refine (awake01 _ hctx).mono ?_; rintro e w' ⟨rfl, hb⟩) | (go_at_call 10; refine (num_Add _ _ _).mono ?_; rintro e w' ⟨rfl, rfl⟩) | (go_at_call 12; refine (num_Mul _ _ _).mono ?_; rintro e w' ⟨rfl, rfl⟩))
        go_ret
        exact ⟨rfl, hb⟩
    · go_enter Tryd.func6, Tryd.ntmps6
      go_wp2_with (first | (go_at_call 9; refine (awake01 _ hctx).mono ?_; rintro e w' ⟨rfl, hb⟩) | (go_at_call 10; refine (num_Add _ _ _).mono ?_; rintro e w' ⟨rfl, rfl⟩) | (go_at_call 12; refine (num_Mul _ _ _).mono ?_; rintro e w' ⟨rfl, rfl⟩))
      go_ret
      exact ⟨rfl, hb⟩
  · rcases Bool.eq_false_or_eq_true (mulB a b) with hm | hm
    · have hp := mulV_t hm
      by_cases hbz : b = 0
      · have z1 : (b == 0) = true := by simp [hbz]
        have z2 : (b != 0) = false := by simp [hbz]
        clear hp hbz
        go_enter Tryd.func6, Tryd.ntmps6
        go_wp2_with (first | (go_at_call 9; refine (awake01 _ hctx).mono ?_; rintro e w' ⟨rfl, hb⟩) | (go_at_call 10; refine (num_Add _ _ _).mono ?_; rintro e w' ⟨rfl, rfl⟩) | (go_at_call 12; refine (num_Mul _ _ _).mono ?_; rintro e w' ⟨rfl, rfl⟩))
        go_ret
        exact ⟨rfl, hb⟩
      · have z1 : (b == 0) = false := by simp [hbz]
        have z2 : (b != 0) = true := by simp [hbz]
        have ⟨q1, q2⟩ : wrap64 ((mulV a b).tdiv b) = a ∧ (mulV a b).tmod b = 0 := by
          rw [hp]
          have : right a = true := by unfold mulB at hm; simp only [Bool.and_eq_true] at hm; exact hm.1.1
          have := right_iff.1 this
          rw [Int.mul_tdiv_cancel _ hbz, Int.mul_tmod_left]
          exact ⟨by unfold wrap64; omega, rfl⟩
        clear hp
        go_enter Tryd.func6, Tryd.ntmps6
        go_wp2_with (first | (go_at_call 9; refine (awake01 _ hctx).mono ?_; rintro e w' ⟨rfl, hb⟩) | (go_at_call 10; refine (num_Add _ _ _).mono ?_; rintro e w' ⟨rfl, rfl⟩) | (go_at_call 12; refine (num_Mul _ _ _).mono ?_; rintro e w' ⟨rfl, rfl⟩))
        go_ret
        exact ⟨rfl, hb⟩
    · go_enter Tryd.func6, Tryd.ntmps6
      go_wp2_with (first | (go_at_call 9; refine (awake01 _ hctx).mono ?_; rintro e w' ⟨rfl, hb⟩) | (go_at_call 10; refine (num_Add _ _ _).mono ?_; rintro e w' ⟨rfl, rfl⟩) | (go_at_call 12; refine (num_Mul _ _ _).mono ?_; rintro e w' ⟨rfl, rfl⟩))
      go_ret
      exact ⟨rfl, hb⟩

theorem mul_sign (a b : Int) : a * b < 0 ↔ (a < 0 ∧ 0 < b ∨ 0 < a ∧ b < 0) := by
  constructor
  · intro h
    rcases (show a < 0 ∨ a = 0 ∨ 0 < a by omega) with ha | rfl | ha
    · rcases (show b ≤ 0 ∨ 0 < b by omega) with hb | hb
      · have := Int.mul_nonneg_of_nonpos_of_nonpos (Int.le_of_lt ha) hb; omega
      · omega
    · simp at h
    · rcases (show 0 ≤ b ∨ b < 0 by omega) with hb | hb
      · have := Int.mul_nonneg (Int.le_of_lt ha) hb; omega
      · omega
  · rintro (⟨ha, hb⟩ | ⟨ha, hb⟩)
    · exact Int.mul_neg_of_neg_of_pos ha hb
    · exact Int.mul_neg_of_pos_of_neg ha hb
theorem sign_cases (a : Int) : (decide (a < 0) = true ∧ a < 0 ∧ (a == 0) = false ∧ (a != 0) = true) ∨ (decide (a < 0) = false ∧ a = 0 ∧ (a == 0) = true ∧ (a != 0) = false) ∨ (decide (a < 0) = false ∧ 0 < a ∧ (a == 0) = false ∧ (a != 0) = true) := by
  simp; omega
theorem mul_inside {a b c : Int} (hc : 0 ≤ c) (hca : c ≤ a) (ra : right a = true) (rb : right b = true) (rab : right (a * b) = true) :
    mulB c b = true ∧ (0 ≤ b → c * b ≤ a * b) ∧ (b ≤ 0 → a * b ≤ c * b) := by
  have h1 : 0 ≤ b → c * b ≤ a * b := fun h => Int.mul_le_mul_of_nonneg_right hca h
  have h2 : b ≤ 0 → a * b ≤ c * b := fun h => Int.mul_le_mul_of_nonpos_right hca h
  refine ⟨?_, h1, h2⟩
  have ⟨a0, a1⟩ := right_iff.1 ra
  have ⟨p0, p1⟩ := right_iff.1 rab
  have rc : right c = true := right_t (by omega) (by omega)
  have : right (c * b) = true := by
    rcases (show 0 ≤ b ∨ b ≤ 0 by omega) with hb | hb
    · have := Int.mul_nonneg hc hb; have := h1 hb; exact right_t (by omega) (by omega)
    · have := Int.mul_nonpos_of_nonneg_of_nonpos hc hb; have := h2 hb; exact right_t (by omega) (by omega)
  unfold mulB; rw [rc, rb, this]; rfl
set_option maxRecDepth 100000 in
set_option maxHeartbeats 2000000 in
theorem walk_NumOrder (a b c : Int) (w : World) (hctx : Ctx w) : Calls Tryd.prog 8 #[.int .i64 a, .int .i64 b, .int .i64 c] w fun e w' => e = .returned (.bool true) ∧ Below w.heap.size w w' := by
  go_enter Tryd.func8, Tryd.ntmps8
  go_upto_region 5 with (first | (go_at_call 9; refine (awake01 _ hctx).mono ?_; rintro e w' ⟨rfl, hb⟩) | (go_at_call 10; refine (num_Add _ _ _).mono ?_; rintro e w' ⟨rfl, rfl⟩) | (go_at_call 12; refine (num_Mul _ _ _).mono ?_; rintro e w' ⟨rfl, rfl⟩))
  have f1 : Hid (addB a c = true → addB b c = true → decide (addV a c < addV b c) = decide (a < b)) := fun h1 h2 => by rw [addV_t h1, addV_t h2]; simp
  generalize addB a c = x at *
  generalize addB b c = y at *
  generalize addV a c = s at *
  generalize addV b c = t at *
  go_cut [41] (fun s41 wx => s41 = .bool false ∧ wx = w')
  case first =>
    rcases x with _ | _
    · go_wp2
      go_meet
      case rel => exact ⟨rfl, rfl⟩
    · rcases y with _ | _
      · go_wp2
        go_meet
        case rel => exact ⟨rfl, rfl⟩
      · have h := f1.out rfl rfl
        rcases (show (decide (a < b) = true ∧ decide (s < t) = true) ∨ (decide (a < b) = false ∧ decide (s < t) = false) by cases hh : decide (a < b) <;> simp [h, hh]) with ⟨h3, h4⟩ | ⟨h3, h4⟩
        all_goals
          clear h
          go_wp2
          go_meet
          case rel => exact ⟨rfl, rfl⟩
  case rest =>
    obtain ⟨rfl, rfl⟩ := hcut
    clear f1
    go_upto_region 8 with (first | (go_at_call 9; refine (awake01 _ hctx).mono ?_; rintro e w' ⟨rfl, hb⟩) | (go_at_call 10; refine (num_Add _ _ _).mono ?_; rintro e w' ⟨rfl, rfl⟩) | (go_at_call 12; refine (num_Mul _ _ _).mono ?_; rintro e w' ⟨rfl, rfl⟩))
    have f2 : Hid (mulB a b = true → mulV a b = a * b) := fun h => mulV_t h
    have f3 : Hid (mulB a b = true → right a = true ∧ right b = true ∧ right (a * b) = true) := fun h => by unfold mulB at h; simp only [Bool.and_eq_true] at h; exact ⟨h.1.1, h.1.2, h.2⟩
    generalize mulB a b = m at *
    generalize mulV a b = p at *
    go_cut [66] (fun s66 wx => s66 = .bool false ∧ wx = wc)
    case first =>
      rcases m with _ | _
      · go_wp2
        go_meet
        case rel => exact ⟨rfl, rfl⟩
      · have hp := Lib.hid (f2.out rfl)
        rcases (show a < 0 ∨ a = 0 ∨ 0 < a by omega) with sa | sa | sa <;> rcases (show b < 0 ∨ b = 0 ∨ 0 < b by omega) with sb | sb | sb
        all_goals
          have hS := mul_sign a b
          rw [← hp.out] at hS
          have da : (decide (a < 0) = true ∧ a < 0 ∧ (a == 0) = false ∧ (a != 0) = true) ∨ (decide (a < 0) = false ∧ a = 0 ∧ (a == 0) = true ∧ (a != 0) = false) ∨ (decide (a < 0) = false ∧ 0 < a ∧ (a == 0) = false ∧ (a != 0) = true) := sign_cases a
          have db : (decide (b < 0) = true ∧ b < 0 ∧ (b == 0) = false ∧ (b != 0) = true) ∨ (decide (b < 0) = false ∧ b = 0 ∧ (b == 0) = true ∧ (b != 0) = false) ∨ (decide (b < 0) = false ∧ 0 < b ∧ (b == 0) = false ∧ (b != 0) = true) := sign_cases b
          have dp : (decide (p < 0) = true ∧ p < 0) ∨ (decide (p < 0) = false ∧ 0 ≤ p) := by simp; omega
          rcases da with ⟨a1, a2, a3, a4⟩ | ⟨a1, a2, a3, a4⟩ | ⟨a1, a2, a3, a4⟩ <;> first | (exfalso; omega) | skip
          rcases db with ⟨b1, b2, b3, b4⟩ | ⟨b1, b2, b3, b4⟩ | ⟨b1, b2, b3, b4⟩ <;> first | (exfalso; omega) | skip
          rcases dp with ⟨p1, p2⟩ | ⟨p1, p2⟩ <;> first | (exfalso; omega) | skip
          clear sa sb hS a2 b2 p2 f2 f3 hp
          go_wp2
          go_meet
          case rel => exact ⟨rfl, rfl⟩
    case rest =>
      obtain ⟨rfl, rfl⟩ := hcut
      rcases m with _ | _
      · go_wp2
        go_ret
        exact ⟨rfl, hb⟩
      · by_cases ha : 0 < a
        · by_cases hc : 0 ≤ c
          · by_cases hca : c ≤ a
            · have ⟨ra, rb, rab⟩ := f3.out rfl
              have hp := f2.out rfl
              have hin := mul_inside hc hca ra rb rab
              have q1 : mulB c b = true := hin.1
              have q2 := mulV_t q1
              have hq : (0 ≤ b → mulV c b ≤ p) ∧ (b ≤ 0 → p ≤ mulV c b) := by rw [hp, q2]; exact hin.2
              clear f2 f3 hin ra rb rab hp q2
              rcases (show (decide (b < 0) = true ∧ b < 0 ∧ decide (0 ≤ b) = false) ∨ (decide (b < 0) = false ∧ 0 ≤ b ∧ decide (0 ≤ b) = true) by simp; omega) with ⟨b1, b2, b3⟩ | ⟨b1, b2, b3⟩
              · have h1 := hq.2 (by omega)
                clear hq
                go_wp2_with (first | (go_at_call 9; refine (awake01 _ hctx).mono ?_; rintro e w' ⟨rfl, hb⟩) | (go_at_call 10; refine (num_Add _ _ _).mono ?_; rintro e w' ⟨rfl, rfl⟩) | (go_at_call 12; refine (num_Mul _ _ _).mono ?_; rintro e w' ⟨rfl, rfl⟩))
                go_ret
                exact ⟨by first | rfl | exact retB (decide_eq_true h1), hb⟩
              · have h1 := hq.1 b2
                clear hq
                go_wp2_with (first | (go_at_call 9; refine (awake01 _ hctx).mono ?_; rintro e w' ⟨rfl, hb⟩) | (go_at_call 10; refine (num_Add _ _ _).mono ?_; rintro e w' ⟨rfl, rfl⟩) | (go_at_call 12; refine (num_Mul _ _ _).mono ?_; rintro e w' ⟨rfl, rfl⟩))
                go_ret
                exact ⟨by first | rfl | exact retB (decide_eq_true h1), hb⟩
            · go_wp2
              go_ret
              exact ⟨rfl, hb⟩
          · go_wp2
            go_ret
            exact ⟨rfl, hb⟩
        · go_wp2
          go_ret
          exact ⟨rfl, hb⟩
end Go.Proofs.YtolcadlbhocboaaDoor
