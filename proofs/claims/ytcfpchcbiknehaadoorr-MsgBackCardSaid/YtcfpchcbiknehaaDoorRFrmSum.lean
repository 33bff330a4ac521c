/-
  Layer 3, frame: the contracts of the two sums, of three and of rightSize.
-/
import Derived.Test.YtcfpchcbiknehaaDoorRFrmMath
import Derived.Lib.Repeat
import Derived.Test.YtcfpchcbiknehaaDoorRFieldParse
import Derived.Test.YtcfpchcbiknehaaDoorRFieldRefParse
namespace Go.Proofs.YtcfpchcbiknehaaDoorR
open Go.RowKit

theorem frame_rightSize (n : Int) (r : Bool) (h : r = decide (1 ≤ n ∧ n ≤ 8000)) (w : World) : Calls Tryd.prog 35 #[.int .i64 n] w fun e w' => e = .returned (.bool r) ∧ w = w' := by
  rcases (show (decide (1 ≤ n ∧ n ≤ 8000) = true ∧ 1 ≤ n ∧ n ≤ 8000) ∨ (decide (1 ≤ n ∧ n ≤ 8000) = false ∧ n < 1) ∨ (decide (1 ≤ n ∧ n ≤ 8000) = false ∧ 1 ≤ n ∧ 8000 < n) by simp; omega) with ⟨hr, h0, h1⟩ | ⟨hr, h0⟩ | ⟨hr, h0, h1⟩
  · rw [hr] at h; clear hr; subst h
    go_enter Tryd.func35, Tryd.ntmps35
    go_wp2
    go_ret
    exact ⟨retB rfl, rfl⟩
  · rw [hr] at h; clear hr; subst h
    go_enter Tryd.func35, Tryd.ntmps35
    go_wp2
    go_ret
    exact ⟨retB rfl, rfl⟩
  · rw [hr] at h; clear hr; subst h
    go_enter Tryd.func35, Tryd.ntmps35
    go_wp2
    go_ret
    exact ⟨retB (by simp; omega), rfl⟩
theorem dig3_eq (s : Nat) (hs : s < 256) : List.replicate (3 - (Lib.decDigits s).length) 48 ++ Lib.decDigits s = dig3 s ∧ (Lib.decDigits s).length ≤ 3 := by
  unfold dig3
  by_cases h1 : s < 10
  · rw [decDigits_small h1, show s / 100 = 0 by omega, show s / 10 % 10 = 0 by omega, show s % 10 = s by omega]
    exact ⟨rfl, by simp⟩
  · by_cases h2 : s < 100
    · rw [decDigits_big h1, decDigits_small (by omega), show s / 100 = 0 by omega, show s / 10 % 10 = s / 10 by omega]
      exact ⟨rfl, by simp⟩
    · rw [decDigits_big h1, decDigits_big (u := s / 10) (by omega), decDigits_small (u := s / 10 / 10) (by omega), show s / 10 / 10 = s / 100 by omega]
      exact ⟨rfl, by simp⟩
theorem repeatL_one (k : Nat) : Lib.repeatL [48] k = List.replicate k 48 := by
  induction k with
  | zero => rfl
  | succ k ih => unfold Lib.repeatL; rw [ih]; rfl
theorem itoa_nat (n : Nat) : Lib.itoa (n : Int) = Lib.decDigits n := by
  unfold Lib.itoa
  rw [if_neg (by omega), Int.toNat_natCast]
end Go.Proofs.YtcfpchcbiknehaaDoorR
