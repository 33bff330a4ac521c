/-
  The document's answers for layer 1: Right, Add, Mul, Sum come to what the program's do.
-/
import Derived.Test.YtcfpchcbiknehaaDoorRNumSum
namespace Go.Proofs.YtcfpchcbiknehaaDoorR
open Go.RowKit

theorem ref_Right (n : Int) (w : World) : Calls Tryd.prog 56 #[.int .i64 n] w fun e w' => e = .returned (.bool (right n)) ∧ w = w' := by
  rcases right_cases n with ⟨hr, h0, h1⟩ | ⟨hr, h | h⟩
  all_goals
    go_enter Tryd.func56, Tryd.ntmps56
    go_wp2
    go_ret
    exact ⟨by simp [hr]; first | done | omega, rfl⟩

theorem mul_div_le {x y : Int} (hy : 0 < y) : (4611686018427387904 / y < x) ↔ 4611686018427387904 < x * y := by
  exact Int.ediv_lt_iff_lt_mul hy
end Go.Proofs.YtcfpchcbiknehaaDoorR
