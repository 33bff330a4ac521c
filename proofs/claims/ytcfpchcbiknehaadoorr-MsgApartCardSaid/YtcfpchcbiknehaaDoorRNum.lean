/-
  Layer 1, num: the contracts of its functions.
-/
import Derived.Test.YtcfpchcbiknehaaDoorRShelf
import Derived.Test.YtcfpchcbiknehaaDoorRNumMath
import Derived.WalkKit
import Derived.WalkSmall
import Derived.Lib.Hide
import Derived.Deep.QuietTactic
import Derived.Deep.RegionWith
import Derived.IntWalk
import Derived.BigQuiet
namespace Go.Proofs.YtcfpchcbiknehaaDoorR
open Go.RowKit

theorem ret2 {k : IntKind} {a a' : Int} {b b' : Bool} (h : a = a') (g : b = b') : Ending.returned (.tuple #[.int k a, .bool b]) = .returned (.tuple #[.int k a', .bool b']) := by rw [h, g]

theorem num_Right (n : Int) (w : World) : Calls Tryd.prog 54 #[.int .i64 n] w fun e w' => e = .returned (.bool (right n)) ∧ w = w' := by
  rcases right_cases n with ⟨hr, h0, h1⟩ | ⟨hr, h | h⟩
  all_goals
    go_enter Tryd.func54, Tryd.ntmps54
    go_wp2
    go_ret
    exact ⟨by simp [hr]; first | done | omega, rfl⟩
end Go.Proofs.YtcfpchcbiknehaaDoorR
