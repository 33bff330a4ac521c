/-
  Layer 2, field: the contracts of its small functions.
-/
import Derived.Test.YtacaipnjedfdoaaDoorShelf
import Derived.Test.YtacaipnjedfdoaaDoorMem
import Derived.Test.YtacaipnjedfdoaaDoorFieldMath
import Derived.Test.YtacaipnjedfdoaaDoorNumText
import Derived.WalkKit
import Derived.WalkSmall
import Derived.WalkSpells
import Derived.IntWalk
import Derived.BigQuiet
import Derived.Deep.QuietTactic
namespace Go.Proofs.YtacaipnjedfdoaaDoor
open Go.RowKit

theorem Row.fld {w : World} {A : Option Addr} {l : List Fld} (h : Row w A (fcells l)) {k : Nat} (hk : k < l.length) :
    ∃ b off, A = some ⟨b, off, none⟩ ∧ w.cell? ⟨b, off + k * 2, none⟩ = some (.int .i64 l[k].tag) ∧ w.cell? ⟨b, off + k * 2 + 1, none⟩ = some (.string l[k].val) := by
  rcases h with h | ⟨b, off, ha, hc⟩
  · have := congrArg List.length h; rw [fcells_len, List.length_nil] at this; omega
  · have ⟨h0, h1⟩ := fcells_get l k hk
    exact ⟨b, off, ha, hc _ _ h0, by rw [Nat.add_assoc]; exact hc _ _ h1⟩
theorem retSB {s s' : ByteArray} {b b' : Bool} (h : s = s') (g : b = b') : Ending.returned (.tuple #[.string s, .bool b]) = .returned (.tuple #[.string s', .bool b']) := by rw [h, g]

theorem field_rightTag (t : Int) (w : World) : Calls Tryd.prog 49 #[.int .i64 t] w fun e w' => e = .returned (.bool (rightT t)) ∧ w = w' := by
  rcases (show (rightT t = true ∧ 1 ≤ t ∧ t ≤ 9999) ∨ (rightT t = false ∧ t < 1) ∨ (rightT t = false ∧ 1 ≤ t ∧ 9999 < t) by unfold rightT; simp; omega) with ⟨hr, h0, h1⟩ | ⟨hr, h0⟩ | ⟨hr, h0, h1⟩
  all_goals
    have Hr := Lib.hid hr; clear hr
    go_enter Tryd.func49, Tryd.ntmps49
    go_wp2
    go_ret
    first
      | exact ⟨retB Hr.out.symm, rfl⟩
      | exact ⟨retB (by rw [Hr.out]; simp; omega), rfl⟩
theorem field_rightValue (s : ByteArray) (hs : s.size ≤ maxLen) (w : World) : Calls Tryd.prog 50 #[.string s] w fun e w' => e = .returned (.bool (rightV s.data.toList)) ∧ w = w' := by
  unfold maxLen at hs
  rcases (show (s.toList.isEmpty = true ∧ rightV s.data.toList = false) ∨ (s.toList.isEmpty = false ∧ 256 < s.size ∧ rightV s.data.toList = false) ∨ (s.toList.isEmpty = false ∧ s.size ≤ 256 ∧ rightV s.data.toList = no1 s.data.toList) by
    rw [Lib.toList_data]
    have hl : s.data.toList.length = s.size := by simp
    cases h : s.data.toList with
    | nil => left; exact ⟨rfl, rfl⟩
    | cons a r =>
      right
      rw [h] at hl
      rcases Nat.lt_or_ge 256 s.size with h1 | h1
      · left; exact ⟨rfl, h1, by unfold rightV; rw [hl]; simp; omega⟩
      · right; exact ⟨rfl, h1, by unfold rightV; rw [hl]; simp [h1]⟩) with ⟨h0, hr⟩ | ⟨h0, h1, hr⟩ | ⟨h0, h1, hr⟩
  · have Hr := Lib.hid hr; clear hr
    go_enter Tryd.func50, Tryd.ntmps50
    go_wp2
    go_ret
    exact ⟨retB Hr.out.symm, rfl⟩
  · have Hr := Lib.hid hr; clear hr
    go_enter Tryd.func50, Tryd.ntmps50
    go_wp2
    go_ret
    exact ⟨retB Hr.out.symm, rfl⟩
  · have Hr := Lib.hid hr; clear hr
    have Hi : Hid (∀ w, Calls Tryd.prog 69 #[.string s, .int .u8 1] w fun e w' => e = .returned (.int .i64 (Lib.indexByte s.data.toList 1)) ∧ w = w') := fun w =>
      (Tryd.strings_IndexByte s 1 w).mono fun _ _ ⟨he, hw⟩ => ⟨he, hw.symm⟩
    have Hn := Lib.hid (index_no1 s.data.toList)
    generalize Lib.indexByte s.data.toList 1 = ix at *
    rcases (show (decide (ix < 0) = true ∧ ix < 0) ∨ (decide (ix < 0) = false ∧ 0 ≤ ix) by simp; omega) with ⟨d, hi⟩ | ⟨d, hi⟩
    all_goals
      go_enter Tryd.func50, Tryd.ntmps50
      go_wp2_with (go_at_call 69; refine (Hi.out _).mono ?_; rintro e w' ⟨rfl, rfl⟩)
      go_ret
      exact ⟨retB (by rw [Hr.out, Hn.out]; simp [hi]; try omega), rfl⟩
end Go.Proofs.YtacaipnjedfdoaaDoor
