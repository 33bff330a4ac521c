/-
  Layer 2, field: the contracts of its small functions.
-/
import Derived.Test.YtcfpchcbiknehaaDoorRShelf
import Derived.Test.YtcfpchcbiknehaaDoorRMem
import Derived.Test.YtcfpchcbiknehaaDoorRFieldMath
import Derived.Test.YtcfpchcbiknehaaDoorRNumText
import Derived.WalkKit
import Derived.WalkSmall
import Derived.WalkSpells
import Derived.IntWalk
import Derived.BigQuiet
import Derived.Deep.QuietTactic
namespace Go.Proofs.YtcfpchcbiknehaaDoorR
open Go.RowKit

theorem Row.fld {w : World} {A : Option Addr} {l : List Fld} (h : Row w A (fcells l)) {k : Nat} (hk : k < l.length) :
    ∃ b off, A = some ⟨b, off, none⟩ ∧ w.cell? ⟨b, off + k * 2, none⟩ = some (.int .i64 l[k].tag) ∧ w.cell? ⟨b, off + k * 2 + 1, none⟩ = some (.string l[k].val) := by
  rcases h with h | ⟨b, off, ha, hc⟩
  · have := congrArg List.length h; rw [fcells_len, List.length_nil] at this; omega
  · have ⟨h0, h1⟩ := fcells_get l k hk
    exact ⟨b, off, ha, hc _ _ h0, by rw [Nat.add_assoc]; exact hc _ _ h1⟩
theorem retSB {s s' : ByteArray} {b b' : Bool} (h : s = s') (g : b = b') : Ending.returned (.tuple #[.string s, .bool b]) = .returned (.tuple #[.string s', .bool b']) := by rw [h, g]

theorem field_Get (A : Option Addr) (c : Nat) (l : List Fld) (tag : Int) (w : World) (h : Row w A (fcells l)) (hl : l.length ≤ 1000000) :
    Calls Tryd.prog 59 #[.slice A l.length c, .int .i64 tag] w fun e w' => e = .returned (.tuple #[.string (getV l tag), .bool (getB l tag)]) ∧ Below w.heap.size w w' := by
  have HR := Lib.hid h; clear h
  go_enter Tryd.func59, Tryd.ntmps59
  go_wp2
  go_loopw [10] (fun i wr => ∃ k : Nat, k ≤ l.length ∧ i = .int .i64 k ∧ Hid (getV (l.drop k) tag = getV l tag ∧ getB (l.drop k) tag = getB l tag) ∧ Below w.heap.size w wr) (fun i _ => l.length - (intOf i).toNat)
  case atStart => exact ⟨0, Nat.zero_le _, rfl, ⟨rfl, rfl⟩, Below.refl _ _⟩
  case round =>
    obtain ⟨k, hk, rfl, H, hb⟩ := hrel
    by_cases hlt : k < l.length
    · obtain ⟨b, off, rfl, h0, h1⟩ := (HR.out.on hb).fld hlt
      have hz := hb.size
      have hbl := cell_lt h0
      have Hd := Lib.hid (get_drop l tag k hlt)
      generalize l[k].tag = t at *
      generalize l[k].val = s at *
      by_cases ht : t = tag
      · subst ht
        have H1 := Lib.hid (Hd.out.1 rfl); clear Hd
        go_wp2
        go_ret2
        exact ⟨retSB (H1.out.1.symm.trans H.out.1) (H1.out.2.symm.trans H.out.2), hb.alloc hz _⟩
      · have H1 := Lib.hid (Hd.out.2 ht); clear Hd
        go_wp2
        go_roundw
        case rel => exact ⟨k + 1, by omega, by go_num, ⟨H1.out.1.symm.trans H.out.1, H1.out.2.symm.trans H.out.2⟩, hb.alloc hz _⟩
        case measure => simp [intOf]; omega
    · obtain rfl : k = l.length := by omega
      go_wp2
      go_ret2
      have := H.out
      rw [List.drop_length] at this
      exact ⟨retSB this.1 this.2, hb⟩

theorem field_rightTag (t : Int) (w : World) : Calls Tryd.prog 52 #[.int .i64 t] w fun e w' => e = .returned (.bool (rightT t)) ∧ w = w' := by
  rcases (show (rightT t = true ∧ 1 ≤ t ∧ t ≤ 9999) ∨ (rightT t = false ∧ t < 1) ∨ (rightT t = false ∧ 1 ≤ t ∧ 9999 < t) by unfold rightT; simp; omega) with ⟨hr, h0, h1⟩ | ⟨hr, h0⟩ | ⟨hr, h0, h1⟩
  all_goals
    have Hr := Lib.hid hr; clear hr
    go_enter Tryd.func52, Tryd.ntmps52
    go_wp2
    go_ret
    first
      | exact ⟨retB Hr.out.symm, rfl⟩
      | exact ⟨retB (by rw [Hr.out]; simp; omega), rfl⟩
theorem field_rightValue (s : ByteArray) (hs : s.size ≤ maxLen) (w : World) : Calls Tryd.prog 53 #[.string s] w fun e w' => e = .returned (.bool (rightV s.data.toList)) ∧ w = w' := by
  unfold maxLen at hs
  rcases (show (s.toList.isEmpty = true ∧ rightV s.data.toList = false) ∨ (s.toList.isEmpty = false ∧ 256 < s.size ∧ rightV s.data.toList = false) ∨ (s.toList.isEmpty = false ∧ s.size ≤ 256 ∧ rightV s.data.toList = no1 s.data.toList) by
    rw [Lib.toList_data]
    have hl : s.data.toList.length = s.size := by simp
    cases h : s.data.toList with
    | nil => left; exact ⟨rfl, rfl⟩
    | cons a r =>
      right
      rw [h] at hl
      rcases Nat.lt_or_ge 256 s.size with h1 | h1
      · left; exact ⟨rfl, h1, by unfold rightV; rw [hl]; simp; omega⟩
      · right; exact ⟨rfl, h1, by unfold rightV; rw [hl]; simp [h1]⟩) with ⟨h0, hr⟩ | ⟨h0, h1, hr⟩ | ⟨h0, h1, hr⟩
  · have Hr := Lib.hid hr; clear hr
    go_enter Tryd.func53, Tryd.ntmps53
    go_wp2
    go_ret
    exact ⟨retB Hr.out.symm, rfl⟩
  · have Hr := Lib.hid hr; clear hr
    go_enter Tryd.func53, Tryd.ntmps53
    go_wp2
    go_ret
    exact ⟨retB Hr.out.symm, rfl⟩
  · have Hr := Lib.hid hr; clear hr
    have Hi : Hid (∀ w, Calls Tryd.prog 43 #[.string s, .int .u8 1] w fun e w' => e = .returned (.int .i64 (Lib.indexByte s.data.toList 1)) ∧ w = w') := fun w =>
      (Tryd.strings_IndexByte s 1 w).mono fun _ _ ⟨he, hw⟩ => ⟨he, hw.symm⟩
    have Hn := Lib.hid (index_no1 s.data.toList)
    generalize Lib.indexByte s.data.toList 1 = ix at *
    rcases (show (decide (ix < 0) = true ∧ ix < 0) ∨ (decide (ix < 0) = false ∧ 0 ≤ ix) by simp; omega) with ⟨d, hi⟩ | ⟨d, hi⟩
    all_goals
      go_enter Tryd.func53, Tryd.ntmps53
      go_wp2_with (go_at_call 43; refine (Hi.out _).mono ?_; rintro e w' ⟨rfl, rfl⟩)
      go_ret
      exact ⟨retB (by rw [Hr.out, Hn.out]; simp [hi]; try omega), rfl⟩
theorem field_Right (f : Fld) (hs : f.val.size ≤ maxLen) (w : World) : Calls Tryd.prog 36 #[.agg #[.int .i64 f.tag, .string f.val]] w fun e w' => e = .returned (.bool f.right) ∧ Below w.heap.size w w' := by
  obtain ⟨t, s⟩ := f
  simp only at hs
  rcases Bool.eq_false_or_eq_true (rightT t) with ht | ht
  all_goals
    have Hr := Lib.hid (show (Fld.mk t s).right = (rightT t && rightV s.data.toList) from rfl)
    rw [ht] at Hr
    have H1 : Hid (∀ w, Calls Tryd.prog 52 #[.int .i64 t] w fun e w' => e = .returned (.bool _) ∧ w = w') := fun w => by
      have := field_rightTag t w; rw [ht] at this; exact this
    clear ht
    go_enter Tryd.func36, Tryd.ntmps36
    go_wp2_with (first | (go_at_call 52; refine (H1.out _).mono ?_; rintro e w' ⟨rfl, rfl⟩) | (go_at_call 53; refine (field_rightValue _ hs _).mono ?_; rintro e w' ⟨rfl, rfl⟩))
    go_ret
    exact ⟨retB Hr.out.symm, (Below.refl _ _).alloc (Nat.le_refl _) _⟩
end Go.Proofs.YtcfpchcbiknehaaDoorR
