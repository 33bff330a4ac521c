/-
  Layer 1's laws: the walks of NumSums and (in part) NumBack.
-/
import Derived.Test.YtolcadlbhocboaaDoorLaw01
import Derived.Test.YtolcadlbhocboaaDoorRefSum
namespace Go.Proofs.YtolcadlbhocboaaDoor
open Go.RowKit

theorem cell_lt {w : World} {b o : Nat} {v : Value} (h : w.cell? ⟨b, o, none⟩ = some v) : b < w.heap.size := by
  rcases Nat.lt_or_ge b w.heap.size with h' | h'
  · exact h'
  · unfold World.cell? at h; simp [Array.getElem?_eq_none h'] at h
theorem Ints.on {k : IntKind} {w w' : World} {a : Option Addr} {zs : List Int} (h : Ints k w a zs) (hb : Below w.heap.size w w') : Ints k w' a zs := by
  rcases h with h | ⟨b, off, ha, hc⟩
  · exact .inl h
  · exact .inr ⟨b, off, ha, fun i hi => by rw [hb.cell (p := ⟨b, off + i, none⟩) (cell_lt (hc i hi))]; exact hc i hi⟩
theorem Ints.take {k : IntKind} {w : World} {a : Option Addr} {zs : List Int} (h : Ints k w a zs) (n : Nat) : Ints k w a (zs.take n) := by
  rcases h with h | ⟨b, off, ha, hc⟩
  · subst h; exact .inl (by simp)
  · refine .inr ⟨b, off, ha, fun i hi => ?_⟩
    have hi' : i < n ∧ i < zs.length := by simp at hi; omega
    rw [hc i hi'.2]
    simp [List.getD, List.getElem?_take, hi'.1]

set_option maxHeartbeats 400000 in
theorem walk_NumSums (a : Option Addr) (n c : Nat) (zs : List Int) (hz : zs.length = n) (hc : n ≤ c) (hm : c ≤ maxLen) (w : World) (hI : Ints .i64 w a zs) (hw : ∀ n ∈ zs, -9223372036854775808 ≤ n ∧ n ≤ 9223372036854775807) (hctx : Ctx w) :
    Calls Tryd.prog 4 #[.slice a n c] w fun e w' => e = .returned (.bool true) ∧ Below w.heap.size w w' := by
  unfold maxLen at hm
  obtain ⟨ys, e, hI, hy, hl⟩ : ∃ ys : List Int, (min (n : Int) 1000).toNat = ys.length ∧ Ints .i64 w a ys ∧ (∀ n ∈ ys, -9223372036854775808 ≤ n ∧ n ≤ 9223372036854775807) ∧ ys.length ≤ 1000000 :=
    ⟨zs.take 1000, by simp; omega, hI.take 1000, fun n hn => hw n (List.mem_of_mem_take hn), by simp; omega⟩
  clear hw hz
  go_enter Tryd.func4, Tryd.ntmps4
  go_wp2_with (first | (go_at_call 9; refine (awake01 _ hctx).mono ?_; rintro e w' ⟨rfl, hb⟩) | (go_at_call 16; refine (num_Sum _ _ ys _ (hI.on hb) hy hl).mono ?_; rintro e w' ⟨rfl, rfl⟩) | (go_at_call 17; refine (ref_Sum _ _ ys _ (hI.on hb) hy hl).mono ?_; rintro e w' ⟨rfl, rfl⟩))
  go_ret
  exact ⟨rfl, hb⟩
end Go.Proofs.YtolcadlbhocboaaDoor
