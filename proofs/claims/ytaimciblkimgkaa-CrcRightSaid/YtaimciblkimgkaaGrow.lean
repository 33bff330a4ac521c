/-
  bytes.Clone of any slice; slices.Grow of nil: their contracts.
-/
import Derived.Test.YtaimciblkimgkaaLst
import Derived.Test.YtaimciblkimgkaaShelf
import Derived.Lib.AppendZerosOnto
import Derived.WalkKit
import Derived.WalkSmall
import Derived.WalkSpells
import Derived.IntWalk
import Derived.Handy
import Derived.Deep.DeepMust
namespace Go.Proofs.Ytaimciblkimgkaa
open Go.RowKit

theorem infoGrow : (Try.prog.info? 5).map (fun i => (i.zero, i.size, i.bytes)) = some (some (.int .u8 0), 1, 1) := by kernel_rfl
theorem cloneAny (A : Option Addr) (n c : Nat) (l : List UInt8) (w : World) (h : Sl w A n c 1 (bcells l)) (hl : n ≤ 1000000) :
    Calls Try.prog 21 #[.slice A n c] w fun e w' => ∃ C q, e = .returned (.slice C n q) ∧ El w' C n q l ∧ Below w.heap.size w w' := by
  have hl' := h.len
  rw [bcells_len, Nat.mul_one] at hl'
  rcases A with _ | a
  · obtain ⟨rfl, rfl⟩ := h.nil rfl
    obtain rfl : l = [] := List.eq_nil_of_length_eq_zero hl'
    exact (Try.bytes_Clone_nil 0 0 w).mono fun e w' ⟨he, hw⟩ => ⟨none, 0, he, El.none_ _, by rw [hw]; exact Below.refl _ _⟩
  · refine (Try.bytes_Clone_at a n c (l.map fun c => (c.toNat : Int)) w (by simpa using hl') (by omega) (fun i hi => ?_)).mono fun e w' ⟨v, he, ho, _, hb⟩ => ?_
    · rcases h.row with h0 | ⟨b', off', hA, hc⟩
      · have := congrArg List.length h0; rw [bcells_len, List.length_nil] at this; omega
      · injection hA with hA; subst hA; rw [addr_at]; exact Row.ints h.row i (by omega)
    · have ho' : w'.ownsRow w.heap.size 5 1 v n (bcells l) := own_cast ho (by unfold bcells; rw [List.map_map]; rfl) rfl
      obtain ⟨C, q, rfl, hs⟩ := El.of_own ho'
      exact ⟨C, q, he, hs, hb⟩
set_option maxRecDepth 100000 in
set_option maxHeartbeats 2000000 in
theorem grow_nil (n : Nat) (w : World) (hn : n ≤ 2000000) :
    Calls Try.prog 23 #[.slice none 0 0, .int .i64 n] w fun e w' => ∃ v, e = .returned v ∧ w'.ownsRow w.heap.size 5 1 v 0 [] ∧ Below w.heap.size w w' := by
  by_cases h0 : n = 0
  · subst h0
    go_enter Try.func23, Try.ntmps23
    go_wp2
    go_ret
    exact ⟨_, rfl, World.ownsRow_nil _ _ _ _, Below.refl _ _⟩
  · obtain ⟨i0, hi, iz0, iz1, iz2⟩ := info_parts infoGrow
    have hG := grownCap_ge w n 0 5
    have hGm := grownCap_le_maxLen w n 0 5 (by unfold maxLen; omega)
    have hrz : ∀ ty, (Builtin.append_ #[22, 3] ty #[.slice none 0 0, .int .i64 (n : Int)]).run Try.prog w =
        .ok (.slice (some ⟨w.heap.size, 0, none⟩) n (grownCap w n 0 5)) (w.drew.alloc (.cells ((#[] : Array Value) ++ Builtin.zeroCells (Value.int .u8 0).cells n ++ Builtin.zeroCells (Value.int .u8 0).cells (grownCap w n 0 5 - n)) 5)) := fun ty => by
      have h := Lib.run_append_grow_zeros w 22 3 ty 5 i0 (.int .u8 0) .i64 .i64 Try.underlying22 Try.underlying3 hi iz0 none 0 0 [] (run_firstCells_none w.drew i0.size 0 0 0) n (by omega) (by omega) (by omega) (by omega)
        (by rw [iz2]; omega) (by rw [Nat.zero_add, iz2]; exact growslice_fits (by omega) (by omega))
      rw [Nat.zero_add] at h
      exact h
    have own := World.ownsRow_made (base := w.heap.size) (e := 5) (size := 1) w.drew ((#[] : Array Value) ++ Builtin.zeroCells (Value.int .u8 0).cells n ++ Builtin.zeroCells (Value.int .u8 0).cells (grownCap w n 0 5 - n)) (grownCap w n 0 5) (Nat.le_refl _) hGm
      (by rw [Array.size_append, Array.size_append, oneCell_zeros, oneCell_zeros]; simp; omega)
    have hB := (Below.refl w.heap.size w).drew.alloc (Nat.le_refl _) (.cells ((#[] : Array Value) ++ Builtin.zeroCells (Value.int .u8 0).cells n ++ Builtin.zeroCells (Value.int .u8 0).cells (grownCap w n 0 5 - n)) 5)
    have hn0 : (n : Int) > 0 := by omega
    unfold maxLen at hGm
    generalize ((#[] : Array Value) ++ Builtin.zeroCells (Value.int .u8 0).cells n ++ Builtin.zeroCells (Value.int .u8 0).cells (grownCap w n 0 5 - n)) = cs at *
    generalize grownCap w n 0 5 = G at *
    clear hi iz0 iz1 iz2
    go_enter Try.func23, Try.ntmps23
    go_wp2_with (at_builtin; refine Lib.wpList_append_run _ rfl _ _ _ _ rfl _ _ rfl rfl _ _ (hrz _) ?_)
    all_goals
      go_ret
      exact ⟨_, rfl, own, hB⟩
end Go.Proofs.Ytaimciblkimgkaa
