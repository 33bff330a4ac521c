/-
  Layer 2's laws: the walk of FieldReads.
-/
import Derived.Test.YtbkihakccojknaaDoorLaw02
namespace Go.Proofs.YtbkihakccojknaaDoor
open Go.RowKit

theorem Sl.cutTo {w : World} {A : Option Addr} {n c m : Nat} {l : List UInt8} (h : Sl w A n c 1 (bcells l)) (hl : l.length = n) (hm : m ≤ n) : Sl w A m c 1 (bcells (l.take m)) :=
  ⟨by rw [bcells_len]; simp; omega, by have := h.le; omega, h.cap, fun e => ⟨by have := (h.nil e).1; omega, (h.nil e).2⟩, by rw [← bcells_take]; exact h.row.take m⟩
set_option maxHeartbeats 1000000 in
theorem walk_FieldReads (A : Option Addr) (n c : Nat) (bs : List UInt8) (hn : bs.length = n) (w : World) (h : Sl w A n c 1 (bcells bs)) (hctx : FCtx w) :
    Calls Tryd.prog 4 #[.slice A n c] w fun e w' => e = .returned (.bool true) ∧ Below w.heap.size w w' := by
  obtain ⟨ys, e, hs, hl⟩ : ∃ ys : List UInt8, (min (n : Int) 5000).toNat = ys.length ∧ Sl w A ys.length c 1 (bcells ys) ∧ ys.length ≤ 5000 := by
    refine ⟨bs.take 5000, by simp [hn]; omega, ?_, by simp; omega⟩
    have := h.cutTo (m := (bs.take 5000).length) hn (by simp; omega)
    rwa [show bs.take (bs.take 5000).length = bs.take 5000 by rw [List.length_take, ← List.take_eq_take_min]] at this
  have hcm : c ≤ 9223372036854775807 := by have := h.cap; unfold maxLen at this; omega
  have hnc := h.le
  have hyc := hs.le
  have HS := Lib.hid hs
  clear h hs hn
  go_enter Tryd.func4, Tryd.ntmps4
  go_wp2_with (first | (go_at_call 7; refine (awake02 _ hctx).mono ?_; rintro e w1 ⟨rfl, hb1⟩))
  refine (field_Parse A c ys _ (HS.out.on hb1) (by omega) (hctx.on hb1)).mono ?_
  rintro e w2 ⟨A2, n2, c2, rfl, hs2, hb2, _⟩
  have hB2 : Below w.heap.size w w2 := hb1.trans (hb2.mono hb1.size)
  go_wp2_with fail
  refine (ref_FParse A c ys _ (HS.out.on hB2) (by omega)).mono ?_
  rintro e w3 ⟨A3, n3, c3, rfl, hs3, hb3, _⟩
  have hB3 : Below w.heap.size w w3 := hB2.trans (hb3.mono hB2.size)
  have hl2 := hs2.len
  have hl3 := hs3.len
  rw [fcells_len] at hl2 hl3
  have hrl : (resL (parseF ys)).length ≤ 1000000 := by
    cases hr : parseF ys with
    | error e => simp [resL]
    | ok l =>
      have : (parseL ys.length 0 ys) = .ok l := by unfold parseF at hr; rw [if_neg (by omega)] at hr; exact hr
      have := (parseL_ok (Nat.le_refl _) (by omega) this).2.2
      show l.length ≤ _; omega
  obtain rfl : n2 = (resL (parseF ys)).length := by omega
  obtain rfl : n3 = (resL (parseF ys)).length := by omega
  have hsame := ref_Same A2 A3 c2 c3 (resL (parseF ys)) w3 (hs2.row.on hb3) hs3.row hrl
  clear hs2 hs3 hl2 hl3 hrl
  generalize resE (parseF ys) = x at *
  generalize (resL (parseF ys)).length = m at *
  go_wp2_with (go_at_call 19; refine hsame.mono ?_; rintro e w4 ⟨rfl, hb4⟩)
  go_ret
  exact ⟨rfl, hB3.trans (hb4.mono hB3.size)⟩
end Go.Proofs.YtbkihakccojknaaDoor
