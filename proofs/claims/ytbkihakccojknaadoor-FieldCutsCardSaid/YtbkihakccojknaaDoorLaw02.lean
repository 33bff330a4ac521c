/-
  Layer 2's laws: what all of them begin with, and their walks.
-/
import Derived.Test.YtbkihakccojknaaDoorFieldSame
namespace Go.Proofs.YtbkihakccojknaaDoor
open Go.RowKit

def l2 : List Fld := [⟨35, ⟨#[65]⟩⟩, ⟨34, ⟨#[55]⟩⟩]
theorem show35 : showL 35 = [51, 53] := by
  have : Lib.itoa 35 = Lib.decDigits 35 := by rw [Lib.itoa, if_neg (by omega)]; rfl
  unfold showL; rw [if_pos (by decide), this, decDigits_big (by omega), decDigits_small (by omega)]; rfl
theorem show34 : showL 34 = [51, 52] := by
  have : Lib.itoa 34 = Lib.decDigits 34 := by rw [Lib.itoa, if_neg (by omega)]; rfl
  unfold showL; rw [if_pos (by decide), this, decDigits_big (by omega), decDigits_small (by omega)]; rfl
theorem show7 : showL 7 = [55] := by
  have : Lib.itoa 7 = Lib.decDigits 7 := by rw [Lib.itoa, if_neg (by omega)]; rfl
  unfold showL; rw [if_pos (by decide), this, decDigits_small (by omega)]; rfl
theorem l2_put : putL l2 = [51, 53, 61, 65, 1, 51, 52, 61, 55, 1] := by
  simp only [l2, putL, List.flatMap_cons, List.flatMap_nil, fldB, show35, show34]; rfl
theorem l2_right : l2.all Fld.right = true := by decide
theorem l2_get : getV l2 34 = ⟨#[55]⟩ ∧ getB l2 34 = true := by simp [l2, getV, getB]
theorem l2_num : numFV l2 34 = 7 ∧ numFB l2 34 = true := by
  have ⟨e1, e2⟩ := parse_show (n := 7) (by decide)
  rw [show7] at e1 e2
  simp [numFV, numFB, l2_get, e1, e2]
theorem Row.box {w : World} {g : Nat} {t : TypeId} {cs : Array Value} {xs : List Value} (h : Box w g t cs) (hx : cs.toList = xs) : Row w (some ⟨g, 0, none⟩) xs := by
  subst hx
  exact .inr ⟨g, 0, rfl, fun i u hu => by rw [Nat.zero_add, h.cell]; simpa using hu⟩
set_option maxHeartbeats 1000000 in
theorem awake02 (w : World) (hctx : FCtx w) : Calls Tryd.prog 7 #[] w fun e w' => e = .returned (.bool true) ∧ Below w.heap.size w w' := by
  have hput : Hid (∀ w A c, Row w A (fcells l2) → FCtx w → Calls Tryd.prog 9 #[.slice A 2 c] w fun e w' => ∃ A c, e = .returned (.tuple #[.slice (some A) 10 c, .int .i64 0]) ∧ Sl w' (some A) 10 c 1 (bcells (putL l2)) ∧ Below w.heap.size w w') := fun w A c h hc =>
    (field_Put A c l2 w h (by intro f hf; simp [l2] at hf; rcases hf with rfl | rfl <;> decide) (by decide) hc).mono fun e w' ⟨A', n', c', he, hs, hb, _⟩ => by
      have ⟨e1, e2⟩ := putE_ok (l := l2) (by decide) l2_right
      rw [e2] at hs
      have hn : n' = 10 := by have := hs.len; rw [bcells_len, l2_put] at this; simpa using this.symm
      subst hn
      cases A' with
      | none => have := (hs.nil rfl).1; omega
      | some a => exact ⟨a, c', by rw [he, e1], hs, hb⟩
  have hpar : Hid (∀ w A c, Sl w A 10 c 1 (bcells (putL l2)) → FCtx w → Calls Tryd.prog 17 #[.slice A 10 c] w fun e w' => ∃ A c, e = .returned (.tuple #[.slice A 2 c, .int .i64 0]) ∧ Row w' A (fcells l2) ∧ Below w.heap.size w w') := fun w A c h hc => by
    have h10 : (putL l2).length = 10 := by rw [l2_put]; rfl
    have := field_Parse A c (putL l2) w (by rw [h10]; exact h) (by rw [h10]; omega) hc
    rw [h10] at this
    refine this.mono fun e w' ⟨A', n', c', he, hs, hb, _⟩ => ?_
    rw [parseF_put l2_right (by decide)] at he hs
    have hn : n' = 2 := by have := hs.len; rw [fcells_len] at this; simp [l2, resL] at this; omega
    subst hn
    exact ⟨A', c', he, hs.row, hb⟩
  have hnum : Hid (∀ w A c, Row w A (fcells l2) → FCtx w → Calls Tryd.prog 13 #[.slice A 2 c, .int .i64 34] w fun e w' => e = .returned (.tuple #[.int .i64 7, .bool true]) ∧ Below w.heap.size w w') := fun w A c h hc =>
    (field_Num A c l2 34 w h (by decide) (by rw [l2_get.1]; decide) hc).mono fun e w' ⟨he, hb⟩ => ⟨by rw [he, l2_num.1, l2_num.2], hb⟩
  go_enter Tryd.func7, Tryd.ntmps7
  go_wp2_with fail
  refine (hput.out _ _ _ (Row.box (Box.new w #[.int .i64 35, .string ⟨#[65]⟩, .int .i64 34, .string ⟨#[55]⟩] 39) rfl) (hctx.on ((Below.refl _ _).alloc (Nat.le_refl _) _))).mono ?_
  rintro e w1 ⟨A1, c1, rfl, hsl, hb1⟩
  (obtain ⟨hc1, hf1⟩ := bcell hb1; have hz1 := hb1.size; (try simp only [World.size_alloc, World.size_setCell, World.size_drew] at hz1); have hB1 : Below w.heap.size w w1 := Below.trans (by go_grown) (hb1.mono (by go_size)))
  go_wp2_with fail
  refine (hpar.out _ _ _ hsl (hctx.on hB1)).mono ?_
  rintro e w2 ⟨A2, c2, rfl, hrow, hb2⟩
  (obtain ⟨hc2, hf2⟩ := bcell hb2; have hz2 := hb2.size; (try simp only [World.size_alloc, World.size_setCell, World.size_drew] at hz2); have hB2 : Below w.heap.size w w2 := Below.trans (by go_grown) (hb2.mono (by go_size)))
  go_wp2_with fail
  refine (hnum.out _ _ _ hrow (hctx.on hB2)).mono ?_
  rintro e w3 ⟨rfl, hb3⟩
  have hB3 : Below w.heap.size w w3 := hB2.trans (hb3.mono hB2.size)
  have hcv : (convert 25 9 (.slice (some A1) 10 c1)).run Tryd.prog w3 = .ok (.string ⟨#[51, 53, 61, 65, 1, 51, 52, 61, 55, 1]⟩) w3 := by
    have h1 := ((hsl.on hb2).on hb3).row
    rw [l2_put] at h1
    exact conv_row h1 (fun h => by cases h) (fun h => by cases h) 10 c1 rfl
  clear hc1 hf1 hc2 hf2 hsl hrow hput hpar hnum hb1 hb2 hb3 hz1 hz2
  go_wp2
  go_ret
  exact ⟨rfl, hB3⟩
end Go.Proofs.YtbkihakccojknaaDoor
