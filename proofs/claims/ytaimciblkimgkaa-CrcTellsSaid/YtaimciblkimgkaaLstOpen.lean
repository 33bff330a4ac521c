/-
  An argument that is a slice of slices of bytes, opened.
-/
import Derived.Test.YtaimciblkimgkaaOpen
import Derived.Test.YtaimciblkimgkaaLstSame
import Derived.Test.YtaimciblkimgkaaPts
namespace Go.Proofs.Ytaimciblkimgkaa
open Go.ChangeShapes Go.WideShapes Go.RowKit Go.Deep

section
variable {H : Type} {enc : TypeId × Value → H} {w : World} {base : Nat} {spare : Nat → Bool} {held : Bool}
theorem open_lines {fuel : Nat} {A : Option Addr} {n c : Nat} {x : DataW H × List MemPlace} (h : DataW.trod enc Try.prog w base spare held fuel 33 [.slice A n c] = some x) :
    ∃ l : List (List UInt8), l.length = n ∧ SlS w A n c l := by
  obtain ⟨ps, h1, h2, h3⟩ := open_sl (k := 1) (R := fun p : Pt => [p.val]) (Q := fun p => Sl w p.A p.n p.c 1 (bcells p.l)) Try.underlying33 (by kernel_rfl) (by decide) (fun fuel cs x hx => by
    rcases open_slice Try.underlying22 hx with ⟨rfl, _⟩ | ⟨a, len, cap, m, f, D, Pl, rfl, _⟩
    · obtain ⟨l, hl, hs⟩ := open_bytes Try.underlying22 Try.underlying5 (by kernel_rfl) hx
      exact ⟨⟨none, 0, 0, l⟩, rfl, hs⟩
    · obtain ⟨l, hl, hs⟩ := open_bytes Try.underlying22 Try.underlying5 (by kernel_rfl) hx
      exact ⟨⟨some a, len, cap, l⟩, rfl, hs⟩) (fun _ => rfl) h
  rw [show ps.flatMap (fun p => [p.val]) = ps.map Pt.val from by rw [List.map_eq_flatMap]] at h2
  refine ⟨ps.map (·.l), by rw [List.length_map]; exact h1, ps.map Pt.val, h2, by rw [List.length_map, List.length_map], fun i l hl => ?_⟩
  rw [List.getElem?_map] at hl ⊢
  cases hp : ps[i]? with
  | none => rw [hp] at hl; cases hl
  | some p =>
    rw [hp] at hl
    injection hl with hl
    subst hl
    exact ⟨p.A, p.n, p.c, rfl, h3 p (List.mem_of_getElem? hp)⟩
end
end Go.Proofs.Ytaimciblkimgkaa
