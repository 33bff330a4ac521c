/-
  Layer 7: an argument that is a slice of bools, opened.
-/
import Derived.Test.YtblkdmbkkimbpaaLaw07f0
import Derived.Test.YtblkdmbkkimbpaaOpen
namespace Go.Proofs.Ytblkdmbkkimbpaa
open Go.ChangeShapes Go.WideShapes Go.RowKit Go.Deep

section
variable {H : Type} {enc : TypeId × Value → H} {w : World} {base : Nat} {spare : Nat → Bool} {held : Bool}
theorem open_bools {fuel : Nat} {A : Option Addr} {n c : Nat} {x : DataW H × List MemPlace} (h : DataW.trod enc Try.prog w base spare held fuel 22 [.slice A n c] = some x) :
    ∃ l : List Bool, l.length = n ∧ Sl w A n c 1 (boolcells l) := by
  obtain ⟨l, h1, h2, _⟩ := open_sl (k := 1) (R := fun b => [Value.bool b]) (Q := fun _ => True) Try.underlying22 (by kernel_rfl) (by decide) (fun _ _ _ hx => by
    obtain ⟨b, e, _⟩ := DataW.trod_bool Try.underlying4 hx
    exact ⟨b, e, trivial⟩) (fun _ => rfl) h
  exact ⟨l, h1, h2⟩
end
end Go.Proofs.Ytblkdmbkkimbpaa
