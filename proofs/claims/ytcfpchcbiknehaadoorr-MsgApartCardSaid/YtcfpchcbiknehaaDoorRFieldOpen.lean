/-
  Layer 2: an argument that is a slice of fields, opened; what the walks lean on, from the world's shape.
-/
import Derived.Test.YtcfpchcbiknehaaDoorROpen
import Derived.Test.YtcfpchcbiknehaaDoorRFrame
import Derived.Test.YtcfpchcbiknehaaDoorRFieldRead
import Derived.HandedShaped
namespace Go.Proofs.YtcfpchcbiknehaaDoorR
open Go.ChangeShapes Go.WideShapes Go.RowKit Go.Deep
section
variable {H : Type} {enc : TypeId × Value → H} {w : World} {base : Nat} {spare : Nat → Bool} {held : Bool}
def FldIn (f : Fld) : Prop := (-9223372036854775808 ≤ f.tag ∧ f.tag ≤ 9223372036854775807) ∧ f.val.size ≤ maxLen
theorem trod_fld {fuel : Nat} {cs : List Value} {x : DataW H × List MemPlace} (h : DataW.trod enc Tryd.prog w base spare held fuel 42 cs = some x) : ∃ f : Fld, cs = f.cells ∧ FldIn f := by
  obtain ⟨n, hl, hf⟩ := trod_cells Tryd.underlying42 (by kernel_rfl) (by kernel_rfl) h
  obtain ⟨a, b, rfl⟩ := list2 (l := cs) hl
  obtain ⟨v0, y0, e0, g0⟩ := hf 0 _ rfl
  obtain ⟨v1, y1, e1, g1⟩ := hf 1 _ rfl
  injection e0 with e0; subst e0
  injection e1 with e1; subst e1
  obtain ⟨t, ht, _, hw⟩ := DataW.trod_int Tryd.underlying3 g0
  obtain ⟨s, hs, _, hz⟩ := DataW.trod_string Tryd.underlying9 g1
  injection ht with ht; subst ht
  injection hs with hs; subst hs
  exact ⟨⟨t, s⟩, rfl, by simpa [Lit.wf, IntKind.min, IntKind.max, IntKind.signed, IntKind.bits] using hw, hz⟩
theorem open_flds {fuel : Nat} {A : Option Addr} {n c : Nat} {x : DataW H × List MemPlace} (h : DataW.trod enc Tryd.prog w base spare held fuel 38 [.slice A n c] = some x) :
    ∃ l : List Fld, l.length = n ∧ Sl w A n c 2 (fcells l) ∧ ∀ f ∈ l, FldIn f :=
  open_sl Tryd.underlying38 (by kernel_rfl) (by omega) (fun _ _ _ hx => trod_fld hx) (fun _ => rfl) h
end
theorem fctx_of {W : World} (hL : laidMetH Tryd.prog laidRows W) (h : W.ShapedOpen Tryd.prog) : FCtx W := by
  have hm := Go.Proofs.cell_of_shapedOpen_int (P := Tryd.prog) (zero := #[.int .i64 0]) (g := 0) (t := 3) h (of_decide_eq_true (by kernel_rfl)) (by kernel_rfl) rfl (by kernel_rfl) (by kernel_rfl) Tryd.underlying3
  obtain ⟨m, hm⟩ := hm
  exact ⟨ctx_of_laid hL, cell_lt hm, m, hm⟩
end Go.Proofs.YtcfpchcbiknehaaDoorR
