/-
  bytes.Equal at any two slices.
-/
import Derived.Test.YtcfpchcbiknehaaDoorRWalk
namespace Go.Proofs.YtcfpchcbiknehaaDoorR
open Go.RowKit

theorem sl_in {w : World} {A : Option Addr} {n c : Nat} {l : List UInt8} (h : Sl w A n c 1 (bcells l)) : Lib.BytesIn w A n (l.map fun c => (c.toNat : Int)) := by
  have hl := h.len
  rw [bcells_len, Nat.mul_one] at hl
  intro hn
  rcases h.row with h0 | ⟨b, off, rfl, hc⟩
  · have := congrArg List.length h0; rw [bcells_len, List.length_nil] at this; omega
  · exact ⟨b, off, rfl, fun i hi => Row.ints (.inr ⟨b, off, rfl, hc⟩) i (by omega)⟩
theorem bytesEqual (A D : Option Addr) (n c m d : Nat) (l k : List UInt8) (w : World) (h : Sl w A n c 1 (bcells l)) (h' : Sl w D m d 1 (bcells k)) :
    Calls Tryd.prog 32 #[.slice A n c, .slice D m d] w fun e w' => e = .returned (.bool (decide (l = k))) ∧ w = w' := by
  have hl := h.len
  have hk := h'.len
  rw [bcells_len, Nat.mul_one] at hl hk
  refine (Tryd.bytes_Equal_all A D n c m d (l.map fun c => (c.toNat : Int)) (k.map fun c => (c.toNat : Int)) w (by simpa using hl) (by simpa using hk) (sl_in h) (sl_in h')).mono fun e w' ⟨he, hw⟩ => ⟨?_, hw.symm⟩
  rw [he, bytesOf_ints, bytesOf_ints, Bool.beq_eq_decide_eq]
end Go.Proofs.YtcfpchcbiknehaaDoorR
