/-
  Layer 3, frame: a body's frame, as the document's own way puts it.
-/
import Derived.Test.YtacaipnjedfdoaaDoorFrmPut
import Derived.Test.YtacaipnjedfdoaaDoorFieldRefPut
namespace Go.Proofs.YtacaipnjedfdoaaDoor
open Go.RowKit

theorem showL_small {n : Nat} (h : n ≤ 8000) : showL (n : Int) = Lib.decDigits n := by
  unfold showL
  rw [if_pos (right_t (by omega) (by omega)), itoa_nat]
theorem dig3_cells (s : Nat) (hs : s < 256) : (#[.int .u8 49, .int .u8 48, .int .u8 61, .int .u8 (48 + (s : Int) / 100), .int .u8 (48 + (s : Int) / 10 % 10), .int .u8 (48 + (s : Int) % 10), .int .u8 1] : Array Value).toList = bcells ([49, 48, 61] ++ dig3 s ++ [1]) := by
  have h : ∀ k, k < 10 → ((UInt8.ofNat (48 + k)).toNat : Int) = 48 + (k : Int) := fun k hk => by rw [digit_nat k hk]; omega
  show _ = (([49, 48, 61] ++ [UInt8.ofNat (48 + s / 100), UInt8.ofNat (48 + s / 10 % 10), UInt8.ofNat (48 + s % 10)] ++ [1]) : List UInt8).map fun c => Value.int .u8 c.toNat
  simp only [List.map_append, List.map_cons, List.map_nil, h (s / 100) (by omega), h (s / 10 % 10) (by omega), h (s % 10) (by omega)]
  have e1 : ((s / 100 : Nat) : Int) = (s : Int) / 100 := by omega
  have e2 : ((s / 10 % 10 : Nat) : Int) = (s : Int) / 10 % 10 := by omega
  have e3 : ((s % 10 : Nat) : Int) = (s : Int) % 10 := by omega
  rw [e1, e2, e3]
  rfl
end Go.Proofs.YtacaipnjedfdoaaDoor
