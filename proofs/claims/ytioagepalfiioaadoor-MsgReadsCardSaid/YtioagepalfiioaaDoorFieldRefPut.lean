/-
  Layer 2: the document's answer for Put: its contract.
-/
import Derived.Test.YtioagepalfiioaaDoorFieldRef
import Derived.Lib.ConvBytes
namespace Go.Proofs.YtioagepalfiioaaDoor
open Go.RowKit

theorem below_bytes {B : Nat} {a w : World} (h : Below B a w) (hB : B ≤ w.heap.size) (e : TypeId) (s : ByteArray) : Below B a (Lib.bytesWorld w e s) :=
  ⟨h.os, h.tape, h.output, by rw [Lib.bytesWorld_size]; exact Nat.le_succ_of_le h.size, fun k hk => (Lib.bytesWorld_at_old w e s k (by omega)).trans (h.block k hk)⟩
theorem bytes_news (w : World) (e : TypeId) (s : ByteArray) (j : Nat) (u : Value) (hu : (bcells s.data.toList)[j]? = some u) : (Lib.bytesWorld w e s).cell? ((⟨w.heap.size, 0, none⟩ : Addr).add j) = some u := by
  rw [addr_at, Nat.zero_add]
  have hj : j < s.data.toList.length := by
    rcases Nat.lt_or_ge j s.data.toList.length with h | h
    · exact h
    · rw [List.getElem?_eq_none (by rw [bcells_len]; exact h)] at hu; cases hu
  rw [Lib.bytesWorld_cell w e s j (by simpa using hj), ← hu, bcells_get hj, List.getD, List.getElem?_eq_getElem hj]
  rfl
theorem bcells_one (l : List UInt8) : ∀ u ∈ bcells l, u.oneCell' = true := by
  intro u hu
  simp only [bcells, List.mem_map] at hu
  obtain ⟨_, _, rfl⟩ := hu
  rfl
theorem box_news (w : World) (v : Value) (t : TypeId) (j : Nat) (u : Value) (hu : [v][j]? = some u) : (w.alloc (.cells #[v] t)).cell? ((⟨w.heap.size, 0, none⟩ : Addr).add j) = some u := by
  match j, hu with
  | 0, hu => cases hu; exact (Box.new w #[v] t).cell 0
theorem one_cell1 (k : IntKind) (n : Int) : ∀ u ∈ [Value.int k n], u.oneCell' = true := by intro u hu; simp at hu; subst hu; rfl
theorem runBytes (w : World) (s : ByteArray) : (convert 9 22 (.string s)).run Tryd.prog w = .ok (.slice (some ⟨w.heap.size, 0, none⟩) s.size (grownCap w s.size 0 5)) (Lib.bytesWorld w 5 s) :=
  Lib.run_convert_string_bytes w 9 22 5 s Tryd.underlying9 Tryd.underlying22 Tryd.underlying5

end Go.Proofs.YtioagepalfiioaaDoor
