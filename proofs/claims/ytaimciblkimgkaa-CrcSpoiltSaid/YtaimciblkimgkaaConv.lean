/-
  A slice of bytes converted to a text.
-/
import Derived.Test.YtaimciblkimgkaaProg
import Derived.Test.YtaimciblkimgkaaMem
import Derived.Laws.BytesArg
import Derived.WalkKit
namespace Go.Proofs.Ytaimciblkimgkaa
open Go.RowKit

theorem bytesOf_ints (l : List UInt8) : Lib.bytesOf (l.map fun c => (c.toNat : Int)) = l := by
  unfold Lib.bytesOf
  rw [List.map_map]
  conv => rhs; rw [← List.map_id l]
  exact List.map_congr_left fun c _ => by simp
theorem Row.ints {w : World} {b off : Nat} {l : List UInt8} (h : Row w (some ⟨b, off, none⟩) (bcells l)) (i : Nat) (hi : i < l.length) :
    w.cell? ⟨b, off + i, none⟩ = some (.int .u8 ((l.map fun c => (c.toNat : Int)).getD i 0)) := by
  obtain ⟨b', off', e, hc⟩ := h.byte hi
  injection e with e; injection e with e1 e2 _; subst e1; subst e2
  rw [hc]
  simp [List.getD, hi]
theorem strOf_ints (l : List UInt8) : strOfNums (l.map fun c => (c.toNat : Int)) = ⟨l.toArray⟩ := by
  apply ByteArray.ext
  apply Array.ext'
  rw [strOfNums_data]
  exact bytesOf_ints l
theorem conv_row {w : World} {A : Option Addr} {l : List UInt8} (h : Row w A (bcells l)) (hA : A = none → l = []) (hN : l = [] → A = none ∨ ∃ b off, A = some ⟨b, off, none⟩) (n c : Nat) (hn : n = l.length) :
    (convert 22 9 (.slice A n c)).run Try.prog w = .ok (.string ⟨l.toArray⟩) w := by
  subst hn
  rcases (show A = none ∨ ∃ b off, A = some ⟨b, off, none⟩ from by
    rcases h with h | ⟨b, off, e, _⟩
    · exact hN (List.map_eq_nil_iff.1 h)
    · exact .inr ⟨b, off, e⟩) with rfl | ⟨b, off, rfl⟩
  · obtain rfl := hA rfl
    exact run_convert_bytes_nil (P := Try.prog) w 22 5 Try.underlying22 Try.underlying5 0 c 9 Try.underlying9
  · have := run_convert_bytes_arg (P := Try.prog) w 22 5 Try.underlying22 Try.underlying5 b off l.length c (l.map fun c => (c.toNat : Int)) (by simp)
      (fun i hi => h.ints i hi) 9 Try.underlying9
    exact this.trans (congrArg (fun s => Result.ok (Value.string s) w) (strOf_ints l))
theorem conv_sl {w : World} {A : Option Addr} {n c : Nat} {l : List UInt8} (h : Sl w A n c 1 (bcells l)) :
    (convert 22 9 (.slice A n c)).run Try.prog w = .ok (.string ⟨l.toArray⟩) w := by
  have hn : n = l.length := by have := h.len; rw [bcells_len] at this; omega
  rcases A with _ | a
  · have ⟨h1, h2⟩ := h.nil rfl
    have : l = [] := List.eq_nil_of_length_eq_zero (by omega)
    subst this
    exact conv_row h.row (fun _ => rfl) (fun _ => .inl rfl) n c hn
  · by_cases hl : l = []
    · subst hl
      have h0 : n = 0 := hn
      subst h0
      rw [run_convert_bytes_string w 22 9 5 (some a) 0 c Try.underlying22 Try.underlying5 Try.underlying9]
      exact run_bytesToString w a 0 c [] (run_loadCells_list w a [] (fun j v hj => by simp at hj))
    · exact conv_row h.row (fun h => by cases h) (fun h => absurd h hl) n c hn
end Go.Proofs.Ytaimciblkimgkaa
