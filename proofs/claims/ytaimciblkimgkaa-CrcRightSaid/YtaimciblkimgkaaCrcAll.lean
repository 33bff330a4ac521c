/-
  Layer 8: all records at the beginning, whatever stands there: plain mathematics.
-/
import Derived.Test.YtaimciblkimgkaaCrcRec
namespace Go.Proofs.Ytaimciblkimgkaa

/-- What Next tells: nothing, with an error; or a record, and as many bytes as it takes. -/
theorem next_cases (b : List UInt8) : (∃ e, e ≠ 0 ∧ nextC b = ([], 0, e)) ∨ (∃ r, nextC b = (r, 6 + r.length, 0) ∧ 1 ≤ r.length ∧ 6 + r.length ≤ b.length) := by
  unfold nextC
  split
  · exact .inl ⟨2, by decide, rfl⟩
  · split
    · exact .inl ⟨3, by decide, rfl⟩
    · split
      · exact .inl ⟨2, by decide, rfl⟩
      · rename_i h1 h2 h3
        split
        · refine .inr ⟨(b.drop 6).take (lenC b), ?_, ?_, ?_⟩
          · rw [List.length_take, List.length_drop, Nat.min_eq_left (by omega)]
          · rw [List.length_take, List.length_drop]; omega
          · rw [List.length_take, List.length_drop]; omega
        · exact .inl ⟨11, by decide, rfl⟩
theorem allC_bad {b : List UInt8} {e : Int} (h : nextC b = ([], 0, e)) (he : e ≠ 0) (f : Nat) : allC f b = ([], 0) := by
  cases f with
  | zero => rfl
  | succ f => unfold allC; rw [h]; exact if_neg he
theorem allC_good {b r : List UInt8} {k : Nat} (h : nextC b = (r, k, 0)) (f : Nat) : allC (f + 1) b = (r :: (allC f (b.drop k)).1, k + (allC f (b.drop k)).2) := by
  show (if (nextC b).2.2 = 0 then _ else _) = _
  rw [h]
  exact if_pos rfl
theorem allC_fuel : ∀ (f g : Nat) (b : List UInt8), b.length < f → b.length < g → allC f b = allC g b
  | 0, _, b, h, _ => absurd h (by omega)
  | _, 0, b, _, h => absurd h (by omega)
  | f + 1, g + 1, b, h1, h2 => by
    rcases next_cases b with ⟨e, he, hn⟩ | ⟨r, hn, h3, h4⟩
    · rw [allC_bad hn he, allC_bad hn he]
    · rw [allC_good hn, allC_good hn, allC_fuel f g (b.drop (6 + r.length)) (by rw [List.length_drop]; omega) (by rw [List.length_drop]; omega)]
/-- All records at the beginning of bytes, and how many bytes they take. -/
def allS (b : List UInt8) : List (List UInt8) × Nat := allC (b.length + 1) b
theorem allS_bad {b : List UInt8} {e : Int} (h : nextC b = ([], 0, e)) (he : e ≠ 0) : allS b = ([], 0) := allC_bad h he _
theorem allS_good {b r : List UInt8} (h : nextC b = (r, 6 + r.length, 0)) : allS b = (r :: (allS (b.drop (6 + r.length))).1, 6 + r.length + (allS (b.drop (6 + r.length))).2) := by
  unfold allS
  rw [allC_good h, allC_fuel b.length ((b.drop (6 + r.length)).length + 1) (b.drop (6 + r.length)) ?_ (by omega)]
  rw [List.length_drop]
  rcases next_cases b with ⟨e, he, hn⟩ | ⟨r', hn, h3, h4⟩
  · rw [hn] at h; exact absurd (congrArg (fun x => x.2.2) h) he
  · omega
theorem allC_len : ∀ (f : Nat) (b : List UInt8), (allC f b).1.length ≤ b.length
  | 0, _ => Nat.zero_le _
  | f + 1, b => by
    rcases next_cases b with ⟨e, he, hn⟩ | ⟨r, hn, h3, h4⟩
    · rw [allC_bad hn he]; exact Nat.zero_le _
    · rw [allC_good hn]
      have := allC_len f (b.drop (6 + r.length))
      rw [List.length_drop] at this
      simp only [List.length_cons]
      omega
theorem allS_len (b : List UInt8) : (allS b).1.length ≤ b.length := allC_len _ _
theorem allS_nil : allS [] = ([], 0) := rfl
/-- Cut anywhere, all whole ones are told. -/
theorem allS_cut (l : List (List UInt8)) (k : Nat) (h : ∀ r ∈ l, 1 ≤ r.length ∧ r.length ≤ 4096) (hk : k ≤ (putsC l).length) :
    ∃ n, n ≤ l.length ∧ allS ((putsC l).take k) = (l.take n, (putsC (l.take n)).length) ∧ (putsC (l.take n)).length ≤ k ∧ (n < l.length → k < (putsC (l.take (n + 1))).length) := by
  obtain ⟨n, h1, h2, h3⟩ := all_cut l k (k + l.length + 1) h hk (by omega)
  refine ⟨n, h1, ?_, h3⟩
  rw [← h2]
  exact allC_fuel _ _ _ (by omega) (by rw [List.length_take]; omega)
theorem allS_whole (l : List (List UInt8)) (h : ∀ r ∈ l, 1 ≤ r.length ∧ r.length ≤ 4096) : allS (putsC l) = (l, (putsC l).length) := by
  rw [← all_whole l ((putsC l).length + l.length + 1) h (by omega)]
  exact allC_fuel _ _ _ (by omega) (by omega)
end Go.Proofs.Ytaimciblkimgkaa
