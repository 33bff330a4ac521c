/-
  Layer 6, reseq: numbers far ahead, one behind the other: plain mathematics.
-/
import Derived.Test.YtblkdmbkkimbpaaReseqOrd2
namespace Go.Proofs.Ytblkdmbkkimbpaa

def seqN (f : Int) (i : Nat) : List Int := (List.range i).map fun (j : Nat) => f + (j : Int)
theorem seqN_len (f : Int) (i : Nat) : (seqN f i).length = i := by simp [seqN]
theorem seqN_succ (f : Int) (i : Nat) : seqN f (i + 1) = seqN f i ++ [f + (i : Int)] := by simp [seqN, List.range_succ]
theorem seqN_mem {f n : Int} {i : Nat} : n ∈ seqN f i ↔ f ≤ n ∧ n < f + i := by
  unfold seqN
  rw [List.mem_map]
  constructor
  · rintro ⟨j, hj, rfl⟩
    have := List.mem_range.1 hj
    omega
  · intro h
    exact ⟨(n - f).toNat, List.mem_range.2 (by omega), by omega⟩
theorem insN_end (n : Int) : ∀ l : List Int, (∀ m ∈ l, m < n) → insN n l = l ++ [n]
  | [], _ => rfl
  | y :: r, h => by
    have h1 := h y (List.mem_cons_self ..)
    unfold insN
    rw [if_neg (by omega), insN_end n r (fun m hm => h m (List.mem_cons_of_mem _ hm))]; rfl
theorem risN_end : ∀ (l : List Int) (lo n : Int), risN lo l = true → (∀ m ∈ l, m < n) → lo < n → risN lo (l ++ [n]) = true
  | [], lo, n, _, _, h => by rw [List.nil_append, risN_cons]; exact ⟨h, rfl⟩
  | y :: r, lo, n, hr, h, _ => by
    rw [risN_cons] at hr
    rw [List.cons_append, risN_cons]
    exact ⟨hr.1, risN_end r y n hr.2 (fun m hm => h m (List.mem_cons_of_mem _ hm)) (h y (List.mem_cons_self ..))⟩
theorem seqN_ris (f : Int) : ∀ i : Nat, risN (f - 1) (seqN f i) = true
  | 0 => rfl
  | i + 1 => by rw [seqN_succ]; exact risN_end _ _ _ (seqN_ris f i) (fun m hm => (seqN_mem.1 hm).2) (by omega)
theorem run_seqN : ∀ (i : Nat) (f : Int), run f (seqN f i) = (seqN f i, f + i, [])
  | 0, f => by simp [seqN, run]
  | i + 1, f => by
    have hs : seqN f (i + 1) = f :: seqN (f + 1) i := by
      unfold seqN
      rw [List.range_succ_eq_map, List.map_cons, List.map_map]
      congr 1
      · simp
      · apply List.map_congr_left
        intro j _
        show f + ((j + 1 : Nat) : Int) = f + 1 + (j : Int)
        omega
    rw [hs, run, if_pos rfl, run_seqN i (f + 1)]
    simp only [Prod.mk.injEq, true_and, and_true]
    omega
/-- There is room for 64. -/
theorem room_keep {k : Int} (hk : 1 ≤ k ∧ k ≤ 1000000) {i : Nat} (hi : i < 64) : comeR (lineN k (seqN (k + 1) i)) (sg (k + 1 + i)) = (lineN k (seqN (k + 1) (i + 1)), [], 2) := by
  have hr := seqN_ris (k + 1) i
  rw [show k + 1 - 1 = k by omega] at hr
  have hm : ∀ m ∈ seqN (k + 1) i, m < k + 1 + i := fun m hm => (seqN_mem.1 hm).2
  have := come_keep (k := k) (n := k + 1 + i) (hs := seqN (k + 1) i) ⟨hk.1, by omega⟩ hr (fun m h => by have := hm m h; omega) (by rw [seqN_len]; omega) ⟨by omega, by omega⟩ (by omega) (fun h => by have := hm _ h; omega) (by rw [seqN_len]; exact hi)
  rw [this, insN_end _ _ hm, ← seqN_succ]
theorem room_full {k : Int} (hk : 1 ≤ k ∧ k ≤ 1000000) {i : Nat} (hi : 64 ≤ i) (hi2 : i < 1000000) : comeR (lineN k (seqN (k + 1) 64)) (sg (k + 1 + i)) = (lineN k (seqN (k + 1) 64), [], 4) := by
  have hr := seqN_ris (k + 1) 64
  rw [show k + 1 - 1 = k by omega] at hr
  have hm : ∀ m ∈ seqN (k + 1) 64, m < k + 1 + 64 := fun m hm => (seqN_mem.1 hm).2
  exact come_full (k := k) (n := k + 1 + i) (hs := seqN (k + 1) 64) ⟨hk.1, by omega⟩ hr (fun m h => by have := hm m h; omega) (by rw [seqN_len]; exact Nat.le_refl _) ⟨by omega, by omega⟩ (by omega) (fun h => by have := hm _ h; omega) (by rw [seqN_len]; exact Nat.le_refl _)
theorem room_join {k : Int} (hk : 1 ≤ k ∧ k ≤ 1000000) {h : Nat} (hh : h ≤ 64) : comeR (lineN k (seqN (k + 1) h)) (sg k) = (lineN (k + 1 + h) [], (k :: seqN (k + 1) h).map sg, 1) := by
  have hr := seqN_ris (k + 1) h
  rw [show k + 1 - 1 = k by omega] at hr
  have := come_now (k := k) (n := k) (hs := seqN (k + 1) h) ⟨hk.1, by omega⟩ hr (fun m hm => by have := (seqN_mem.1 hm).2; omega) (by rw [seqN_len]; exact hh) ⟨by omega, by omega⟩ rfl
  rw [this, run_seqN]
theorem room_old {k : Int} (hk : 1 < k ∧ k ≤ 1000000) {h : Nat} (hh : h ≤ 64) : comeR (lineN k (seqN (k + 1) h)) (sg (k - 1)) = (lineN k (seqN (k + 1) h), [], 3) := by
  have hr := seqN_ris (k + 1) h
  rw [show k + 1 - 1 = k by omega] at hr
  exact come_old (k := k) (n := k - 1) (hs := seqN (k + 1) h) ⟨by omega, by omega⟩ hr (fun m hm => by have := (seqN_mem.1 hm).2; omega) (by rw [seqN_len]; exact hh) ⟨by omega, by omega⟩ (by omega)
theorem room_none {h : Nat} : comeR (lineN 1 (seqN (1 + 1) h)) (sg 0) = (lineN 1 (seqN (1 + 1) h), [], 0) := by
  refine come_no ?_
  rw [show (sg 0).mayB = false by decide, Bool.and_false]
end Go.Proofs.Ytblkdmbkkimbpaa
