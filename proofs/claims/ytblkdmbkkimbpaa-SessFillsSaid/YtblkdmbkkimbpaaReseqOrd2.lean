/-
  Layer 6, reseq: in whatever order numbers come: plain mathematics.
-/
import Derived.Test.YtblkdmbkkimbpaaReseqOrd
namespace Go.Proofs.Ytblkdmbkkimbpaa

theorem insN_ris (n : Int) : ∀ (l : List Int) (lo : Int), risN lo l = true → lo < n → n ∉ l → risN lo (insN n l) = true
  | [], lo, _, h, _ => by rw [insN, risN_cons]; exact ⟨h, rfl⟩
  | y :: r, lo, hr, h, hm => by
    rw [risN_cons] at hr
    unfold insN
    by_cases h1 : n < y
    · rw [if_pos h1, risN_cons, risN_cons]; exact ⟨h, h1, hr.2⟩
    · rw [if_neg h1, risN_cons]
      refine ⟨hr.1, insN_ris n r y hr.2 ?_ fun hc => hm (List.mem_cons_of_mem _ hc)⟩
      have : n ≠ y := fun e => hm (by rw [e]; exact List.mem_cons_self ..)
      omega
theorem insN_len (n : Int) : ∀ l : List Int, (insN n l).length = l.length + 1
  | [] => rfl
  | y :: r => by unfold insN; split <;> simp [insN_len n r]
/-- What has come, the next number, and those that wait. -/
structure Ord (c : Int → Bool) (k : Int) (hs : List Int) : Prop where
  k1 : 1 ≤ k ∧ k ≤ 61
  ris : risN k hs = true
  top : ∀ n ∈ hs, n ≤ 60
  came : ∀ n, 1 ≤ n → n ≤ 60 → (c n = true ↔ n < k ∨ n ∈ hs)
def cameN (c : Int → Bool) (n : Int) : Int → Bool := fun m => decide (m = n) || c m
theorem Ord.len {c : Int → Bool} {k : Int} {hs : List Int} (h : Ord c k hs) : hs.length ≤ 60 := by
  have h1 := h.k1
  rcases Int.lt_or_le 60 k with h6 | h6
  · cases hs with
    | nil => simp
    | cons a r =>
      have := risN_mem h.ris (List.mem_cons_self ..)
      have := h.top a (List.mem_cons_self ..)
      omega
  · have := risN_len hs k 60 h.ris h.top h6
    omega
/-- One number comes. -/
theorem Ord.step {c : Int → Bool} {k n : Int} {hs : List Int} (h : Ord c k hs) (hn : 1 ≤ n ∧ n ≤ 60) :
    ∃ (k' : Int) (hs' run' : List Int) (kd : Int), comeR (lineN k hs) (sg n) = (lineN k' hs', run'.map sg, kd) ∧ Ord (cameN c n) k' hs' ∧ (kd = 3 ↔ c n = true) ∧ (kd = 1 ∨ kd = 2 ∨ kd = 3) ∧ (kd = 1 ↔ run' ≠ []) ∧
      k' = k + run'.length ∧ (∀ j : Nat, j < run'.length → run'[j]? = some (k + j)) := by
  have h1 := h.k1
  have hr := h.ris
  have hl := h.len
  have hb : ∀ m ∈ hs, m < 2199023255552 := fun m hm => by have := h.top m hm; omega
  have hk : 1 ≤ k ∧ k ≤ 2199023255552 := by omega
  have hn' : 1 ≤ n ∧ n < 2199023255552 := by omega
  have hcn := h.came n hn.1 hn.2
  have same : c n = true → Ord (cameN c n) k hs := fun hc => ⟨h1, hr, h.top, fun m m1 m2 => by
    unfold cameN
    by_cases e : m = n
    · subst e; simp [hcn.1 hc]
    · simp [e, h.came m m1 m2]⟩
  rcases Int.lt_trichotomy n k with hlt | heq | hgt
  · refine ⟨k, hs, [], 3, come_old hk hr hb (by omega) hn' hlt, same (hcn.2 (.inl hlt)), ⟨fun _ => hcn.2 (.inl hlt), fun _ => rfl⟩, .inr (.inr rfl), ⟨fun h => absurd h (by decide), fun h => absurd rfl h⟩, by simp, fun j hj => by simp at hj⟩
  · subst heq
    obtain ⟨g1, g2, g3, g4⟩ := run_spec hs (n + 1) (by rw [show n + 1 - 1 = n by omega]; exact hr)
    have hnc : ¬ c n = true := fun hc => by
      rcases hcn.1 hc with h5 | h5
      · omega
      · have := risN_mem hr h5; omega
    have hmem : ∀ m, m ∈ hs ↔ m ∈ (run (n + 1) hs).1 ∨ m ∈ (run (n + 1) hs).2.2 := fun m => by
      have : m ∈ hs ↔ m ∈ (run (n + 1) hs).1 ++ (run (n + 1) hs).2.2 := by rw [← g1]
      rw [this, List.mem_append]
    have hrun : ∀ m, m ∈ (run (n + 1) hs).1 ↔ n + 1 ≤ m ∧ m < (run (n + 1) hs).2.1 := fun m => by
      constructor
      · intro hm
        obtain ⟨j, hj⟩ := List.mem_iff_getElem?.1 hm
        have hjl : j < (run (n + 1) hs).1.length := (List.getElem?_eq_some_iff.1 hj).1
        rw [g3 j hjl] at hj
        injection hj with hj
        omega
      · intro ⟨m1, m2⟩
        have hjl : (m - (n + 1)).toNat < (run (n + 1) hs).1.length := by omega
        refine List.mem_iff_getElem?.2 ⟨(m - (n + 1)).toNat, ?_⟩
        rw [g3 _ hjl]; congr 1; omega
    refine ⟨(run (n + 1) hs).2.1, (run (n + 1) hs).2.2, n :: (run (n + 1) hs).1, 1, come_now hk hr hb (by omega) hn' rfl, ⟨?_, g4, fun m hm => h.top m ((hmem m).2 (.inr hm)), fun m m1 m2 => ?_⟩, ⟨fun h => absurd h (by decide), fun hc => absurd hc hnc⟩, .inl rfl, ⟨(fun _ h => by cases h), fun _ => rfl⟩, ?_, fun j hj => ?_⟩
    · refine ⟨by omega, ?_⟩
      rcases Int.lt_or_le 61 (run (n + 1) hs).2.1 with h6 | h6
      · have := h.top _ ((hmem _).2 (.inl ((hrun ((run (n + 1) hs).2.1 - 1)).2 ⟨by omega, by omega⟩)))
        omega
      · exact h6
    · unfold cameN
      rw [Bool.or_eq_true, decide_eq_true_iff, h.came m m1 m2, hmem, hrun]
      constructor
      · rintro (h5 | h5 | h5 | h5)
        · exact .inl (by omega)
        · exact .inl (by omega)
        · exact .inl h5.2
        · exact .inr h5
      · rintro (h5 | h5)
        · by_cases e : m = n
          · exact .inl e
          · by_cases e2 : m < n
            · exact .inr (.inl e2)
            · exact .inr (.inr (.inl ⟨by omega, h5⟩))
        · exact .inr (.inr (.inr h5))
    · rw [g2, List.length_cons]; omega
    · cases j with
      | zero => simp
      | succ j =>
        rw [List.getElem?_cons_succ, g3 j (by simpa using hj)]
        congr 1; omega
  · by_cases hm : n ∈ hs
    · exact ⟨k, hs, [], 3, come_has hk hr hb (by omega) hn' hgt hm, same (hcn.2 (.inr hm)), ⟨fun _ => hcn.2 (.inr hm), fun _ => rfl⟩, .inr (.inr rfl), ⟨fun h => absurd h (by decide), fun h => absurd rfl h⟩, by simp, fun j hj => by simp at hj⟩
    · have hnc : ¬ c n = true := fun hc => by
        rcases hcn.1 hc with h5 | h5
        · omega
        · exact hm h5
      refine ⟨k, insN n hs, [], 2, come_keep hk hr hb (by omega) hn' hgt hm (by omega), ⟨h1, insN_ris n hs k hr hgt hm, fun m h5 => ?_, fun m m1 m2 => ?_⟩, ⟨fun h => absurd h (by decide), fun hc => absurd hc hnc⟩, .inr (.inl rfl), ⟨fun h => absurd h (by decide), fun h => absurd rfl h⟩, by simp, fun j hj => by simp at hj⟩
      · rcases (insN_mem n hs m).1 h5 with rfl | h5
        · exact hn.2
        · exact h.top m h5
      · unfold cameN
        rw [Bool.or_eq_true, decide_eq_true_iff, h.came m m1 m2, insN_mem]
        constructor
        · rintro (h5 | h5 | h5)
          · exact .inr (.inl h5)
          · exact .inl h5
          · exact .inr (.inr h5)
        · rintro (h5 | h5 | h5)
          · exact .inr (.inl h5)
          · exact .inl h5
          · exact .inr (.inr h5)
end Go.Proofs.Ytblkdmbkkimbpaa
