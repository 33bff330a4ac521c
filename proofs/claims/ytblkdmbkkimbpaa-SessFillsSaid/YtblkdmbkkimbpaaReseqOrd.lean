/-
  Layer 6, reseq: messages of one number each: plain mathematics.
-/
import Derived.Test.YtblkdmbkkimbpaaReseqMath
namespace Go.Proofs.Ytblkdmbkkimbpaa

def insN (n : Int) : List Int → List Int
  | [] => [n]
  | y :: r => if n < y then n :: y :: r else y :: insN n r
theorem putIn_sg (n : Int) : ∀ l : List Int, putIn (sg n) (l.map sg) = (insN n l).map sg
  | [] => rfl
  | y :: r => by
    rw [List.map_cons]
    unfold putIn insN
    by_cases h : n < y
    · rw [if_pos (show (sg n).fr < (sg y).fr from h), if_pos h]; rfl
    · rw [if_neg (show ¬ (sg n).fr < (sg y).fr from h), if_neg h, putIn_sg n r]; rfl
theorem hasB_sg (n : Int) (l : List Int) : hasB n (l.map sg) = decide (n ∈ l) := by
  unfold hasB
  rw [Bool.eq_iff_iff, List.any_eq_true, decide_eq_true_iff]
  constructor
  · rintro ⟨x, hx, h⟩
    obtain ⟨y, hy, rfl⟩ := List.mem_map.1 hx
    have : y = n := of_decide_eq_true h
    rw [← this]; exact hy
  · intro h
    exact ⟨sg n, List.mem_map.2 ⟨n, h, rfl⟩, decide_eq_true rfl⟩
theorem insN_mem (n : Int) : ∀ (l : List Int) (k : Int), k ∈ insN n l ↔ k = n ∨ k ∈ l
  | [], k => by simp [insN]
  | y :: r, k => by
    unfold insN
    split
    · simp
    · rw [List.mem_cons, insN_mem n r, List.mem_cons]
      constructor
      · rintro (h | h | h)
        · exact .inr (.inl h)
        · exact .inl h
        · exact .inr (.inr h)
      · rintro (h | h | h)
        · exact .inr (.inl h)
        · exact .inl h
        · exact .inr (.inr h)
theorem risN_len : ∀ (l : List Int) (lo hi : Int), risN lo l = true → (∀ n ∈ l, n ≤ hi) → lo ≤ hi → (l.length : Int) ≤ hi - lo
  | [], lo, hi, _, _, h => by simp; omega
  | x :: r, lo, hi, h, hm, hh => by
    rw [risN_cons] at h
    have hx := hm x (List.mem_cons_self ..)
    have := risN_len r x hi h.2 (fun n hn => hm n (List.mem_cons_of_mem _ hn)) hx
    rw [List.length_cons]
    omega
/-- A line of single numbers. -/
def lineN (k : Int) (hs : List Int) : Ln := ⟨k, hs.map sg⟩
theorem lineN_right {k : Int} {hs : List Int} (h1 : 1 ≤ k ∧ k ≤ 2199023255552) (hr : risN k hs = true) (hb : ∀ n ∈ hs, n < 2199023255552) (hl : hs.length ≤ 64) : (lineN k hs).rightB = true := by
  refine rightB_iff.2 ⟨h1, by simpa [lineN] using hl, ?_, by show risingB k (hs.map sg) = true; rw [rising_sg]; exact hr⟩
  show (hs.map sg).all Itm.mayB = true
  rw [List.all_eq_true]
  intro x hx
  obtain ⟨n, hn, rfl⟩ := List.mem_map.1 hx
  exact sg_may (by have := risN_mem hr hn; omega) (hb n hn)
section
variable {k n : Int} {hs : List Int} (h1 : 1 ≤ k ∧ k ≤ 2199023255552) (hr : risN k hs = true) (hb : ∀ n ∈ hs, n < 2199023255552) (hl : hs.length ≤ 64) (hn : 1 ≤ n ∧ n < 2199023255552)
include h1 hr hb hl hn
theorem come_both : ((lineN k hs).rightB && (sg n).mayB) = true := by rw [lineN_right h1 hr hb hl, sg_may hn.1 hn.2]; rfl
theorem come_old (h : n < k) : comeR (lineN k hs) (sg n) = (lineN k hs, [], 3) := by
  unfold comeR
  rw [if_neg (by rw [come_both h1 hr hb hl hn]; decide), if_pos (show (sg n).till ≤ (lineN k hs).next by show n + 1 ≤ k; omega)]
theorem come_now (h : n = k) : comeR (lineN k hs) (sg n) = (lineN (run (k + 1) hs).2.1 (run (k + 1) hs).2.2, (k :: (run (k + 1) hs).1).map sg, 1) := by
  subst h
  have hd := drain_sg hs (n + 1) (by rw [show n + 1 - 1 = n by omega]; exact hr)
  unfold comeR
  rw [if_neg (by rw [come_both h1 hr hb hl hn]; decide), if_neg (show ¬ (sg n).till ≤ (lineN n hs).next by show ¬ n + 1 ≤ n; omega), if_pos (show (sg n).fr ≤ (lineN n hs).next from Int.le_refl _)]
  show (Ln.mk (drain (n + 1) (hs.map sg)).2.1 (drain (n + 1) (hs.map sg)).2.2, sg n :: (drain (n + 1) (hs.map sg)).1, (1 : Int)) = _
  rw [hd]; rfl
theorem come_has (h : k < n) (hm : n ∈ hs) : comeR (lineN k hs) (sg n) = (lineN k hs, [], 3) := by
  unfold comeR
  rw [if_neg (by rw [come_both h1 hr hb hl hn]; decide), if_neg (show ¬ (sg n).till ≤ (lineN k hs).next by show ¬ n + 1 ≤ k; omega), if_neg (show ¬ (sg n).fr ≤ (lineN k hs).next by show ¬ n ≤ k; omega),
    if_pos (show hasB (sg n).fr (lineN k hs).held = true by show hasB n (hs.map sg) = true; rw [hasB_sg]; exact decide_eq_true hm)]
theorem come_full (h : k < n) (hm : n ∉ hs) (hf : 64 ≤ hs.length) : comeR (lineN k hs) (sg n) = (lineN k hs, [], 4) := by
  unfold comeR
  rw [if_neg (by rw [come_both h1 hr hb hl hn]; decide), if_neg (show ¬ (sg n).till ≤ (lineN k hs).next by show ¬ n + 1 ≤ k; omega), if_neg (show ¬ (sg n).fr ≤ (lineN k hs).next by show ¬ n ≤ k; omega),
    if_neg (show ¬ hasB (sg n).fr (lineN k hs).held = true by show ¬ hasB n (hs.map sg) = true; rw [hasB_sg]; simpa using hm), if_pos (show 64 ≤ (lineN k hs).held.length by simpa [lineN] using hf)]
theorem come_keep (h : k < n) (hm : n ∉ hs) (hf : hs.length < 64) : comeR (lineN k hs) (sg n) = (lineN k (insN n hs), [], 2) := by
  unfold comeR
  rw [if_neg (by rw [come_both h1 hr hb hl hn]; decide), if_neg (show ¬ (sg n).till ≤ (lineN k hs).next by show ¬ n + 1 ≤ k; omega), if_neg (show ¬ (sg n).fr ≤ (lineN k hs).next by show ¬ n ≤ k; omega),
    if_neg (show ¬ hasB (sg n).fr (lineN k hs).held = true by show ¬ hasB n (hs.map sg) = true; rw [hasB_sg]; simpa using hm), if_neg (show ¬ 64 ≤ (lineN k hs).held.length by simpa [lineN] using hf)]
  show (Ln.mk k (putIn (sg n) (hs.map sg)), ([] : List Itm), (2 : Int)) = _
  rw [putIn_sg]; rfl
end
end Go.Proofs.Ytblkdmbkkimbpaa
