/-
  Layer 6, reseq: what comes out of order, in order: as functions of lists: plain mathematics.
-/
import Derived.Test.YtblkdmbkkimbpaaMg
namespace Go.Proofs.Ytblkdmbkkimbpaa

structure Itm where
  fr : Int
  till : Int
  m : Mg
deriving DecidableEq
structure Ln where
  next : Int
  held : List Itm
deriving DecidableEq
def Itm.mayB (x : Itm) : Bool := decide (1 ≤ x.fr ∧ x.fr < x.till ∧ x.till ≤ 2199023255552)
/-- From rises, from above lo on. -/
def risingB (lo : Int) : List Itm → Bool
  | [] => true
  | x :: r => decide (lo < x.fr) && risingB x.fr r
def Ln.rightB (l : Ln) : Bool := decide (1 ≤ l.next ∧ l.next ≤ 2199023255552) && (decide (l.held.length ≤ 64) && (l.held.all Itm.mayB && risingB l.next l.held))
/-- The held ones are told, as long as they join: what is told, the next number, and what is left. -/
def drain (n : Int) : List Itm → List Itm × Int × List Itm
  | [] => ([], n, [])
  | x :: r => if x.fr ≤ n then (if n < x.till then (x :: (drain x.till r).1, (drain x.till r).2) else drain n r) else ([], n, x :: r)
def putIn (x : Itm) : List Itm → List Itm
  | [] => [x]
  | y :: r => if x.fr < y.fr then x :: y :: r else y :: putIn x r
def hasB (f : Int) (l : List Itm) : Bool := l.any fun y => decide (y.fr = f)
/-- An item comes: the line behind it, what is told, what became of it. -/
def comeR (l : Ln) (x : Itm) : Ln × List Itm × Int :=
  if (l.rightB && x.mayB) = false then (l, [], 0)
  else if x.till ≤ l.next then (l, [], 3)
  else if x.fr ≤ l.next then (⟨(drain x.till l.held).2.1, (drain x.till l.held).2.2⟩, x :: (drain x.till l.held).1, 1)
  else if hasB x.fr l.held then (l, [], 3)
  else if 64 ≤ l.held.length then (l, [], 4)
  else (⟨l.next, putIn x l.held⟩, [], 2)
theorem mayB_iff {x : Itm} : x.mayB = true ↔ 1 ≤ x.fr ∧ x.fr < x.till ∧ x.till ≤ 2199023255552 := by simp [Itm.mayB]
theorem rightB_iff {l : Ln} : l.rightB = true ↔ (1 ≤ l.next ∧ l.next ≤ 2199023255552) ∧ l.held.length ≤ 64 ∧ l.held.all Itm.mayB = true ∧ risingB l.next l.held = true := by
  unfold Ln.rightB
  simp only [Bool.and_eq_true, decide_eq_true_eq]
theorem risingB_cons {lo : Int} {x : Itm} {r : List Itm} : risingB lo (x :: r) = true ↔ lo < x.fr ∧ risingB x.fr r = true := by
  simp [risingB]
theorem risingB_low : ∀ {l : List Itm} {lo lo' : Int}, lo' ≤ lo → risingB lo l = true → risingB lo' l = true
  | [], _, _, _, _ => rfl
  | x :: r, lo, lo', h, hr => by rw [risingB_cons] at hr ⊢; exact ⟨by omega, hr.2⟩
/-- What is told goes on without a hole, from n to n'. -/
def Chain (n : Int) : List Itm → Int → Prop
  | [], n' => n' = n
  | x :: r, n' => x.fr ≤ n ∧ n < x.till ∧ Chain x.till r n'
theorem Chain.le : ∀ {l : List Itm} {n n' : Int}, Chain n l n' → n ≤ n'
  | [], _, _, h => by unfold Chain at h; omega
  | x :: r, n, n', h => by have := Chain.le h.2.2; have := h.2.1; omega
theorem drain_spec : ∀ (l : List Itm) (lo n : Int), risingB lo l = true → l.all Itm.mayB = true →
    Chain n (drain n l).1 (drain n l).2.1 ∧ risingB (drain n l).2.1 (drain n l).2.2 = true ∧ (drain n l).2.2.all Itm.mayB = true ∧ (drain n l).2.2.length ≤ l.length ∧ (n ≤ 2199023255552 → (drain n l).2.1 ≤ 2199023255552) ∧ n ≤ (drain n l).2.1
  | [], lo, n, _, _ => ⟨rfl, rfl, rfl, Nat.le_refl _, fun h => h, Int.le_refl _⟩
  | x :: r, lo, n, h, ha => by
    rw [risingB_cons] at h
    rw [List.all_cons, Bool.and_eq_true] at ha
    have hx := mayB_iff.1 ha.1
    unfold drain
    by_cases h1 : x.fr ≤ n
    · rw [if_pos h1]
      by_cases h2 : n < x.till
      · rw [if_pos h2]
        obtain ⟨g1, g2, g3, g4, g5, g6⟩ := drain_spec r x.fr x.till h.2 ha.2
        exact ⟨⟨h1, h2, g1⟩, g2, g3, Nat.le_succ_of_le g4, fun _ => g5 hx.2.2, by show n ≤ (drain x.till r).2.1; omega⟩
      · rw [if_neg h2]
        obtain ⟨g1, g2, g3, g4, g5, g6⟩ := drain_spec r x.fr n h.2 ha.2
        exact ⟨g1, g2, g3, Nat.le_succ_of_le g4, g5, g6⟩
    · rw [if_neg h1]
      exact ⟨rfl, by rw [risingB_cons]; exact ⟨by show n < x.fr; omega, h.2⟩, by rw [List.all_cons, Bool.and_eq_true]; exact ha, Nat.le_refl _, fun h => h, Int.le_refl _⟩
theorem putIn_spec : ∀ (l : List Itm) (x : Itm) (lo : Int), risingB lo l = true → lo < x.fr → hasB x.fr l = false → risingB lo (putIn x l) = true
  | [], x, lo, _, hx, _ => by rw [putIn, risingB_cons]; exact ⟨hx, rfl⟩
  | y :: r, x, lo, h, hx, hb => by
    rw [risingB_cons] at h
    unfold hasB at hb
    rw [List.any_cons, Bool.or_eq_false_iff, decide_eq_false_iff_not] at hb
    unfold putIn
    by_cases h1 : x.fr < y.fr
    · rw [if_pos h1, risingB_cons, risingB_cons]
      exact ⟨hx, h1, h.2⟩
    · rw [if_neg h1, risingB_cons]
      exact ⟨h.1, putIn_spec r x y.fr h.2 (by have := hb.1; omega) hb.2⟩
theorem putIn_all (p : Itm → Bool) : ∀ (l : List Itm) (x : Itm), (putIn x l).all p = (p x && l.all p)
  | [], x => by simp [putIn]
  | y :: r, x => by
    unfold putIn
    split
    · simp
    · rw [List.all_cons, putIn_all p r x, List.all_cons]
      cases p x <;> cases p y <;> simp
theorem putIn_len : ∀ (l : List Itm) (x : Itm), (putIn x l).length = l.length + 1
  | [], x => rfl
  | y :: r, x => by
    unfold putIn
    split
    · rfl
    · rw [List.length_cons, putIn_len r x, List.length_cons]
theorem come_no {l : Ln} {x : Itm} (h : (l.rightB && x.mayB) = false) : comeR l x = (l, [], 0) := if_pos h
/-- The line stays right; what is told goes on without a hole; what isn't Taken tells nothing and leaves the next number. -/
theorem come_spec {l : Ln} {x : Itm} (hr : l.rightB = true) (hm : x.mayB = true) :
    (comeR l x).1.rightB = true ∧ Chain l.next (comeR l x).2.1 (comeR l x).1.next ∧ ((comeR l x).2.2 ≠ 1 → (comeR l x).2.1 = [] ∧ (comeR l x).1.next = l.next) ∧ (comeR l x).2.2 ≠ 0 ∧ ((comeR l x).2.2 = 1 → (comeR l x).2.1 ≠ []) := by
  have ⟨hn, hl, ha, hs⟩ := rightB_iff.1 hr
  have hx := mayB_iff.1 hm
  unfold comeR
  rw [if_neg (by rw [hr, hm]; decide)]
  by_cases h1 : x.till ≤ l.next
  · rw [if_pos h1]; exact ⟨hr, rfl, fun _ => ⟨rfl, rfl⟩, (show (3 : Int) ≠ 0 by decide), fun h => absurd h (show ¬ (3 : Int) = 1 by decide)⟩
  rw [if_neg h1]
  by_cases h2 : x.fr ≤ l.next
  · rw [if_pos h2]
    obtain ⟨g1, g2, g3, g4, g5, g6⟩ := drain_spec l.held l.next x.till hs ha
    refine ⟨rightB_iff.2 ⟨⟨?_, g5 hx.2.2⟩, ?_, g3, g2⟩, ⟨h2, by omega, g1⟩, fun h => absurd rfl h, (show (1 : Int) ≠ 0 by decide), fun _ h => by cases h⟩
    · show 1 ≤ (drain x.till l.held).2.1; omega
    · show (drain x.till l.held).2.2.length ≤ 64; omega
  rw [if_neg h2]
  by_cases h3 : hasB x.fr l.held = true
  · rw [if_pos h3]; exact ⟨hr, rfl, fun _ => ⟨rfl, rfl⟩, (show (3 : Int) ≠ 0 by decide), fun h => absurd h (show ¬ (3 : Int) = 1 by decide)⟩
  rw [if_neg h3]
  by_cases h4 : 64 ≤ l.held.length
  · rw [if_pos h4]; exact ⟨hr, rfl, fun _ => ⟨rfl, rfl⟩, (show (4 : Int) ≠ 0 by decide), fun h => absurd h (show ¬ (4 : Int) = 1 by decide)⟩
  rw [if_neg h4]
  refine ⟨rightB_iff.2 ⟨hn, ?_, ?_, ?_⟩, rfl, fun _ => ⟨rfl, rfl⟩, (show (2 : Int) ≠ 0 by decide), fun h => absurd h (show ¬ (2 : Int) = 1 by decide)⟩
  · show (putIn x l.held).length ≤ 64; rw [putIn_len]; omega
  · show (putIn x l.held).all Itm.mayB = true; rw [putIn_all, hm, ha]; rfl
  · exact putIn_spec l.held x l.next hs (by omega) (by simpa using h3)
/-! ### Numbers, one each -/
def sg (n : Int) : Itm := ⟨n, n + 1, Mg.zero⟩
theorem sg_may {n : Int} (h : 1 ≤ n) (h2 : n < 2199023255552) : (sg n).mayB = true := mayB_iff.2 ⟨h, by show n < n + 1; omega, by show n + 1 ≤ _; omega⟩
/-- Numbers rise, from above lo on. -/
def risN (lo : Int) : List Int → Bool
  | [] => true
  | n :: r => decide (lo < n) && risN n r
theorem risN_cons {lo n : Int} {r : List Int} : risN lo (n :: r) = true ↔ lo < n ∧ risN n r = true := by simp [risN]
theorem risN_low : ∀ {l : List Int} {lo lo' : Int}, lo' ≤ lo → risN lo l = true → risN lo' l = true
  | [], _, _, _, _ => rfl
  | x :: r, lo, lo', h, hr => by rw [risN_cons] at hr ⊢; exact ⟨by omega, hr.2⟩
theorem risN_mem : ∀ {l : List Int} {lo n : Int}, risN lo l = true → n ∈ l → lo < n
  | x :: r, lo, n, h, hm => by
    rw [risN_cons] at h
    rcases List.mem_cons.1 hm with rfl | hm
    · exact h.1
    · have := risN_mem h.2 hm; omega
theorem rising_sg : ∀ (l : List Int) (lo : Int), risingB lo (l.map sg) = risN lo l
  | [], _ => rfl
  | n :: r, lo => by rw [List.map_cons, risingB, risN, rising_sg r]; rfl
/-- The run of numbers that follow one another from n on: how many, and what is left. -/
def run (n : Int) : List Int → List Int × Int × List Int
  | [] => ([], n, [])
  | x :: r => if x = n then (x :: (run (n + 1) r).1, (run (n + 1) r).2) else ([], n, x :: r)
theorem drain_sg : ∀ (l : List Int) (n : Int), risN (n - 1) l = true → drain n (l.map sg) = ((run n l).1.map sg, (run n l).2.1, (run n l).2.2.map sg)
  | [], n, _ => rfl
  | x :: r, n, h => by
    rw [risN_cons] at h
    rw [List.map_cons]
    unfold drain run
    by_cases hx : x = n
    · subst hx
      rw [if_pos (show (sg x).fr ≤ x from Int.le_refl _), if_pos (show x < (sg x).till by show x < x + 1; omega), if_pos rfl]
      have := drain_sg r (x + 1) (by rw [show x + 1 - 1 = x by omega]; exact h.2)
      show (sg x :: (drain (x + 1) (r.map sg)).1, (drain (x + 1) (r.map sg)).2) = _
      rw [this]; rfl
    · rw [if_neg (show ¬ (sg x).fr ≤ n by show ¬ x ≤ n; omega), if_neg hx]
      rfl
theorem run_spec : ∀ (l : List Int) (n : Int), risN (n - 1) l = true →
    l = (run n l).1 ++ (run n l).2.2 ∧ (run n l).2.1 = n + (run n l).1.length ∧ (∀ k : Nat, k < (run n l).1.length → (run n l).1[k]? = some (n + k)) ∧ risN (run n l).2.1 (run n l).2.2 = true
  | [], n, _ => ⟨rfl, by simp [run], fun k h => by simp [run] at h, rfl⟩
  | x :: r, n, h => by
    rw [risN_cons] at h
    unfold run
    by_cases hx : x = n
    · subst hx
      rw [if_pos rfl]
      obtain ⟨g1, g2, g3, g4⟩ := run_spec r (x + 1) (by rw [show x + 1 - 1 = x by omega]; exact h.2)
      refine ⟨?_, ?_, fun k hk => ?_, g4⟩
      · show x :: r = x :: ((run (x + 1) r).1 ++ _); rw [← g1]
      · show (run (x + 1) r).2.1 = x + ((x :: (run (x + 1) r).1).length : Nat); rw [g2, List.length_cons]; omega
      · show (x :: (run (x + 1) r).1)[k]? = _
        cases k with
        | zero => simp
        | succ k =>
          rw [List.getElem?_cons_succ, g3 k (by simpa using hk)]
          congr 1; omega
    · rw [if_neg hx]
      exact ⟨rfl, by simp, fun k h => by simp at h, by rw [risN_cons]; exact ⟨by show n < x; omega, h.2⟩⟩
end Go.Proofs.Ytblkdmbkkimbpaa
