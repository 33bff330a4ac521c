/-
  Layer 7: what SessFills says: numbers that are lost are asked for, and come: plain mathematics.
-/
import Derived.Test.YtblkdmbkkimbpaaSessOrd
namespace Go.Proofs.Ytblkdmbkkimbpaa

/-- What comes in SessFills: one number; a Report, but the last one. -/
structure One (n : Int) (y : Itm) : Prop where
  one : y.till = y.fr + 1
  fr : 1 ≤ y.fr ∧ y.fr ≤ n
  kind : y.m.kind = 7 ↔ y.fr < n
def frs (l : List Itm) : List Int := l.map Itm.fr
theorem ris_frs : ∀ (l : List Itm) (lo : Int), risingB lo l = risN lo (frs l)
  | [], _ => rfl
  | y :: r, lo => by rw [risingB, ris_frs r]; rfl
theorem has_frs (f : Int) : ∀ l : List Itm, hasB f l = true ↔ f ∈ frs l
  | [] => by simp [hasB, frs]
  | y :: r => by
    rw [show hasB f (y :: r) = (decide (y.fr = f) || hasB f r) from rfl, Bool.or_eq_true, has_frs f r, decide_eq_true_iff, show frs (y :: r) = y.fr :: frs r from rfl, List.mem_cons]
    exact ⟨fun h => h.imp Eq.symm id, fun h => h.imp Eq.symm id⟩
theorem putIn_frs (x : Itm) : ∀ l : List Itm, frs (putIn x l) = insN x.fr (frs l)
  | [] => rfl
  | y :: r => by
    unfold putIn
    rw [show frs (y :: r) = y.fr :: frs r from rfl, insN]
    by_cases h : x.fr < y.fr
    · rw [if_pos h, if_pos h]; rfl
    · rw [if_neg h, if_neg h, show frs (y :: putIn x r) = y.fr :: frs (putIn x r) from rfl, putIn_frs x r]
theorem drain_frs {n : Int} : ∀ (l : List Itm) (q : Int), (∀ y ∈ l, One n y) → risN (q - 1) (frs l) = true → (drain q l).2.1 = (run q (frs l)).2.1 ∧ frs (drain q l).2.2 = (run q (frs l)).2.2
  | [], q, _, _ => ⟨rfl, rfl⟩
  | y :: r, q, h, hr => by
    have hy := h y (List.mem_cons_self ..)
    rw [show frs (y :: r) = y.fr :: frs r from rfl] at hr ⊢
    rw [risN_cons] at hr
    unfold drain run
    by_cases he : y.fr = q
    · have h1 := hy.one
      rw [if_pos (by omega), if_pos (by omega), if_pos he]
      have ih := drain_frs r (q + 1) (fun u hu => h u (List.mem_cons_of_mem _ hu)) (by rw [show q + 1 - 1 = q by omega, ← he]; exact hr.2)
      rw [show y.till = q + 1 by omega]
      exact ih
    · rw [if_neg (by omega), if_neg he]
      exact ⟨rfl, rfl⟩
/-- How many Reports are told on the way from q to q'. -/
theorem tell_count {n : Int} : ∀ (T : List Itm) (q q' : Int), (∀ y ∈ T, One n y) → Chain q T q' → ((tellS T).length : Int) = min q' n - min q n
  | [], q, q', _, hc => by have : q' = q := hc; subst this; show ((0 : Nat) : Int) = _; omega
  | y :: r, q, q', h, hc => by
    have hy := h y (List.mem_cons_self ..)
    have h1 := hy.one
    have h2 := hc.1
    have h3 := hc.2.1
    have ih := tell_count r y.till q' (fun u hu => h u (List.mem_cons_of_mem _ hu)) hc.2.2
    by_cases h7 : y.m.kind = 7
    · have e : tellS (y :: r) = y.m :: tellS r := by unfold tellS; rw [List.filter_cons_of_pos (by simpa using h7), List.map_cons]
      have := hy.kind.1 h7
      rw [e, List.length_cons]
      omega
    · have e : tellS (y :: r) = tellS r := by unfold tellS; rw [List.filter_cons_of_neg (by simpa using h7)]
      have : ¬ y.fr < n := fun h => h7 (hy.kind.2 h)
      rw [e, ih]
      omega
theorem chain_topn {n : Int} : ∀ (l : List Itm) (q q' : Int), (∀ y ∈ l, One n y) → Chain q l q' → q ≤ n + 1 → q' ≤ n + 1
  | [], q, q', _, hc, hq => by have : q' = q := hc; omega
  | y :: r, q, q', h, hc, _ => chain_topn r y.till q' (fun u hu => h u (List.mem_cons_of_mem _ hu)) hc.2.2 (by have h1 := (h y (List.mem_cons_self ..)).one; have h2 := (h y (List.mem_cons_self ..)).fr; omega)
/-- A line of such items. -/
structure LN (n k : Int) (hs : List Int) (l : Ln) : Prop where
  next : l.next = k
  held : frs l.held = hs
  one : ∀ y ∈ l.held, One n y
  k1 : 1 ≤ k ∧ k ≤ n + 1
  ris : risN k hs = true
  len : hs.length ≤ 64
theorem LN.right {n k : Int} {hs : List Int} {l : Ln} (h : LN n k hs l) (hn : n ≤ 1000) : l.rightB = true := by
  refine rightB_iff.2 ⟨by rw [h.next]; have := h.k1; omega, ?_, ?_, ?_⟩
  · have := h.len
    rw [← h.held] at this
    simpa [frs] using this
  · rw [List.all_eq_true]
    intro y hy
    have := h.one y hy
    have := this.one
    have := (h.one y hy).fr
    exact mayB_iff.2 ⟨by omega, by omega, by omega⟩
  · rw [h.next, ris_frs, h.held]; exact h.ris
theorem one_may {n : Int} {x : Itm} (hx : One n x) (hn : n ≤ 1000) : x.mayB = true := by
  have := hx.one
  have := hx.fr
  exact mayB_iff.2 ⟨by omega, by omega, by omega⟩
theorem run_mem (q : Int) (hs : List Int) (hr : risN (q - 1) hs = true) (n : Int) (hn : n ∈ hs) (htop : ∀ f ∈ hs, f ≤ n) : n ∈ (run q hs).2.2 ∨ ((run q hs).2.2 = [] ∧ (run q hs).2.1 = n + 1) := by
  obtain ⟨g1, g2, g3, g4⟩ := run_spec hs q hr
  have hn' : n ∈ (run q hs).1 ++ (run q hs).2.2 := by rw [← g1]; exact hn
  rcases List.mem_append.1 hn' with h | h
  · right
    obtain ⟨j, hj⟩ := List.mem_iff_getElem?.1 h
    have hjl : j < (run q hs).1.length := (List.getElem?_eq_some_iff.1 hj).1
    rw [g3 j hjl] at hj
    injection hj with hj
    have hlast := g3 ((run q hs).1.length - 1) (by omega)
    have hm : q + (((run q hs).1.length - 1 : Nat) : Int) ∈ hs := by
      have h5 := List.mem_append_left (run q hs).2.2 (List.mem_iff_getElem?.2 ⟨_, hlast⟩)
      rw [← g1] at h5
      exact h5
    have := htop _ hm
    have hk : (run q hs).2.1 = n + 1 := by omega
    refine ⟨?_, hk⟩
    cases hl : (run q hs).2.2 with
    | nil => rfl
    | cons a r =>
      rw [hl] at g4
      have h1 := risN_mem g4 (List.mem_cons_self ..)
      have h2 := htop a (by have h5 := List.mem_append_right (run q hs).1 (show a ∈ (run q hs).2.2 by rw [hl]; exact List.mem_cons_self ..); rw [← g1] at h5; exact h5)
      omega
  · exact .inl h
/-- The next number comes. -/
theorem come_next {n k : Int} {hs : List Int} {l : Ln} {x : Itm} (h : LN n k hs l) (hn : n ≤ 1000) (hx : One n x) (he : x.fr = k) :
    LN n (run (k + 1) hs).2.1 (run (k + 1) hs).2.2 (comeR l x).1 ∧ ((tellS (comeR l x).2.1).length : Int) = min (run (k + 1) hs).2.1 n - min k n := by
  have hr := h.right hn
  have hm := one_may hx hn
  have h1 := hx.one
  have hk := h.next
  have hrs : risN (k + 1 - 1) (frs l.held) = true := by rw [show k + 1 - 1 = k by omega, h.held]; exact h.ris
  have hd := drain_frs l.held (k + 1) h.one hrs
  have hmem := come_mem (One n) hx h.one
  have hcs := come_spec hr hm
  have e : comeR l x = (⟨(drain x.till l.held).2.1, (drain x.till l.held).2.2⟩, x :: (drain x.till l.held).1, 1) := by
    unfold comeR
    rw [if_neg (by rw [hr, hm]; decide), if_neg (by omega), if_pos (by omega)]
  have ht : x.till = k + 1 := by omega
  rw [ht] at e
  have hsp := run_spec (frs l.held) (k + 1) hrs
  rw [h.held] at hd hsp
  have hnx : (comeR l x).1.next = (run (k + 1) hs).2.1 := by rw [e]; exact hd.1
  refine ⟨⟨hnx, by rw [e]; exact hd.2, hmem.1, ?_, hsp.2.2.2, ?_⟩, ?_⟩
  · have hle := hcs.2.1.le
    have htop : (comeR l x).1.next ≤ n + 1 := by
      have hc := hcs.2.1
      rw [h.next] at hc
      exact chain_topn _ _ _ hmem.2 hc h.k1.2
    have := h.k1
    rw [hnx] at htop
    have : l.next ≤ (comeR l x).1.next := hle
    rw [hnx, hk] at this
    omega
  · have : hs.length = (run (k + 1) hs).1.length + (run (k + 1) hs).2.2.length := by rw [← List.length_append, ← hsp.1]
    have := h.len
    omega
  · rw [← hnx, ← hk]
    exact tell_count _ _ _ hmem.2 hcs.2.1
/-- One further on comes: it waits. -/
theorem come_wait {n k : Int} {hs : List Int} {l : Ln} {x : Itm} (h : LN n k hs l) (hn : n ≤ 1000) (hx : One n x) (hgt : k < x.fr) (hm : x.fr ∉ hs) (hl : hs.length < 64) :
    LN n k (insN x.fr hs) (comeR l x).1 ∧ tellS (comeR l x).2.1 = [] := by
  have hr := h.right hn
  have hma := one_may hx hn
  have h1 := hx.one
  have hk := h.next
  have hh : hasB x.fr l.held = false := Bool.eq_false_iff.2 fun hb => hm (by rw [← h.held]; exact (has_frs _ _).1 hb)
  have hlen : l.held.length = hs.length := by rw [← h.held]; simp [frs]
  have e : comeR l x = (⟨l.next, putIn x l.held⟩, [], 2) := by
    unfold comeR
    rw [if_neg (by rw [hr, hma]; decide), if_neg (by omega), if_neg (by omega), if_neg (by rw [hh]; decide), if_neg (by omega)]
  have hmem := come_mem (One n) hx h.one
  refine ⟨⟨by rw [e]; exact hk, by rw [e]; show frs (putIn x l.held) = _; rw [putIn_frs, h.held], hmem.1, h.k1, insN_ris x.fr hs k h.ris hgt hm, by rw [insN_len]; omega⟩, by rw [e]; rfl⟩
end Go.Proofs.Ytblkdmbkkimbpaa
