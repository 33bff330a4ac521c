/-
  Layer 7: what SessFills says, message by message: plain mathematics.
-/
import Derived.Test.YtblkdmbkkimbpaaSessFill
import Derived.Test.YtblkdmbkkimbpaaReseqRoom
namespace Go.Proofs.Ytblkdmbkkimbpaa

/-- Up to where it has asked, behind its asking. -/
def askN (k a : Int) : List Int → Int
  | [] => a
  | h :: _ => if k ≤ a then a else min (h - 1) (k + 9)
/-- What it says then. -/
def askL (k a o : Int) : List Int → List Mg
  | [] => []
  | h :: _ => if k ≤ a then [] else [{ resendM k (min (h - 1) (k + 9)) with seq := o, time := 0 }]
/-- A session in which such numbers come. -/
structure FS (n : Int) (s : Ses) (k : Int) (hs : List Int) (a o : Int) : Prop where
  r : s.R
  st : s.st = 2
  ln : LN n k hs s.ln
  asked : s.asked = a
  out : s.out = o
theorem ask_fill {n : Int} {s : Ses} {k a o : Int} {hs : List Int} (h : FS n s k hs a o) (ho : o < 1099511627776) :
    ∃ s', askS s 0 = (s', askL k a o hs) ∧ FS n s' k hs (askN k a hs) (o + (askL k a o hs).length) := by
  have hR := askS_R h.r (now := 0) (by decide)
  have hh := h.ln.held
  have hk := h.ln.next
  revert hR
  unfold askS
  cases hl : s.ln.held with
  | nil =>
    rw [hl] at hh
    obtain rfl : hs = [] := hh.symm
    exact fun _ => ⟨s, rfl, h.r, h.st, h.ln, h.asked, by rw [h.out]; show o = o + 0; omega⟩
  | cons y r =>
    rw [hl] at hh
    obtain rfl : hs = y.fr :: frs r := hh.symm
    unfold askN askL
    dsimp only
    by_cases hc : k ≤ a
    · rw [if_pos (.inr (by rw [hk, h.asked]; exact hc)), if_pos hc, if_pos hc]
      exact fun _ => ⟨s, rfl, h.r, h.st, h.ln, h.asked, by rw [h.out]; show o = o + 0; omega⟩
    · rw [if_neg (by rw [hk, h.asked, h.st]; simp; omega), if_neg hc, if_neg hc]
      unfold sayS
      rw [if_neg (by rw [h.out]; omega), hk, h.out]
      exact fun hR => ⟨_, rfl, hR, h.st, h.ln, rfl, by show o + 1 = o + 1; rfl⟩
/-- A message comes: the line, and its asking. -/
theorem fill_come {n : Int} {s : Ses} {k k' a o : Int} {hs hs' : List Int} {m : Mg} (h : FS n s k hs a o) (ho : o < 1099511627776) (hm : MsgR m) (hk : m.kind = 7 ∨ m.kind = 2) (hln : LN n k' hs' (comeR s.ln (itemM m)).1) :
    ∃ s', comeS s m 0 = (s', askL k' a o hs', tellS (comeR s.ln (itemM m)).2.1, false, 0) ∧ FS n s' k' hs' (askN k' a hs') (o + (askL k' a o hs').length) := by
  have hr : s.rightB = true := Ses.right_iff.2 h.r
  have hb := msgB_iff.2 hm
  have h1 : FS n (lineS (hearS s 0) m) k' hs' a o :=
    ⟨⟨(show (0 : Int) ≤ 2 ∧ (2 : Int) ≤ 2 by decide), comeR_right h.r.ln _, h.r.out, h.r.every, (show (0 : Int) ≤ 0 ∧ (0 : Int) ≤ 4611686018427387904 by decide), h.r.said, h.r.asked, h.r.at_⟩, rfl, hln, h.asked, h.out⟩
  obtain ⟨s', he, hf⟩ := ask_fill h1 ho
  refine ⟨s', ?_, hf⟩
  unfold comeS
  rw [if_neg (by rw [hr, hb]; decide), if_neg (fun hc => by rw [h.st] at hc; rcases hc with hc | hc; exact absurd hc (by decide); exact absurd hc.1 (by decide)), if_neg (fun hc => by have := hc.1; omega)]
  have hp : replyS (hearS s 0) m 0 = (hearS s 0, []) := by
    unfold replyS
    rw [if_neg (by omega), if_neg (fun hc => by have := hc.1; omega)]
  rw [hp]
  dsimp only
  rw [he, if_neg (by omega)]
  rfl
/-! ### The first ones come, and the last one -/
def AskM (k b : Int) (m : Mg) : Prop := m.kind = 4 ∧ m.a = k ∧ m.b = b
/-- All numbers ahead of i have come, or are lost. -/
structure P1 (n i : Int) (s : Ses) (k a o : Int) (hs : List Int) (L : List Mg) : Prop where
  fs : FS n s k hs a o
  k2 : 2 ≤ k ∧ k ≤ i
  top : ∀ f ∈ hs, f < i
  asks : (hs = [] ∧ a < k ∧ L = []) ∨ ∃ h r m, hs = h :: r ∧ a = min (h - 1) (k + 9) ∧ L = [m] ∧ AskM k a m
  out : o = 2 + (L.length : Int)
theorem P1.skip {n i : Int} {s : Ses} {k a o : Int} {hs : List Int} {L : List Mg} (h : P1 n i s k a o hs L) : P1 n (i + 1) s k a o hs L :=
  ⟨h.fs, by have := h.k2; omega, fun f hf => by have := h.top f hf; omega, h.asks, h.out⟩
theorem P1.outlow {n i : Int} {s : Ses} {k a o : Int} {hs : List Int} {L : List Mg} (h : P1 n i s k a o hs L) : o ≤ 3 := by
  rcases h.asks with ⟨_, _, e⟩ | ⟨_, _, m, _, _, e, _⟩ <;> (have := h.out; rw [e] at this; simp at this; omega)
theorem P1.step {n i : Int} {s : Ses} {k a o : Int} {hs : List Int} {L : List Mg} {m : Mg} (h : P1 n i s k a o hs L) (hn : n ≤ 62) (hi : i ≤ n) (hm : MsgR m) (hk : m.kind = 7 ∨ m.kind = 2) (hx : One n (itemM m)) (he : m.seq = i) :
    ∃ s' said told k' a' o' hs', comeS s m 0 = (s', said, told, false, 0) ∧ P1 n (i + 1) s' k' a' o' hs' (L ++ said) ∧ (told.length : Int) = min k' n - min k n ∧ (i ∈ hs' ∨ k' = i + 1) := by
  have ho := h.outlow
  have hf : (itemM m).fr = i := he
  rcases Int.lt_or_le k i with hlt | hge
  · have hni : i ∉ hs := fun hmem => by have := h.top i hmem; omega
    have hlen : hs.length < 64 := by
      have := risN_len hs k i h.fs.ln.ris (fun f hf => by have := h.top f hf; omega) (by omega)
      have := h.k2
      omega
    have hw := come_wait h.fs.ln (by omega) hx (by omega) (by rw [hf]; exact hni) hlen
    rw [hf, insN_end i hs h.top] at hw
    obtain ⟨s', hc, hfs⟩ := fill_come h.fs (by omega) hm hk hw.1
    have htold : ((tellS (comeR s.ln (itemM m)).2.1).length : Int) = min k n - min k n := by rw [hw.2]; show ((0 : Nat) : Int) = _; omega
    refine ⟨s', _, _, k, _, _, hs ++ [i], hc, ⟨hfs, by have := h.k2; omega, fun f hf => ?_, ?_, ?_⟩, htold, .inl (by simp)⟩
    · rcases List.mem_append.1 hf with hf | hf
      · have := h.top f hf; omega
      · have : f = i := by simpa using hf
        omega
    · right
      rcases h.asks with ⟨e1, e2, e3⟩ | ⟨hd, r, m1, e1, e2, e3, e4⟩
      · subst e1; subst e3
        refine ⟨i, [], { resendM k (min (i - 1) (k + 9)) with seq := o, time := 0 }, rfl, ?_, ?_, rfl, rfl, ?_⟩
        · show (if k ≤ a then a else _) = _
          rw [if_neg (by omega)]
        · show [] ++ (if k ≤ a then [] else _) = _
          rw [if_neg (by omega)]; rfl
        · show _ = (if k ≤ a then a else _)
          rw [if_neg (by omega)]; rfl
      · subst e1
        have hgt := risN_mem h.fs.ln.ris (List.mem_cons_self ..)
        have hka : k ≤ a := by omega
        refine ⟨hd, r ++ [i], m1, rfl, ?_, ?_, ?_⟩
        · show (if k ≤ a then a else _) = _
          rw [if_pos hka]; exact e2
        · show L ++ (if k ≤ a then [] else _) = _
          rw [if_pos hka, e3]; rfl
        · show AskM k (if k ≤ a then a else _) m1
          rw [if_pos hka]; exact e4
    · have := h.out
      rw [List.length_append]; push_cast; omega
  · have hki : k = i := by have := h.k2; omega
    have hs0 : hs = [] := by
      cases hl : hs with
      | nil => rfl
      | cons f r =>
        have h1 := h.top f (by rw [hl]; exact List.mem_cons_self ..)
        have h2 := risN_mem h.fs.ln.ris (show f ∈ hs by rw [hl]; exact List.mem_cons_self ..)
        omega
    subst hs0
    have hw := come_next h.fs.ln (by omega) hx (by rw [hf, hki])
    rw [show run (k + 1) [] = ([], k + 1, []) from rfl] at hw
    obtain ⟨s', hc, hfs⟩ := fill_come h.fs (by omega) hm hk hw.1
    have hL : L = [] ∧ a < k := by
      rcases h.asks with ⟨_, e2, e3⟩ | ⟨hd, r, m1, e1, _⟩
      · exact ⟨e3, e2⟩
      · cases e1
    refine ⟨s', _, _, k + 1, _, _, [], hc, ⟨hfs, by have := h.k2; omega, (fun f hf => by cases hf), .inl ⟨rfl, ?_, ?_⟩, ?_⟩, hw.2, .inr (by omega)⟩
    · show a < k + 1; omega
    · rw [hL.1]; rfl
    · have := h.out
      rw [hL.1] at this ⊢
      show o + ((([] : List Mg).length : Nat) : Int) = 2 + ((([] ++ [] : List Mg).length : Nat) : Int)
      simpa using this
/-! ### What was asked for comes, batch by batch -/
structure P2 (n : Int) (j : Nat) (s : Ses) (k a o : Int) (hs : List Int) (L : List Mg) : Prop where
  fs : FS n s k hs a o
  top : ∀ f ∈ hs, f ≤ n
  k2 : 2 + (j : Int) ≤ k
  asks : (hs = [] ∧ k = n + 1 ∧ L.length = j) ∨ ∃ h r m, hs = h :: r ∧ n ∈ hs ∧ a = min (h - 1) (k + 9) ∧ L.length = j + 1 ∧ L[j]? = some m ∧ AskM k a m
  out : o = 2 + (L.length : Int)
theorem P1.last {n : Int} {s : Ses} {k a o : Int} {hs : List Int} {L : List Mg} (h : P1 n (n + 1) s k a o hs L) (hl : n ∈ hs ∨ k = n + 1) : P2 n 0 s k a o hs L := by
  refine ⟨h.fs, fun f hf => by have := h.top f hf; omega, by have := h.k2; omega, ?_, h.out⟩
  rcases h.asks with ⟨e1, _, e3⟩ | ⟨hd, r, m, e1, e2, e3, e4⟩
  · subst e1; subst e3
    rcases hl with hl | hl
    · cases hl
    · exact .inl ⟨rfl, hl, rfl⟩
  · refine .inr ⟨hd, r, m, e1, ?_, e2, by rw [e3]; rfl, by rw [e3]; rfl, e4⟩
    rcases hl with hl | hl
    · exact hl
    · have h1 := risN_mem h.fs.ln.ris (show hd ∈ hs by rw [e1]; exact List.mem_cons_self ..)
      have h2 := h.top hd (by rw [e1]; exact List.mem_cons_self ..)
      omega
/-- Within a batch: q comes next, up to b. -/
structure PB (n : Int) (j : Nat) (s : Ses) (q b o : Int) (h : Int) (r : List Int) (L : List Mg) : Prop where
  fs : FS n s q (h :: r) b o
  top : ∀ f ∈ h :: r, f ≤ n
  mem : n ∈ h :: r
  hb : b ≤ h - 1
  k2 : 2 + (j : Int) ≤ q
  len : L.length = j + 1
  out : o = 2 + (L.length : Int)
theorem P2.batch {n : Int} {j : Nat} {s : Ses} {k a o h : Int} {r : List Int} {L : List Mg} {m : Mg} (p : P2 n j s k a o (h :: r) L) (hm : n ∈ h :: r) (ha : a = min (h - 1) (k + 9)) (hl : L.length = j + 1) (_ : AskM k a m) : PB n j s k a o h r L ∧ k ≤ a ∧ a ≤ k + 9 ∧ 1 ≤ k := by
  have h1 := risN_mem p.fs.ln.ris (List.mem_cons_self ..)
  have h2 := p.fs.ln.k1
  exact ⟨⟨p.fs, p.top, hm, by omega, p.k2, hl, p.out⟩, by omega, by omega, by omega⟩
theorem PB.mid {n : Int} {j : Nat} {s : Ses} {q b o h : Int} {r : List Int} {L : List Mg} {m : Mg} (p : PB n j s q b o h r L) (hn : n ≤ 62) (hq : q < b) (hm : MsgR m) (hk : m.kind = 7 ∨ m.kind = 2) (hx : One n (itemM m)) (he : m.seq = q) :
    ∃ s' told, comeS s m 0 = (s', [], told, false, 0) ∧ PB n j s' (q + 1) b o h r L ∧ (told.length : Int) = min (q + 1) n - min q n := by
  have hb := p.hb
  have hw := come_next p.fs.ln (by omega) hx he
  have hrun : run (q + 1) (h :: r) = ([], q + 1, h :: r) := by unfold run; rw [if_neg (by omega)]
  rw [hrun] at hw
  have hq61 := p.fs.ln.k1
  have hk2 := p.k2
  obtain ⟨s', hc, hfs⟩ := fill_come p.fs (by have := p.out; have := p.len; omega) hm hk hw.1
  have e1 : askL (q + 1) b o (h :: r) = [] := if_pos (show q + 1 ≤ b by omega)
  have e2 : askN (q + 1) b (h :: r) = b := if_pos (show q + 1 ≤ b by omega)
  dsimp only at hc hfs hw
  rw [e1] at hc hfs
  rw [e2] at hfs
  exact ⟨s', _, hc, ⟨by simpa using hfs, p.top, p.mem, p.hb, by omega, p.len, p.out⟩, hw.2⟩
theorem PB.fin {n : Int} {j : Nat} {s : Ses} {q b o h : Int} {r : List Int} {L : List Mg} {m : Mg} (p : PB n j s q b o h r L) (hn : n ≤ 62) (hq : q = b) (hm : MsgR m) (hk : m.kind = 7 ∨ m.kind = 2) (hx : One n (itemM m)) (he : m.seq = q) :
    ∃ s' said told k' a' o' hs', comeS s m 0 = (s', said, told, false, 0) ∧ P2 n (j + 1) s' k' a' o' hs' (L ++ said) ∧ (told.length : Int) = min k' n - min q n := by
  have hb := p.hb
  have hw := come_next p.fs.ln (by omega) hx he
  have hris : risN (q + 1 - 1) (h :: r) = true := by rw [show q + 1 - 1 = q by omega]; exact p.fs.ln.ris
  have hrm := run_mem (q + 1) (h :: r) hris n p.mem p.top
  obtain ⟨g1, g2, g3, g4⟩ := run_spec (h :: r) (q + 1) hris
  have hq61 := p.fs.ln.k1
  have hk2 := p.k2
  obtain ⟨s', hc, hfs⟩ := fill_come p.fs (by have := p.out; have := p.len; omega) hm hk hw.1
  have htop : ∀ f ∈ (run (q + 1) (h :: r)).2.2, f ≤ n := fun f hf => p.top f (by
    have h5 := List.mem_append_right (run (q + 1) (h :: r)).1 hf
    rw [← g1] at h5
    exact h5)
  refine ⟨s', _, _, _, _, _, _, hc, ⟨hfs, htop, by push_cast; omega, ?_, ?_⟩, hw.2⟩
  · generalize hk' : (run (q + 1) (h :: r)).2.1 = k' at *
    generalize hh' : (run (q + 1) (h :: r)).2.2 = hs' at *
    cases hs' with
    | nil =>
      left
      rcases hrm with hrm | hrm
      · cases hrm
      · refine ⟨rfl, hrm.2, ?_⟩
        show (L ++ []).length = j + 1
        rw [List.append_nil]; exact p.len
    | cons f r' =>
      right
      have hka : ¬ k' ≤ b := by omega
      have hmem : n ∈ f :: r' := by
        rcases hrm with hrm | hrm
        · exact hrm
        · cases hrm.1
      refine ⟨f, r', { resendM k' (min (f - 1) (k' + 9)) with seq := o, time := 0 }, rfl, hmem, ?_, ?_, ?_, rfl, rfl, ?_⟩
      · show (if k' ≤ b then b else _) = _
        rw [if_neg hka]
      · show (L ++ (if k' ≤ b then [] else _)).length = _
        rw [if_neg hka, List.length_append, p.len]; rfl
      · show (L ++ (if k' ≤ b then [] else _))[j + 1]? = _
        rw [if_neg hka, List.getElem?_append_right (by rw [p.len]; exact Nat.le_refl _), p.len, Nat.sub_self]; rfl
      · show _ = (if k' ≤ b then b else _)
        rw [if_neg hka]; rfl
  · have := p.out
    rw [List.length_append]; push_cast; omega
end Go.Proofs.Ytblkdmbkkimbpaa
