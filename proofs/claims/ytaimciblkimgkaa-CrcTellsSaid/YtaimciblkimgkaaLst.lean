/-
  Slices of bytes as elements of a row: where they lie is told by their block's type, so an append to a row of another type leaves them as they are. Nothing of the program but its types stands here.
-/
import Derived.Test.YtaimciblkimgkaaConv
import Derived.Test.YtaimciblkimgkaaAppSl
import Derived.Test.YtaimciblkimgkaaMo
namespace Go.Proofs.Ytaimciblkimgkaa
open Go.RowKit

/-- The head, if it is one, lies in a block of this type. -/
def Typed (w : World) (A : Option Addr) (t : TypeId) : Prop := ∀ b off, A = some ⟨b, off, none⟩ → ∃ cs fr, w.heap[b]? = some (.cells cs t fr)
theorem Typed.none_ (w : World) (t : TypeId) : Typed w none t := fun _ _ h => by cases h
theorem Typed.keep {w w' : World} {A : Option Addr} {t : TypeId} (h : Typed w A t) (hk : ∀ (b : Nat) (cs : Array Value) (fr : Nat × Nat), w.heap[b]? = some (Obj.cells cs t fr) → w'.heap[b]? = w.heap[b]?) : Typed w' A t := fun b off hA => by
  obtain ⟨cs, fr, hc⟩ := h b off hA
  exact ⟨cs, fr, (hk b cs fr hc).trans hc⟩
theorem block_lt {w : World} {b : Nat} {o : Obj} (h : w.heap[b]? = some o) : b < w.heap.size := (Array.getElem?_eq_some_iff.1 h).1
theorem Typed.on {w w' : World} {A : Option Addr} {t : TypeId} (h : Typed w A t) (hb : Below w.heap.size w w') : Typed w' A t := h.keep fun b _ _ hc => hb.block b (block_lt hc)
/-- A slice of bytes that may stand in a row. -/
structure El (w : World) (A : Option Addr) (n c : Nat) (l : List UInt8) : Prop where
  sl : Sl w A n c 1 (bcells l)
  ty : Typed w A 5
  fm : Fm A
theorem El.none_ (w : World) : El w none 0 0 [] := ⟨Sl.none_ _ _, Typed.none_ _ _, .inl rfl⟩
theorem El.on {w w' : World} {A : Option Addr} {n c : Nat} {l : List UInt8} (h : El w A n c l) (hb : Below w.heap.size w w') : El w' A n c l := ⟨h.sl.on hb, h.ty.on hb, h.fm⟩
theorem Sl.keep {w w' : World} {A : Option Addr} {n c size : Nat} {cs : List Value} (h : Sl w A n c size cs) (hk : ∀ b off, A = some ⟨b, off, none⟩ → w'.heap[b]? = w.heap[b]?) : Sl w' A n c size cs := by
  refine ⟨h.len, h.le, h.cap, h.nil, ?_⟩
  rcases h.row with h0 | ⟨b, off, hA, hc⟩
  · exact .inl h0
  · exact .inr ⟨b, off, hA, fun i u hu => (World.cell?_of_block (a := ⟨b, off + i, none⟩) (hk b off hA)).trans (hc i u hu)⟩
/-- Behind an append to a row of another type. -/
theorem El.grown {w w' : World} {A : Option Addr} {n c : Nat} {l : List UInt8} (h : El w A n c l) {base size m : Nat} {e : TypeId} {v : Value} {xs : List Value} (hg : w.grownBy w' v.ownBlock) (ho : w.ownsRow base e size v m xs) (hne : e ≠ 5) : El w' A n c l := by
  have hk : ∀ (b : Nat) (cs : Array Value) (fr : Nat × Nat), w.heap[b]? = some (Obj.cells cs 5 fr) → w'.heap[b]? = w.heap[b]? := fun b cs fr hc => by
    refine hg.block b (block_lt hc) fun he => ?_
    rcases ho.2 with ⟨rfl, _⟩ | ⟨g', cap, cur, rfl, _, hh, _⟩
    · cases he
    · simp only [Value.ownBlock] at he
      injection he with he; subst he
      rw [hc] at hh; injection hh with hh; injection hh with _ h2; exact hne h2.symm
  refine ⟨h.sl.keep fun b off hA => ?_, h.ty.keep hk, h.fm⟩
  obtain ⟨cs, fr, hc⟩ := h.ty b off hA
  exact hk b cs fr hc
theorem El.of_own {w : World} {base n : Nat} {v : Value} {l : List UInt8} (h : w.ownsRow base 5 1 v n (bcells l)) : ∃ A c, v = .slice A n c ∧ El w A n c l := by
  obtain ⟨A, c, hv, hs, fm⟩ := Sl.of_own h
  refine ⟨A, c, hv, hs, fun b off hA => ?_, fm⟩
  rcases h.2 with ⟨h0, _⟩ | ⟨g, cap, cur, h1, _, hh, _⟩
  · rw [hv, hA] at h0; cases h0
  · rw [hv, hA] at h1
    injection h1 with h1 _ _
    injection h1 with h1
    injection h1 with h1 _ _
    subst h1
    exact ⟨_, _, hh⟩
theorem El.cut {w : World} {A : Option Addr} {n c : Nat} {l : List UInt8} (h : El w A n c l) (k : Nat) (hk : k ≤ n) (B : Option Addr) (hB : B = if c = k then A else A.map (fun x => x.add k)) : El w B (n - k) (c - k) (l.drop k) := by
  subst hB
  have hl := h.sl.len
  have hle := h.sl.le
  have hcap := h.sl.cap
  have hrow := h.sl.row.cut k c (by omega)
  refine ⟨⟨by rw [bcells_len, List.length_drop]; rw [bcells_len] at hl; omega, by omega, by omega, fun hA => ?_, by rw [← bcells_drop]; exact hrow⟩, fun b off hA => ?_, ?_⟩
  · have : A = none := by
      by_cases hc : c = k
      · rw [if_pos hc] at hA; exact hA
      · rw [if_neg hc] at hA; cases A with
        | none => rfl
        | some a => cases hA
    have := h.sl.nil this
    omega
  · by_cases hc : c = k
    · rw [if_pos hc] at hA; exact h.ty b off hA
    · rw [if_neg hc] at hA
      rcases h.fm with rfl | ⟨b', off', rfl⟩
      · cases hA
      · rw [Option.map_some, addr_at] at hA
        injection hA with hA; injection hA with e1 e2 _
        subst e1
        exact h.ty b' off' rfl
  · by_cases hc : c = k
    · rw [if_pos hc]; exact h.fm
    · rw [if_neg hc]
      rcases h.fm with rfl | ⟨b', off', rfl⟩
      · exact .inl rfl
      · rw [Option.map_some, addr_at]; exact .inr ⟨_, _, rfl⟩
theorem El.front {w : World} {A : Option Addr} {n c : Nat} {l : List UInt8} (h : El w A n c l) (k : Nat) (hk : k ≤ n) : El w A k c (l.take k) := by
  have hl := h.sl.len
  have hle := h.sl.le
  rw [bcells_len] at hl
  refine ⟨⟨by rw [bcells_len, List.length_take]; omega, by omega, h.sl.cap, fun hA => ?_, by rw [← bcells_take]; exact h.sl.row.take k⟩, h.ty, h.fm⟩
  have := h.sl.nil hA
  omega
/-- These cells are slices that read so. -/
def Lst (w : World) (vs : List Value) (ls : List (List UInt8)) : Prop := vs.length = ls.length ∧ ∀ (i : Nat) (l : List UInt8), ls[i]? = some l → ∃ A n c, vs[i]? = some (Value.slice A n c) ∧ El w A n c l
theorem Lst.nil (w : World) : Lst w [] [] := ⟨rfl, fun i l h => by simp at h⟩
theorem Lst.on {w w' : World} {vs : List Value} {ls : List (List UInt8)} (h : Lst w vs ls) (hb : Below w.heap.size w w') : Lst w' vs ls :=
  ⟨h.1, fun i l hl => by obtain ⟨A, n, c, e, he⟩ := h.2 i l hl; exact ⟨A, n, c, e, he.on hb⟩⟩
theorem Lst.grown {w w' : World} {vs : List Value} {ls : List (List UInt8)} (h : Lst w vs ls) {base size m : Nat} {e : TypeId} {v : Value} {xs : List Value} (hg : w.grownBy w' v.ownBlock) (ho : w.ownsRow base e size v m xs) (hne : e ≠ 5) : Lst w' vs ls :=
  ⟨h.1, fun i l hl => by obtain ⟨A, n, c, e, he⟩ := h.2 i l hl; exact ⟨A, n, c, e, he.grown hg ho hne⟩⟩
theorem Lst.app {w : World} {vs us : List Value} {ls ks : List (List UInt8)} (h : Lst w vs ls) (h' : Lst w us ks) : Lst w (vs ++ us) (ls ++ ks) := by
  refine ⟨by rw [List.length_append, List.length_append, h.1, h'.1], fun i l hl => ?_⟩
  rcases Nat.lt_or_ge i ls.length with hi | hi
  · rw [List.getElem?_append_left hi] at hl
    obtain ⟨A, n, c, e, he⟩ := h.2 i l hl
    exact ⟨A, n, c, by rw [List.getElem?_append_left (by rw [h.1]; exact hi)]; exact e, he⟩
  · rw [List.getElem?_append_right hi] at hl
    obtain ⟨A, n, c, e, he⟩ := h'.2 _ l hl
    exact ⟨A, n, c, by rw [List.getElem?_append_right (by rw [h.1]; exact hi), h.1]; exact e, he⟩
theorem Lst.one {w : World} {A : Option Addr} {n c : Nat} {l : List UInt8} (h : El w A n c l) : Lst w [Value.slice A n c] [l] :=
  ⟨rfl, fun i l' hl => by
    match i, hl with
    | 0, hl => cases hl; exact ⟨A, n, c, rfl, h⟩⟩
theorem Lst.get {w : World} {vs : List Value} {ls : List (List UInt8)} (h : Lst w vs ls) {k : Nat} (hk : k < ls.length) : ∃ A n c, vs[k]? = some (Value.slice A n c) ∧ El w A n c ls[k] := h.2 k _ (List.getElem?_eq_getElem hk)
theorem Lst.cell1 {w : World} {vs : List Value} {ls : List (List UInt8)} (h : Lst w vs ls) : ∀ u ∈ vs, u.oneCell' = true := by
  intro u hu
  obtain ⟨i, hi, rfl⟩ := List.mem_iff_getElem.1 hu
  obtain ⟨A, n, c, e, _⟩ := h.get (k := i) (by rw [← h.1]; exact hi)
  rw [List.getElem?_eq_getElem hi] at e
  injection e with e
  rw [e]; rfl
/-- A slice of slices of bytes: its head, and what its elements read as. -/
def SlL (w : World) (A : Option Addr) (n c : Nat) (ls : List (List UInt8)) : Prop := ∃ vs, Sl w A n c 1 vs ∧ Lst w vs ls
theorem SlL.on {w w' : World} {A : Option Addr} {n c : Nat} {ls : List (List UInt8)} (h : SlL w A n c ls) (hb : Below w.heap.size w w') : SlL w' A n c ls := by
  obtain ⟨vs, h1, h2⟩ := h; exact ⟨vs, h1.on hb, h2.on hb⟩
theorem SlL.len {w : World} {A : Option Addr} {n c : Nat} {ls : List (List UInt8)} (h : SlL w A n c ls) : ls.length = n := by
  obtain ⟨vs, h1, h2⟩ := h
  have := h1.len; rw [← h2.1]; omega
theorem SlL.none_ (w : World) : SlL w none 0 0 [] := ⟨[], Sl.none_ _ _, Lst.nil _⟩
/-- An element of it, as a cell. -/
theorem SlL.get {w : World} {A : Option Addr} {n c : Nat} {ls : List (List UInt8)} (h : SlL w A n c ls) {k : Nat} (hk : k < ls.length) :
    ∃ b off, A = some ⟨b, off, none⟩ ∧ ∃ B m d, w.cell? ⟨b, off + k, none⟩ = some (Value.slice B m d) ∧ El w B m d ls[k] := by
  obtain ⟨vs, h1, h2⟩ := h
  obtain ⟨B, m, d, e, he⟩ := h2.get hk
  rcases h1.row with h0 | ⟨b, off, hA, hc⟩
  · subst h0; simp at e
  · exact ⟨b, off, hA, B, m, d, hc k _ e, he⟩
end Go.Proofs.Ytaimciblkimgkaa
