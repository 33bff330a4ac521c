/-
  Arguments opened: slices of numbers and of structs as lists.
-/
import Derived.Test.YtaimciblkimgkaaMem
import Derived.Deep.Slices
import Derived.Deep.Fields
import Derived.ChangeSame
import Derived.ChangeSlices
namespace Go.Proofs.Ytaimciblkimgkaa
open Go.ChangeShapes Go.WideShapes Go.RowKit Go.Deep

theorem cells_sl (A : Option Addr) (n c : Nat) : (Value.slice A n c).cells.toList = [.slice A n c] := rfl
theorem list2 {α : Type} {l : List α} (h : l.length = 2) : ∃ a b, l = [a, b] := by
  match l, h with
  | [a, b], _ => exact ⟨a, b, rfl⟩
theorem list_of {α : Type} {P : Nat → α → Prop} : ∀ {n : Nat}, (∀ i, i < n → ∃ x, P i x) → ∃ l : List α, l.length = n ∧ ∀ i x, l[i]? = some x → P i x
  | 0, _ => ⟨[], rfl, fun i x h => by simp at h⟩
  | n + 1, h => by
    obtain ⟨l, hl, hp⟩ := list_of (n := n) fun i hi => h i (by omega)
    obtain ⟨x, hx⟩ := h n (by omega)
    refine ⟨l ++ [x], by simp [hl], fun i y hy => ?_⟩
    rcases Nat.lt_or_ge i n with hi | hi
    · rw [List.getElem?_append_left (by omega)] at hy; exact hp i y hy
    · rw [List.getElem?_append_right (by omega)] at hy
      have : i = n := by
        rcases Nat.lt_or_ge (i - l.length) 1 with h1 | h1
        · omega
        · rw [List.getElem?_eq_none (by simpa using h1)] at hy; cases hy
      subst this
      rw [hl, Nat.sub_self] at hy; injection hy with hy; subst hy; exact hx
theorem flat_get {α : Type} {R : α → List Value} {k : Nat} (hk : 0 < k) : ∀ {l : List α} {i : Nat} {u : Value}, (∀ a ∈ l, (R a).length = k) → (l.flatMap R)[i]? = some u → ∃ a, l[i / k]? = some a ∧ (R a)[i % k]? = some u
  | [], i, u, _, h => by simp at h
  | a :: l, i, u, hR, h => by
    rw [List.flatMap_cons] at h
    have ha := hR a (by simp)
    rcases Nat.lt_or_ge i k with hi | hi
    · rw [List.getElem?_append_left (by omega)] at h
      exact ⟨a, by rw [Nat.div_eq_of_lt hi]; rfl, by rw [Nat.mod_eq_of_lt hi]; exact h⟩
    · rw [List.getElem?_append_right (by omega), ha] at h
      obtain ⟨b, h1, h2⟩ := flat_get hk (fun x hx => hR x (by simp [hx])) h
      refine ⟨b, ?_, ?_⟩
      · rw [Nat.div_eq_sub_div hk hi]; simpa using h1
      · rw [Nat.mod_eq_sub_mod hi]; exact h2
theorem flat_len {α : Type} {R : α → List Value} {k : Nat} : ∀ {l : List α}, (∀ a ∈ l, (R a).length = k) → (l.flatMap R).length = l.length * k
  | [], _ => by simp
  | a :: l, h => by
    rw [List.flatMap_cons, List.length_append, flat_len (fun x hx => h x (by simp [hx])), h a (by simp), List.length_cons, Nat.succ_mul]; omega
section
variable {H : Type} {enc : TypeId × Value → H} {P : Program} {w : World} {base : Nat} {spare : Nat → Bool} {held : Bool}
/-- A slice comes in: it reads as a list of what each element reads as. -/
theorem open_sl {α : Type} {R : α → List Value} {Q : α → Prop} {t e : TypeId} {k fuel : Nat} {A : Option Addr} {n c : Nat} {x : DataW H × List MemPlace} (ht : P.underlying t = some (.slice e)) (hC : P.cellsOf e = k) (hk : 0 < k)
    (hel : ∀ (fuel : Nat) (cs : List Value) (x : DataW H × List MemPlace), DataW.trod enc P w base spare held fuel e cs = some x → ∃ a, cs = R a ∧ Q a) (hlen : ∀ a, (R a).length = k)
    (h : DataW.trod enc P w base spare held fuel t [.slice A n c] = some x) : ∃ l : List α, l.length = n ∧ Sl w A n c k (l.flatMap R) ∧ ∀ a ∈ l, Q a := by
  rcases open_slice ht h with ⟨hcs, _⟩ | ⟨a, len, cap, m, f, D, Pl, hcs, hb, hl, hm, hmm, _, hi⟩
  · injection hcs with hcs; injection hcs with h1 h2 h3; subst h1; subst h2; subst h3
    exact ⟨[], rfl, Sl.none_ _ _, fun a ha => by cases ha⟩
  · injection hcs with hcs; injection hcs with h1 h2 h3; subst h1; subst h2; subst h3
    have hnm : n ≤ m := by rw [hmm]; split <;> omega
    obtain ⟨l, hll, hlp⟩ := list_of (n := n) (P := fun i (y : α) => Q y ∧ w.cells? base (a.add (i * k)) k = some (R y)) fun i hin => by
      obtain ⟨cs', hc, ht'⟩ := hi i (by omega)
      rw [hC] at hc
      obtain ⟨y, rfl, hq⟩ := hel _ _ _ ht'
      exact ⟨y, hq, hc⟩
    refine ⟨l, hll, ⟨by rw [flat_len (fun x _ => hlen x), hll], hl, hm, (fun h => by cases h), ?_⟩, fun y hy => ?_⟩
    · rcases Nat.eq_zero_or_pos n with h0 | hn
      · subst h0
        obtain rfl := List.eq_nil_of_length_eq_zero hll
        exact .inl rfl
      · have cell : ∀ i u, (l.flatMap R)[i]? = some u → w.cell? (a.add i) = some u := fun i u hu => by
          obtain ⟨y, h1, h2⟩ := flat_get hk (fun x _ => hlen x) hu
          have ⟨_, hc⟩ := hlp _ _ h1
          have hlt : i % k < k := Nat.mod_lt _ hk
          have := (World.cells?_some hc).2.2 (i % k) hlt
          rw [add_add, h2] at this
          rw [← this]; congr 2
          rw [Nat.mul_comm]; exact (Nat.div_add_mod i k).symm
        obtain ⟨y, hy⟩ : ∃ y, l[0]? = some y := ⟨l[0], List.getElem?_eq_getElem (by omega)⟩
        have h00 : ∃ u, (l.flatMap R)[0]? = some u := by
          have : 0 < (l.flatMap R).length := by rw [flat_len (fun x _ => hlen x), hll]; exact Nat.mul_pos hn hk
          exact ⟨_, List.getElem?_eq_getElem this⟩
        obtain ⟨u, hu⟩ := h00
        obtain ⟨b, off, spot⟩ := a
        have hs : spot = none := by simpa [Addr.add] using World.cell?_spot (cell 0 u hu)
        subst hs
        exact .inr ⟨b, off, rfl, fun i u hu => by have := cell i u hu; rwa [addr_at] at this⟩
    · obtain ⟨i, hi⟩ := List.mem_iff_getElem?.1 hy
      exact (hlp _ _ hi).1
/-- A struct of one-cell fields comes in: its cells, one by one. -/
theorem trod_cells {t : TypeId} {fs : Array Field} {fuel : Nat} {cs : List Value} {x : DataW H × List MemPlace} (hs : P.underlying t = some (.struct fs)) (hone : oneCellFields P fs = true) (hC : P.cellsOf t = fs.size)
    (h : DataW.trod enc P w base spare held fuel t cs = some x) :
    ∃ n, cs.length = fs.size ∧ ∀ (i : Nat) (f : Field), fs[i]? = some f → ∃ v y, cs[i]? = some v ∧ DataW.trod enc P w base spare held n f.type [v] = some y := by
  obtain ⟨xs, n, _, _, hl, hx, hf⟩ := DataW.trod_struct hs h
  refine ⟨n, hl.trans hC, fun i f hi => ?_⟩
  have ⟨ho, hk⟩ := hone_of hone i f hi
  have hlt : i < fs.size := (Array.getElem?_eq_some_iff.1 hi).1
  have hic : i < cs.length := by rw [hl, hC]; exact hlt
  have h1 := hf i f hi
  rw [ho, hk, List.drop_eq_getElem_cons hic, List.take_succ_cons, List.take_zero, List.getElem?_eq_getElem (by rw [hx]; exact hlt)] at h1
  exact ⟨_, _, List.getElem?_eq_getElem hic, h1⟩
theorem open_bytes {t e : TypeId} {fuel : Nat} {A : Option Addr} {n c : Nat} {x : DataW H × List MemPlace} (ht : P.underlying t = some (.slice e)) (he : P.underlying e = some (.int .u8)) (hC : P.cellsOf e = 1)
    (h : DataW.trod enc P w base spare held fuel t [.slice A n c] = some x) : ∃ l : List UInt8, l.length = n ∧ Sl w A n c 1 (bcells l) := by
  obtain ⟨l, h1, h2, _⟩ := open_sl (R := fun c : UInt8 => [Value.int .u8 c.toNat]) (Q := fun _ => True) ht hC (by omega) (fun f cs x hx => by
    obtain ⟨n, rfl, _, hw⟩ := DataW.trod_int he hx
    have ⟨b0, b1⟩ : 0 ≤ n ∧ n ≤ 255 := by simpa [Lit.wf, IntKind.min, IntKind.max, IntKind.signed, IntKind.bits] using hw
    exact ⟨UInt8.ofNat n.toNat, by simp; omega, trivial⟩) (fun _ => rfl) h
  refine ⟨l, h1, ?_⟩
  have : l.flatMap (fun c : UInt8 => [Value.int .u8 c.toNat]) = bcells l := by unfold bcells; rw [List.map_eq_flatMap]
  rwa [this] at h2
end
end Go.Proofs.Ytaimciblkimgkaa
