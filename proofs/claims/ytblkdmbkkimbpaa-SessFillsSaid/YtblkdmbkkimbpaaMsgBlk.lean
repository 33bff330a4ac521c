/-
  Blocks that are known whole, over calls, new blocks and stores.
-/
import Derived.Test.YtblkdmbkkimbpaaMsgBox
namespace Go.Proofs.Ytblkdmbkkimbpaa
open Go.RowKit

/-- Blocks that are known whole. -/
structure RI (w : World) (bs : List (Nat × TypeId × Array Value)) (W : World) : Prop where
  box : ∀ b ∈ bs, Box W b.1 b.2.1 b.2.2
  low : ∀ b ∈ bs, w.heap.size ≤ b.1
  nd : (bs.map (·.1)).Nodup
  below : Below w.heap.size w W
section
variable {w W : World} {bs : List (Nat × TypeId × Array Value)} {gx : Nat} {t : TypeId} {cs : Array Value}
theorem RI.start (w : World) : RI w [] w := ⟨(fun b hb => by cases hb), (fun b hb => by cases hb), List.nodup_nil, Below.refl _ _⟩
theorem RI.bx (h : RI w ((gx, t, cs) :: bs) W) : Box W gx t cs := h.box _ (List.mem_cons_self ..)
theorem RI.on {W' : World} (h : RI w bs W) (hb : Below W.heap.size W W') : RI w bs W' := ⟨fun b hm => (h.box b hm).on hb, h.low, h.nd, h.below.trans (hb.mono h.below.size)⟩
theorem RI.add (h : RI w bs W) (t : TypeId) (cs : Array Value) : RI w ((W.heap.size, t, cs) :: bs) (W.alloc (.cells cs t)) := by
  have h' := h.on ((Below.refl W.heap.size W).alloc (Nat.le_refl _) (.cells cs t))
  refine ⟨fun b hm => ?_, fun b hm => ?_, ?_, h'.below⟩
  · rcases List.mem_cons.1 hm with rfl | hm
    · exact Box.new _ _ _
    · exact h'.box b hm
  · rcases List.mem_cons.1 hm with rfl | hm
    · exact h.below.size
    · exact h.low b hm
  · refine List.nodup_cons.2 ⟨fun hm => ?_, h.nd⟩
    obtain ⟨b, hb', e⟩ := List.mem_map.1 hm
    have := (h.box b hb').lt
    have e : b.1 = W.heap.size := e
    omega
theorem RI.sets (h : RI w ((gx, t, cs) :: bs) W) (o : Nat) (vs : List Value) : RI w ((gx, t, setAll cs o vs) :: bs) (W.setCells gx o vs) := by
  have hnd := List.nodup_cons.1 (show (gx :: bs.map (·.1)).Nodup from h.nd)
  have hl := h.low _ (List.mem_cons_self ..)
  refine ⟨fun b hb => ?_, fun b hb => ?_, h.nd, below_sets hl vs o h.below⟩
  · rcases List.mem_cons.1 hb with rfl | hb
    · exact h.bx.sets vs o
    · have hne : b.1 ≠ gx := fun e => hnd.1 (List.mem_map.2 ⟨b, hb, e⟩)
      exact (block_sets gx vs W o b.1 hne).trans (h.box b (List.mem_cons_of_mem _ hb))
  · rcases List.mem_cons.1 hb with rfl | hb
    · exact hl
    · exact h.low b (List.mem_cons_of_mem _ hb)
theorem RI.set (h : RI w ((gx, t, cs) :: bs) W) (o : Nat) (v : Value) : RI w ((gx, t, cs.setIfInBounds o v) :: bs) (W.setCell ⟨gx, o, none⟩ v) := h.sets o [v]
theorem RI.swap {b b' : Nat × TypeId × Array Value} (h : RI w (b :: b' :: bs) W) : RI w (b' :: b :: bs) W := by
  have hm : ∀ x, x ∈ b' :: b :: bs → x ∈ b :: b' :: bs := fun x hx => by
    simp only [List.mem_cons] at hx ⊢
    rcases hx with h1 | h1 | h1
    · exact .inr (.inl h1)
    · exact .inl h1
    · exact .inr (.inr h1)
  refine ⟨fun x hx => h.box x (hm x hx), fun x hx => h.low x (hm x hx), ?_, h.below⟩
  have := h.nd
  simp only [List.map_cons, List.nodup_cons, List.mem_cons, not_or] at this ⊢
  exact ⟨⟨fun e => this.1.1 e.symm, this.2.1⟩, this.1.2, this.2.2⟩
theorem ri_store {ops : Array Oper} {rest : List Oper} {op : Oper} {a : Act} {Q : Exit → Act → World → Prop} (hgd : op.guard = none) (ty : TypeId) (x y : Operand) (ho : op.op = .store ty x y)
    (off : Nat) (vs : Array Value) (hx : a.eval x = .pointer (some ⟨gx, off, none⟩)) (hy : a.eval y = .agg vs) (h : RI w ((gx, t, cs) :: bs) W) (hsz : off + vs.size ≤ cs.size)
    (hi : (Try.prog.info? ty).map (·.size) = some vs.size) (h1 : vs.all (·.oneCell') = true)
    (hk : ∀ w', RI w ((gx, t, setAll cs off vs.toList) :: bs) w' → wpList Try.prog ops Q rest (a.put op.dst undef) w') : wpList Try.prog ops Q (op :: rest) a W :=
  wpList_store_mid hgd ty x y ho gx off vs hx hy (there_box h.bx off vs.size hsz) hi h1 (hk _ (h.sets off vs.toList))
end
section
variable {w W : World} {bs : List (Nat × TypeId × Array Value)} {gx : Nat} {t : TypeId} {cs : Array Value}
theorem RI.tail {b : Nat × TypeId × Array Value} (h : RI w (b :: bs) W) : RI w bs W :=
  ⟨fun x hx => h.box x (List.mem_cons_of_mem _ hx), fun x hx => h.low x (List.mem_cons_of_mem _ hx), (List.nodup_cons.1 (show (b.1 :: bs.map (·.1)).Nodup from h.nd)).2, h.below⟩
theorem below_dn {B : Nat} {a w : World} (h : Below B a w) (q : Nat) : Below B a (w.drewN q) := ⟨h.os, h.tape, h.output, h.size, h.block⟩
theorem RI.dn (h : RI w bs W) (q : Nat) : RI w bs (W.drewN q) := h.on (below_dn (Below.refl _ _) q)
theorem RI.addAt (h : RI w bs W) (t : TypeId) (cs : Array Value) (N : Nat) (hN : W.heap.size = N) : RI w ((N, t, cs) :: bs) (W.alloc (.cells cs t)) := hN ▸ h.add t cs
theorem RI.rot3 {b b' b'' : Nat × TypeId × Array Value} (h : RI w (b :: b' :: b'' :: bs) W) : RI w (b'' :: b :: b' :: bs) W := by
  have hp : (b'' :: b :: b' :: bs).Perm (b :: b' :: b'' :: bs) := (List.Perm.swap b b'' (b' :: bs)).trans ((List.Perm.swap b' b'' bs).cons b)
  exact ⟨fun x hx => h.box x (hp.mem_iff.1 hx), fun x hx => h.low x (hp.mem_iff.1 hx), ((hp.map (·.1)).nodup_iff).2 h.nd, h.below⟩
theorem RI.cell (h : RI w ((gx, t, cs) :: bs) W) (i : Nat) : W.cell? ⟨gx, i, none⟩ = cs[i]? := h.bx.cell i
theorem setAll_size : ∀ (vs : List Value) (cs : Array Value) (o : Nat), (setAll cs o vs).size = cs.size
  | [], _, _ => rfl
  | v :: vs, cs, o => by rw [setAll, setAll_size vs]; simp
theorem setAll_get : ∀ (vs : List Value) (cs : Array Value) (o i : Nat), i < cs.size → (setAll cs o vs)[i]? = if o ≤ i ∧ i < o + vs.length then vs[i - o]? else cs[i]?
  | [], cs, o, i, _ => by rw [if_neg (by simp)]; rfl
  | v :: vs, cs, o, i, h => by
    rw [setAll, setAll_get vs _ (o + 1) i (by simpa using h)]
    by_cases h1 : o + 1 ≤ i ∧ i < o + 1 + vs.length
    · rw [if_pos h1, if_pos (by simp; omega), show i - o = (i - (o + 1)) + 1 by omega, List.getElem?_cons_succ]
    · rw [if_neg h1]
      by_cases h2 : i = o
      · subst h2
        rw [if_pos (by simp), Nat.sub_self, List.getElem?_cons_zero]
        simp [h]
      · rw [if_neg (by simp; omega)]
        simp [Ne.symm h2]
theorem setAll_whole (cs vs : Array Value) (h : cs.size = vs.size) : setAll cs 0 vs.toList = vs := by
  apply Array.ext
  · rw [setAll_size, h]
  · intro i h1 h2
    have := setAll_get vs.toList cs 0 i (by rw [setAll_size] at h1; exact h1)
    rw [if_pos (by simp; exact h2), Nat.sub_zero, Array.getElem?_eq_getElem h1] at this
    rw [Array.getElem?_toList, Array.getElem?_eq_getElem h2] at this
    exact Option.some.inj this
/-- A whole struct is stored over a whole block. -/
theorem ri_put {ops : Array Oper} {rest : List Oper} {op : Oper} {a : Act} {Q : Exit → Act → World → Prop} (hgd : op.guard = none) (ty : TypeId) (x y : Operand) (ho : op.op = .store ty x y)
    (vs : Array Value) (hx : a.eval x = .pointer (some ⟨gx, 0, none⟩)) (hy : a.eval y = .agg vs) (h : RI w ((gx, t, cs) :: bs) W) (hsz : cs.size = vs.size)
    (hi : (Try.prog.info? ty).map (·.size) = some vs.size) (h1 : vs.all (·.oneCell') = true)
    (hk : ∀ w', RI w ((gx, t, vs) :: bs) w' → (∀ k, k ≠ gx → w'.heap[k]? = W.heap[k]?) → wpList Try.prog ops Q rest (a.put op.dst undef) w') : wpList Try.prog ops Q (op :: rest) a W :=
  wpList_store_mid hgd ty x y ho gx 0 vs hx hy (there_box h.bx 0 vs.size (by omega)) hi h1 (hk _ (by have h' := h.sets 0 vs.toList; rw [setAll_whole cs vs hsz] at h'; exact h') fun k hne => block_sets gx vs.toList W 0 k hne)
/-- One cell is stored. -/
theorem ri_put1 {ops : Array Oper} {rest : List Oper} {op : Oper} {a : Act} {Q : Exit → Act → World → Prop} (hgd : op.guard = none) (ty : TypeId) (x y : Operand) (ho : op.op = .store ty x y)
    (i : Nat) (v : Value) (hx : a.eval x = .pointer (some ⟨gx, i, none⟩)) (hy : a.eval y = v) (hone : v.oneCell' = true) (h : RI w ((gx, t, cs) :: bs) W) (hi : i < cs.size)
    (hsz : (Try.prog.info? ty).map (·.size) = some 1)
    (hk : ∀ w', RI w ((gx, t, cs.setIfInBounds i v) :: bs) w' → (∀ k, k ≠ gx → w'.heap[k]? = W.heap[k]?) → wpList Try.prog ops Q rest (a.put op.dst undef) w') : wpList Try.prog ops Q (op :: rest) a W := by
  refine wpList_plain hgd fun _ hK => ?_
  have hcv : v.cells = #[v] := by
    generalize v = u at hone ⊢
    cases u <;> simp_all [Value.oneCell', Value.cells]
  have hst : (storeVar ty ⟨gx, i, none⟩ v).run Try.prog W = .ok () (W.setCell ⟨gx, i, none⟩ v) := by
    have h2 := run_storeCells_cells (P := Try.prog) gx i [v] 0 W (fun j hj => by
      simp at hj; subst hj
      rw [h.cell]; simp [hi]) (fun j hj => h.bx.free _) (fun u hu => by simp at hu; rw [hu]; exact hone)
    cases hq : Try.prog.info? ty with
    | none => simp [hq] at hsz
    | some i0 =>
      have h1 : i0.size = 1 := by simpa [hq] using hsz
      simp [storeVar, hcv, sizeOf, typeInfo, hq, h1, h2, World.setCells]
  unfold Oper.wp execOp
  simp only [ho, hx, hy, Instr.storeAt, Instr.sureAddr, Sem.run_bind, Sem.run_pure, Result.andThen_ok, hst]
  exact hK _ _ (hk _ (h.set i v) fun k hne => Below.heap_setCell _ _ _ k hne)
end
end Go.Proofs.Ytblkdmbkkimbpaa
