/-
  Regions that draw their order: loads of structs are taken first, a struct is stored; by hand.
-/
import Derived.Test.YtblkdmbkkimbpaaMsgBlk
import Derived.Deep.RegionHeld3
import Derived.Deep.CutBlock
namespace Go.Proofs.Ytblkdmbkkimbpaa
open Go.RowKit

/-- As 'wpAnyH_take' and 'AllReadyH.cons': the operation written out by its place in the list. -/
theorem at_place {ops : Array Oper} {i : Nat} {o : Oper} (h : (ops.toList.drop i).head? = some o) : ops[i]? = some o := by
  rw [List.head?_drop, Array.getElem?_toList] at h
  exact h
theorem op_put {w W : World} {bs : List (Nat × TypeId × Array Value)} {gx : Nat} {t : TypeId} {cs : Array Value} {o : Oper} {a : Act} {K : Act → World → Prop} {Q : Exit → Act → World → Prop} (ty : TypeId) (x y : Operand) (ho : o.op = .store ty x y)
    (vs : Array Value) (hx : a.eval x = .pointer (some ⟨gx, 0, none⟩)) (hy : a.eval y = .agg vs) (h : RI w ((gx, t, cs) :: bs) W) (hsz : cs.size = vs.size)
    (hi : (Try.prog.info? ty).map (·.size) = some vs.size) (h1 : vs.all (·.oneCell') = true)
    (hk : ∀ w', RI w ((gx, t, vs) :: bs) w' → (∀ k, k ≠ gx → w'.heap[k]? = W.heap[k]?) → K (a.put o.dst undef) w') : o.wp Try.prog a W K Q :=
  wp_store_mid ty x y ho gx 0 vs hx hy (there_box h.bx 0 vs.size (by omega)) hi h1 (hk _ (by have h' := h.sets 0 vs.toList; rw [setAll_whole cs vs hsz] at h'; exact h') fun k hne => block_sets gx vs.toList W 0 k hne)
theorem step_put {w W : World} {bs : List (Nat × TypeId × Array Value)} {gx : Nat} {t : TypeId} {cs : Array Value} {ops : Array Oper} {o : Oper} {a : Act} {K : Act → World → Prop} {Q : Exit → Act → World → Prop} {E : Prop} (hgd : o.guard = none) (ty : TypeId) (x y : Operand) (ho : o.op = .store ty x y)
    (vs : Array Value) (hx : a.eval x = .pointer (some ⟨gx, 0, none⟩)) (hy : a.eval y = .agg vs) (h : RI w ((gx, t, cs) :: bs) W) (hsz : cs.size = vs.size)
    (hi : (Try.prog.info? ty).map (·.size) = some vs.size) (h1 : vs.all (·.oneCell') = true)
    (hk : ∀ w', RI w ((gx, t, vs) :: bs) w' → (∀ k, k ≠ gx → w'.heap[k]? = W.heap[k]?) → K (a.put o.dst undef) w') : if Region.wanted o (yielded ops a.tmps) = true then Oper.wp Try.prog o a W K Q else E := by
  have hw : Region.wanted o (yielded ops a.tmps) = true := by simp [Region.wanted, hgd]
  rw [if_pos hw]
  exact op_put ty x y ho vs hx hy h hsz hi h1 hk
theorem step_put1 {w W : World} {bs : List (Nat × TypeId × Array Value)} {gx : Nat} {t : TypeId} {cs : Array Value} {ops : Array Oper} {o : Oper} {a : Act} {K : Act → World → Prop} {Q : Exit → Act → World → Prop} {E : Prop} (hgd : o.guard = none) (ty : TypeId) (x y : Operand) (ho : o.op = .store ty x y)
    (i : Nat) (z : Value) (hx : a.eval x = .pointer (some ⟨gx, i, none⟩)) (hy : a.eval y = z) (hone : z.oneCell' = true) (h : RI w ((gx, t, cs) :: bs) W) (hi : i < cs.size)
    (hsz : (Try.prog.info? ty).map (·.size) = some 1)
    (hk : ∀ w', RI w ((gx, t, cs.setIfInBounds i z) :: bs) w' → (∀ k, k ≠ gx → w'.heap[k]? = W.heap[k]?) → K (a.put o.dst undef) w') : if Region.wanted o (yielded ops a.tmps) = true then Oper.wp Try.prog o a W K Q else E := by
  have hw : Region.wanted o (yielded ops a.tmps) = true := by simp [Region.wanted, hgd]
  rw [if_pos hw]
  have hcv : z.cells = #[z] := by
    generalize z = u at hone ⊢
    cases u <;> simp_all [Value.oneCell', Value.cells]
  have hst : (storeVar ty ⟨gx, i, none⟩ z).run Try.prog W = .ok () (W.setCell ⟨gx, i, none⟩ z) := by
    have h2 := run_storeCells_cells (P := Try.prog) gx i [z] 0 W (fun j hj => by
      simp at hj; subst hj
      rw [h.cell]; simp [hi]) (fun j hj => h.bx.free _) (fun u hu => by simp at hu; rw [hu]; exact hone)
    cases hq : Try.prog.info? ty with
    | none => simp [hq] at hsz
    | some i0 =>
      have h1 : i0.size = 1 := by simpa [hq] using hsz
      simp [storeVar, hcv, sizeOf, typeInfo, hq, h1, h2, World.setCells]
  unfold Oper.wp execOp
  simp only [ho, hx, hy, Instr.storeAt, Instr.sureAddr, Sem.run_bind, Sem.run_pure, Result.andThen_ok, hst]
  exact hk _ (h.set i z) fun k hne => Below.heap_setCell _ _ _ k hne
theorem y_load {P : Program} {ops : Array Oper} {S : World → Prop} {o : Oper} {a : Act} {g : Nat} {t : TypeId} {cs : Array Value} (hw : Region.wanted o (yielded ops a.tmps) = true) (hS : ∀ w, S w → Box w g t cs) (ty : TypeId) (x : Operand) (ho : o.op = .load ty x) (hx : a.eval x = .pointer (some ⟨g, 0, none⟩)) (d : TypeDesc)
    (hu : P.underlying ty = some d) (hd : (match d with | .struct _ | .array _ _ => true | _ => false) = true) (hi : (P.info? ty).map (·.size) = some cs.size) : YieldsIf P ops S o (.agg cs) a :=
  .inl ⟨hw, fun w hc => by unfold execOp; simp only [ho, hx, Instr.loadAt, Instr.sureAddr, Sem.run_bind, Sem.run_pure, Result.andThen_ok, run_loadVar_row w g t ty cs (0, 0) d (hS w hc) hu hd hi]⟩
theorem y_move {P : Program} {ops : Array Oper} {S : World → Prop} {o : Oper} {a : Act} (hw : Region.wanted o (yielded ops a.tmps) = true) (x : Operand) (ho : o.op = .move x ∨ o.op = .assign x) (v : Value) (hx : a.eval x = v) : YieldsIf P ops S o v a :=
  .inl ⟨hw, fun w _ => by rcases ho with ho | ho <;> (unfold execOp; simp only [ho, hx, Sem.run_pure])⟩
end Go.Proofs.Ytblkdmbkkimbpaa
