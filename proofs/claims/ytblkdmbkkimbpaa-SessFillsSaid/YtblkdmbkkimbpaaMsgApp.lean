/-
  Layer 7: a list of messages of the call's own, to which slices of messages are appended (also where the order is drawn).
-/
import Derived.Test.YtblkdmbkkimbpaaReseqTake
import Derived.Test.YtblkdmbkkimbpaaSessOpen
import Derived.Laws.AppendOwnNone
namespace Go.Proofs.Ytblkdmbkkimbpaa
open Go.RowKit

theorem infoM3 : (Try.prog.info? 41).map (fun i => (i.zero, i.size, i.bytes)) = some (some (.agg #[.int .i64 0, .int .i64 0, .int .i64 0, .bool false, .int .i64 0, .int .i64 0, .bool false, .string ⟨#[]⟩, .string ⟨#[]⟩, .string ⟨#[]⟩, .string ⟨#[]⟩, .string ⟨#[]⟩, .string ⟨#[]⟩, .int .i64 0, .bool false, .int .i64 0, .int .i64 0, .int .i64 0]), 18, 192) := by kernel_rfl
/-- A list of messages that is made, and blocks of other types that are known whole. -/
structure MJ (w : World) (bs : List (Nat × TypeId × Array Value)) (v : Value) (L : List Mg) (W : World) : Prop where
  ri : RI w bs W
  own : W.ownsRow w.heap.size 41 18 v L.length (mcells L)
  ty : ∀ b ∈ bs, b.2.1 ≠ 41
section
variable {w W : World} {bs : List (Nat × TypeId × Array Value)} {gx : Nat} {t : TypeId} {cs : Array Value} {v : Value} {L : List Mg}
theorem MJ.on {W' : World} (h : MJ w bs v L W) (hb : Below W.heap.size W W') : MJ w bs v L W' := ⟨h.ri.on hb, own_on h.own hb, h.ty⟩
theorem MJ.sl {A : Option Addr} {n c : Nat} (h : MJ w bs (.slice A n c) L W) (hl : L.length = n) : Sl W A n c 18 (mcells L) := by
  obtain ⟨A2, c2, he, hs, _⟩ := Sl.of_own h.own
  injection he with e1 e2 e3
  subst e1; subst e3
  rw [hl] at hs
  exact hs
/-- A block that is known whole is written. -/
theorem MJ.put {W' : World} {vs : Array Value} (h : MJ w ((gx, t, cs) :: bs) v L W) (h' : RI w ((gx, t, vs) :: bs) W') (hw : ∀ k, k ≠ gx → W'.heap[k]? = W.heap[k]?) : MJ w ((gx, t, vs) :: bs) v L W' :=
  ⟨h', own_far h.own h.ri.bx (h.ty _ (List.mem_cons_self ..)) hw, fun b hb => by
    rcases List.mem_cons.1 hb with rfl | hb
    · exact h.ty (gx, t, cs) (List.mem_cons_self ..)
    · exact h.ty b (List.mem_cons_of_mem _ hb)⟩
theorem MJ.add (h : MJ w bs v L W) (t : TypeId) (cs : Array Value) (ht : t ≠ 41) : MJ w ((W.heap.size, t, cs) :: bs) v L (W.alloc (.cells cs t)) :=
  ⟨h.ri.add t cs, own_on h.own ((Below.refl _ _).alloc (Nat.le_refl _) _), fun b hb => by
    rcases List.mem_cons.1 hb with rfl | hb
    · exact ht
    · exact h.ty b hb⟩
theorem MJ.tail {b : Nat × TypeId × Array Value} (h : MJ w (b :: bs) v L W) : MJ w bs v L W := ⟨h.ri.tail, h.own, fun x hx => h.ty x (List.mem_cons_of_mem _ hx)⟩
theorem MJ.swap {b b' : Nat × TypeId × Array Value} (h : MJ w (b :: b' :: bs) v L W) : MJ w (b' :: b :: bs) v L W :=
  ⟨h.ri.swap, h.own, fun x hx => h.ty x (by simp only [List.mem_cons] at hx ⊢; rcases hx with h1 | h1 | h1; exact .inr (.inl h1); exact .inl h1; exact .inr (.inr h1))⟩
theorem op_app {o : Oper} {a : Act} {K' : Act → World → Prop} {Q : Exit → Act → World → Prop} (s x : Operand) (ho : o.op = .call { callee := .builtin .append, args := #[s, x], argTypes := #[33, 33] })
    (hs : a.eval s = v) (h : MJ w bs v L W) {A : Option Addr} {m c : Nat} (K : List Mg) (hx : a.eval x = .slice A m c) (hsl : Sl W A m c 18 (mcells K)) (hl : L.length + m ≤ 1000)
    (hk : ∀ v' w', MJ w bs v' (L ++ K) w' → K' (a.put o.dst v') w') : o.wp Try.prog a W K' Q := by
  obtain ⟨i0, hi, iz0, iz1, iz2⟩ := info_parts infoM3
  have hKm : K.length = m := by have := hsl.len; rw [mcells_len] at this; omega
  rcases A with _ | ad
  · have ⟨hm, hc⟩ := hsl.nil rfl
    subst hm; subst hc
    obtain rfl : K = [] := List.eq_nil_of_length_eq_zero hKm
    have hrun := run_append_owned_none (P := Try.prog) (w := W) w.heap.size 33 o.type 41 i0 18 Try.underlying33 hi v L.length (mcells L) h.own
    unfold Oper.wp
    simp [execOp, ho, resolve, invoke, builtin, hs, hx, hrun, Result.andThen]
    exact hk _ _ (by rw [List.append_nil]; exact h)
  · refine wp_append_own W s x 33 ho w.heap.size 41 i0 _ 18 192 Try.underlying33 hi iz0 iz1 iz2 rfl (by decide) v L.length (mcells L) hs h.own ad m c (mcells K) hx hsl.len (fun j u hu => ?_) (mcells_one K) (by unfold maxLen; omega) (by omega) h.ri.below.size ?_
    · rcases hsl.row with h0 | ⟨b, off, e, hc⟩
      · rw [h0] at hu; simp at hu
      · injection e with e; subst e; rw [addr_at]; exact hc j u hu
    · intro v' w' hown hg _
      exact hk _ _ ⟨h.ri.grown hg h.own h.ty, own_cast hown (mcells_app L K).symm (by rw [List.length_append, hKm]), h.ty⟩
theorem step_app {ops : Array Oper} {o : Oper} {a : Act} {K' : Act → World → Prop} {Q : Exit → Act → World → Prop} {E : Prop} (hgd : o.guard = none) (s x : Operand) (ho : o.op = .call { callee := .builtin .append, args := #[s, x], argTypes := #[33, 33] })
    (hs : a.eval s = v) (h : MJ w bs v L W) {A : Option Addr} {m c : Nat} (K : List Mg) (hx : a.eval x = .slice A m c) (hsl : Sl W A m c 18 (mcells K)) (hl : L.length + m ≤ 1000)
    (hk : ∀ v' w', MJ w bs v' (L ++ K) w' → K' (a.put o.dst v') w') : if Region.wanted o (yielded ops a.tmps) = true then Oper.wp Try.prog o a W K' Q else E := by
  have hw : Region.wanted o (yielded ops a.tmps) = true := by simp [Region.wanted, hgd]
  rw [if_pos hw]
  exact op_app s x ho hs h K hx hsl hl hk
/-- .. and what else is there stays. -/
theorem op_app2 {o : Oper} {a : Act} {K' : Act → World → Prop} {Q : Exit → Act → World → Prop} (s x : Operand) (ho : o.op = .call { callee := .builtin .append, args := #[s, x], argTypes := #[33, 33] })
    (hs : a.eval s = v) (h : MJ w bs v L W) {A : Option Addr} {m c : Nat} (K : List Mg) (hx : a.eval x = .slice A m c) (hsl : Sl W A m c 18 (mcells K)) (hl : L.length + m ≤ 1000)
    (hk : ∀ v' w', MJ w bs v' (L ++ K) w' → (∀ k, k < W.heap.size → v.ownBlock ≠ some k → w'.heap[k]? = W.heap[k]?) → K' (a.put o.dst v') w') : o.wp Try.prog a W K' Q := by
  obtain ⟨i0, hi, iz0, iz1, iz2⟩ := info_parts infoM3
  have hKm : K.length = m := by have := hsl.len; rw [mcells_len] at this; omega
  rcases A with _ | ad
  · have ⟨hm, hc⟩ := hsl.nil rfl
    subst hm; subst hc
    obtain rfl : K = [] := List.eq_nil_of_length_eq_zero hKm
    have hrun := run_append_owned_none (P := Try.prog) (w := W) w.heap.size 33 o.type 41 i0 18 Try.underlying33 hi v L.length (mcells L) h.own
    unfold Oper.wp
    simp [execOp, ho, resolve, invoke, builtin, hs, hx, hrun, Result.andThen]
    exact hk _ _ (by rw [List.append_nil]; exact h) fun _ _ _ => rfl
  · refine wp_append_own W s x 33 ho w.heap.size 41 i0 _ 18 192 Try.underlying33 hi iz0 iz1 iz2 rfl (by decide) v L.length (mcells L) hs h.own ad m c (mcells K) hx hsl.len (fun j u hu => ?_) (mcells_one K) (by unfold maxLen; omega) (by omega) h.ri.below.size ?_
    · rcases hsl.row with h0 | ⟨b, off, e, hc⟩
      · rw [h0] at hu; simp at hu
      · injection e with e; subst e; rw [addr_at]; exact hc j u hu
    · intro v' w' hown hg _
      exact hk _ _ ⟨h.ri.grown hg h.own h.ty, own_cast hown (mcells_app L K).symm (by rw [List.length_append, hKm]), h.ty⟩ fun k hk hne => hg.block k hk (Ne.symm hne)
theorem step_app2 {ops : Array Oper} {o : Oper} {a : Act} {K' : Act → World → Prop} {Q : Exit → Act → World → Prop} {E : Prop} (hgd : o.guard = none) (s x : Operand) (ho : o.op = .call { callee := .builtin .append, args := #[s, x], argTypes := #[33, 33] })
    (hs : a.eval s = v) (h : MJ w bs v L W) {A : Option Addr} {m c : Nat} (K : List Mg) (hx : a.eval x = .slice A m c) (hsl : Sl W A m c 18 (mcells K)) (hl : L.length + m ≤ 1000)
    (hk : ∀ v' w', MJ w bs v' (L ++ K) w' → (∀ k, k < W.heap.size → v.ownBlock ≠ some k → w'.heap[k]? = W.heap[k]?) → K' (a.put o.dst v') w') : if Region.wanted o (yielded ops a.tmps) = true then Oper.wp Try.prog o a W K' Q else E := by
  have hw : Region.wanted o (yielded ops a.tmps) = true := by simp [Region.wanted, hgd]
  rw [if_pos hw]
  exact op_app2 s x ho hs h K hx hsl hl hk
end
end Go.Proofs.Ytblkdmbkkimbpaa
