/-
  Layer 7: a session while something happens to it (the program's talk): what is known of it over the steps.
-/
import Derived.Test.YtblkdmbkkimbpaaMsgApp
import Derived.Test.YtblkdmbkkimbpaaHeld
import Derived.Test.YtblkdmbkkimbpaaReseqCome
import Derived.Maps.AppendAt
namespace Go.Proofs.Ytblkdmbkkimbpaa
open Go.RowKit

/-- The cells of a talk. -/
def tkArr (s : Ses) (A : Option Addr) (n c : Nat) (now : Int) (u : Value) : Array Value := #[.int .i64 s.st, .int .i64 s.ln.next, .slice A n c, .int .i64 s.out, .int .i64 s.every, .int .i64 s.heard, .int .i64 s.said, .int .i64 s.asked, .int .i64 s.at_, .bool s.tested, .int .i64 now, u]
theorem infoTk : (Try.prog.info? 49).map (·.size) = some 12 := by kernel_rfl
/-- A talk in block g: its cells (u stands in its list's cell), its list v of messages, what is held. -/
structure TI (w : World) (g : Nat) (s : Ses) (A : Option Addr) (n c : Nat) (now : Int) (u v : Value) (L : List Mg) (W : World) : Prop where
  mj : MJ w [(g, 49, tkArr s A n c now u)] v L W
  hn : s.ln.held.length = n
  sl : Sl W A n c 20 (icells s.ln.held)
  ap : s.ln.held = [] ∨ ∀ a, A = some a → a.block ≠ g ∧ v.ownBlock ≠ some a.block
/-- What was there stays, but the talk's block and its list's. -/
structure Kept (g : Nat) (v : Value) (W W' : World) : Prop where
  size : W.heap.size ≤ W'.heap.size
  block : ∀ k, k < W.heap.size → k ≠ g → v.ownBlock ≠ some k → W'.heap[k]? = W.heap[k]?
theorem Kept.refl (g : Nat) (v : Value) (W : World) : Kept g v W W := ⟨Nat.le_refl _, fun _ _ _ _ => rfl⟩
theorem Kept.trans {g : Nat} {v : Value} {W W1 W2 : World} (h : Kept g v W W1) (h' : Kept g v W1 W2) : Kept g v W W2 :=
  ⟨Nat.le_trans h.size h'.size, fun k hk h1 h2 => (h'.block k (Nat.lt_of_lt_of_le hk h.size) h1 h2).trans (h.block k hk h1 h2)⟩
theorem Kept.of {g : Nat} {v : Value} {W W' : World} (h : Below W.heap.size W W') : Kept g v W W' := ⟨h.size, fun k hk _ _ => h.block k hk⟩
theorem Kept.put {g : Nat} {v : Value} {W W' : World} (hs : W.heap.size ≤ W'.heap.size) (h : ∀ k, k ≠ g → W'.heap[k]? = W.heap[k]?) : Kept g v W W' := ⟨hs, fun k _ h1 _ => h k h1⟩
theorem Kept.of_put {g : Nat} {v : Value} {W W1 W2 : World} (h : Kept g v W W1) (hs : W1.heap.size ≤ W2.heap.size) (hp : ∀ k, k ≠ g → W2.heap[k]? = W1.heap[k]?) : Kept g v W W2 := h.trans (Kept.put hs hp)
theorem Kept.box {g k : Nat} {v : Value} {W W' : World} {t : TypeId} {cs : Array Value} (h : Kept g v W W') (hb : Box W k t cs) (h1 : k ≠ g) (h2 : v.ownBlock ≠ some k) : Box W' k t cs := (h.block k hb.lt h1 h2).trans hb
/-- A slice that lies elsewhere is read as before. -/
theorem Kept.sl {g : Nat} {v : Value} {W W' : World} {A : Option Addr} {n c size : Nat} {cs : List Value} (h : Kept g v W W') (hs : Sl W A n c size cs) (ha : cs = [] ∨ ∀ a, A = some a → a.block ≠ g ∧ v.ownBlock ≠ some a.block) : Sl W' A n c size cs := by
  refine ⟨hs.len, hs.le, hs.cap, hs.nil, ?_⟩
  rcases hs.row with h0 | ⟨b, off, rfl, hc⟩
  · exact .inl h0
  · rcases ha with ha | ha
    · exact .inl ha
    · have := ha _ rfl
      refine .inr ⟨b, off, rfl, fun i u hu => ?_⟩
      have h1 := hc i u hu
      have h2 := h.block b (cell_lt h1) this.1 this.2
      unfold World.cell? at h1 ⊢
      rw [show W'.heap[b]? = W.heap[b]? from h2]
      exact h1
section
variable {w W : World} {g : Nat} {s : Ses} {A : Option Addr} {n c : Nat} {now : Int} {u v : Value} {L : List Mg}
theorem TI.on {W' : World} (h : TI w g s A n c now u v L W) (hb : Below W.heap.size W W') : TI w g s A n c now u v L W' := ⟨h.mj.on hb, h.hn, h.sl.on hb, h.ap⟩
theorem TI.box (h : TI w g s A n c now u v L W) : Box W g 49 (tkArr s A n c now u) := h.mj.ri.bx
theorem TI.cell (h : TI w g s A n c now u v L W) (i : Nat) : W.cell? ⟨g, i, none⟩ = (tkArr s A n c now u)[i]? := h.box.cell i
theorem TI.free (h : TI w g s A n c now u v L W) (i : Nat) : W.frozen? ⟨g, i, none⟩ = false := h.box.free i
theorem TI.below (h : TI w g s A n c now u v L W) : Below w.heap.size w W := h.mj.ri.below
theorem TI.lt (h : TI w g s A n c now u v L W) : g < W.heap.size := h.box.lt
theorem own_blk_lt {base size k : Nat} {e : TypeId} {xs : List Value} (h : W.ownsRow base e size v k xs) {b : Nat} (hb : v.ownBlock = some b) : b < W.heap.size := by
  rcases h.2 with ⟨rfl, _⟩ | ⟨g', cap, cur, rfl, _, h1, _⟩
  · cases hb
  · simp only [Value.ownBlock, Option.some.injEq] at hb
    subst hb
    exact Box.lt h1
theorem TI.own_lt (h : TI w g s A n c now u v L W) {b : Nat} (hb : v.ownBlock = some b) : b < W.heap.size := own_blk_lt h.mj.own hb
/-- A new slice lies elsewhere. -/
theorem TI.fresh (h : TI w g s A n c now u v L W) {A' : Option Addr} (hf : Fr W.heap.size A') : ∀ a, A' = some a → a.block ≠ g ∧ v.ownBlock ≠ some a.block := fun a e => by
  have h1 := hf a e
  have h2 := h.lt
  refine ⟨by omega, fun h3 => ?_⟩
  have := own_blk_lt h.mj.own h3
  omega
/-- The talk's cells are written. -/
theorem TI.put {W' : World} {s' : Ses} {now' : Int} {u' : Value} {A' : Option Addr} {n' c' : Nat} (h : TI w g s A n c now u v L W) (hw : ∀ k, k ≠ g → W'.heap[k]? = W.heap[k]?) (hr : RI w [(g, 49, tkArr s' A' n' c' now' u')] W') (hn : s'.ln.held.length = n') (hsl : Sl W A' n' c' 20 (icells s'.ln.held)) (hap : s'.ln.held = [] ∨ ∀ a, A' = some a → a.block ≠ g ∧ v.ownBlock ≠ some a.block) (hsz : W.heap.size ≤ W'.heap.size) : TI w g s' A' n' c' now' u' v L W' := by
  refine ⟨h.mj.put hr hw, hn, (Kept.put (v := v) hsz hw).sl hsl ?_, hap⟩
  rcases hap with h0 | h0
  · exact .inl (by rw [h0]; rfl)
  · exact .inr h0
theorem op_ti1 {o : Oper} {a : Act} {K : Act → World → Prop} {Q : Exit → Act → World → Prop} (ty : TypeId) (x y : Operand) (ho : o.op = .store ty x y)
    (i : Nat) (z : Value) (s' : Ses) (now' : Int) (u' : Value) (hx : a.eval x = .pointer (some ⟨g, i, none⟩)) (hy : a.eval y = z) (hone : z.oneCell' = true) (h : TI w g s A n c now u v L W) (hi : i < 12)
    (hsz : (Try.prog.info? ty).map (·.size) = some 1) (he : (tkArr s A n c now u).setIfInBounds i z = tkArr s' A n c now' u') (hln : s'.ln.held = s.ln.held)
    (hk : ∀ w', TI w g s' A n c now' u' v L w' → (∀ u, Kept g u W w') → K (a.put o.dst undef) w') : o.wp Try.prog a W K Q := by
  have hcv : z.cells = #[z] := by
    generalize z = u at hone ⊢
    cases u <;> simp_all [Value.oneCell', Value.cells]
  have hst : (storeVar ty ⟨g, i, none⟩ z).run Try.prog W = .ok () (W.setCell ⟨g, i, none⟩ z) := by
    have h2 := run_storeCells_cells (P := Try.prog) g i [z] 0 W (fun j hj => by
      simp at hj; subst hj
      rw [h.cell]; simp [tkArr, hi]) (fun j hj => h.free _) (fun u hu => by simp at hu; rw [hu]; exact hone)
    cases hq : Try.prog.info? ty with
    | none => simp [hq] at hsz
    | some i0 =>
      have h1 : i0.size = 1 := by simpa [hq] using hsz
      simp [storeVar, hcv, sizeOf, typeInfo, hq, h1, h2, World.setCells]
  have hw : ∀ k, k ≠ g → (W.setCell ⟨g, i, none⟩ z).heap[k]? = W.heap[k]? := fun k hne => Below.heap_setCell _ _ _ k hne
  have hz : W.heap.size ≤ (W.setCell ⟨g, i, none⟩ z).heap.size := by simp [World.setCell]
  unfold Oper.wp execOp
  simp only [ho, hx, hy, Instr.storeAt, Instr.sureAddr, Sem.run_bind, Sem.run_pure, Result.andThen_ok, hst]
  exact hk _ (h.put hw (he ▸ h.mj.ri.set i z) (by rw [hln]; exact h.hn) (by rw [hln]; exact h.sl) (by rw [hln]; exact h.ap) hz) (fun _ => Kept.put hz hw)
theorem ti_put1 {ops : Array Oper} {rest : List Oper} {o : Oper} {a : Act} {Q : Exit → Act → World → Prop} (hgd : o.guard = none) (ty : TypeId) (x y : Operand) (ho : o.op = .store ty x y)
    (i : Nat) (z : Value) (s' : Ses) (now' : Int) (u' : Value) (hx : a.eval x = .pointer (some ⟨g, i, none⟩)) (hy : a.eval y = z) (hone : z.oneCell' = true) (h : TI w g s A n c now u v L W) (hi : i < 12)
    (hsz : (Try.prog.info? ty).map (·.size) = some 1) (he : (tkArr s A n c now u).setIfInBounds i z = tkArr s' A n c now' u') (hln : s'.ln.held = s.ln.held)
    (hk : ∀ w', TI w g s' A n c now' u' v L w' → (∀ u, Kept g u W w') → wpList Try.prog ops Q rest (a.put o.dst undef) w') : wpList Try.prog ops Q (o :: rest) a W :=
  wpList_plain hgd fun _ hK => op_ti1 ty x y ho i z s' now' u' hx hy hone h hi hsz he hln fun w' h1 h2 => hK _ _ (hk w' h1 h2)
theorem step_ti1 {ops : Array Oper} {o : Oper} {a : Act} {K : Act → World → Prop} {Q : Exit → Act → World → Prop} {E : Prop} (hgd : o.guard = none) (ty : TypeId) (x y : Operand) (ho : o.op = .store ty x y)
    (i : Nat) (z : Value) (s' : Ses) (now' : Int) (u' : Value) (hx : a.eval x = .pointer (some ⟨g, i, none⟩)) (hy : a.eval y = z) (hone : z.oneCell' = true) (h : TI w g s A n c now u v L W) (hi : i < 12)
    (hsz : (Try.prog.info? ty).map (·.size) = some 1) (he : (tkArr s A n c now u).setIfInBounds i z = tkArr s' A n c now' u') (hln : s'.ln.held = s.ln.held)
    (hk : ∀ w', TI w g s' A n c now' u' v L w' → (∀ u, Kept g u W w') → K (a.put o.dst undef) w') : if Region.wanted o (yielded ops a.tmps) = true then Oper.wp Try.prog o a W K Q else E := by
  have hw : Region.wanted o (yielded ops a.tmps) = true := by simp [Region.wanted, hgd]
  rw [if_pos hw]
  exact op_ti1 ty x y ho i z s' now' u' hx hy hone h hi hsz he hln hk
/-- A message is appended to what is said. -/
theorem op_say {o : Oper} {a : Act} {K : Act → World → Prop} {Q : Exit → Act → World → Prop} (x y : Operand) (ho : o.op = .call { callee := .builtin .append, args := #[x, y], argTypes := #[33, 33] })
    (hx : a.eval x = v) (h : TI w g s A n c now u v L W) (m : Mg) {N cp : Nat} (hy : a.eval y = .slice (some ⟨N, 0, none⟩) 1 cp) (hN : Box W N 41 m.arr) (hl : L.length ≤ 1000)
    (hk : ∀ v' w', TI w g s A n c now u v' (L ++ [m]) w' → Kept g v W w' → K (a.put o.dst v') w') : o.wp Try.prog a W K Q := by
  obtain ⟨i0, hi, iz0, iz1, iz2⟩ := info_parts infoM3
  obtain ⟨v', w', hr, h2, h3, _, h5⟩ := run_append_own_at (P := Try.prog) W w.heap.size 33 o.type 41 i0 _ 18 192 Try.underlying33 hi iz0 iz1 iz2 rfl (by decide) v L.length (mcells L) h.mj.own ⟨N, 0, none⟩ 1 cp m.arr.toList (by rw [Mg.arr_len]) (fun j u hu => by rw [addr_at, Nat.zero_add, hN.cell]; simpa using hu) (fun u hu => by have := arr_one m; rw [Array.all_eq_true'] at this; exact this u (by simpa using hu)) (by unfold maxLen; omega) (by omega) h.below.size
  have hK : Kept g v W w' := ⟨h3.size, fun k hk _ hne => h3.block k hk (Ne.symm hne)⟩
  unfold Oper.wp execOp
  simp only [ho, resolve, invoke, builtin, Sem.run_bind, Sem.run_pure, Result.andThen_ok, List.map_toArray, List.map_cons, List.map_nil, hx, hy, hr]
  refine hk v' w' ⟨⟨h.mj.ri.grown h3 h.mj.own h.mj.ty, own_cast h2 (by rw [mcells_app]; simp [mcells]) (by simp), h.mj.ty⟩, h.hn, hK.sl h.sl ?_, ?_⟩ hK
  · rcases h.ap with h0 | h0
    · exact .inl (by rw [h0]; rfl)
    · exact .inr h0
  · by_cases hnil : s.ln.held = []
    · exact .inl hnil
    · right
      intro ad he
      have h0 := (h.ap.resolve_left hnil) ad he
      refine ⟨h0.1, ?_⟩
      rcases h5 with h5 | h5
      · rw [h5]; exact h0.2
      · rw [h5]
        intro h6
        injection h6 with h6
        cases hl2 : s.ln.held with
        | nil => exact hnil hl2
        | cons y r =>
          obtain ⟨b, off, e, hr2, -, -⟩ := h.sl.row.itm (k := 0) (by rw [hl2]; simp)
          rw [he] at e
          injection e with e
          subst e
          have := cell_lt (hr2 0 _ (by rw [show (s.ln.held[0]'(by rw [hl2]; simp)).cells = _ from rfl]; rfl))
          have h6 : W.heap.size = b := h6
          omega
theorem step_say {ops : Array Oper} {o : Oper} {a : Act} {K : Act → World → Prop} {Q : Exit → Act → World → Prop} {E : Prop} (hgd : o.guard = none) (x y : Operand) (ho : o.op = .call { callee := .builtin .append, args := #[x, y], argTypes := #[33, 33] })
    (hx : a.eval x = v) (h : TI w g s A n c now u v L W) (m : Mg) {N cp : Nat} (hy : a.eval y = .slice (some ⟨N, 0, none⟩) 1 cp) (hN : Box W N 41 m.arr) (hl : L.length ≤ 1000)
    (hk : ∀ v' w', TI w g s A n c now u v' (L ++ [m]) w' → Kept g v W w' → K (a.put o.dst v') w') : if Region.wanted o (yielded ops a.tmps) = true then Oper.wp Try.prog o a W K Q else E := by
  have hw : Region.wanted o (yielded ops a.tmps) = true := by simp [Region.wanted, hgd]
  rw [if_pos hw]
  exact op_say x y ho hx h m hy hN hl hk
end
/-- What the walk makes of a slice's literal of one message. -/
theorem build_msg (m : Mg) : Array.foldl (fun (cs : Array Value) (x : Value × Nat) => cs.setIfInBounds x.snd x.fst) #[Value.int IntKind.i64 0, Value.int IntKind.i64 0, Value.int IntKind.i64 0, Value.bool false, Value.int IntKind.i64 0, Value.int IntKind.i64 0, Value.bool false, Value.string { data := #[] }, Value.string { data := #[] }, Value.string { data := #[] }, Value.string { data := #[] }, Value.string { data := #[] }, Value.string { data := #[] }, Value.int IntKind.i64 0, Value.bool false, Value.int IntKind.i64 0, Value.int IntKind.i64 0, Value.int IntKind.i64 0] m.arr.zipIdx 0 18 = m.arr := by
  generalize hz : (#[Value.int IntKind.i64 0, Value.int IntKind.i64 0, Value.int IntKind.i64 0, Value.bool false, Value.int IntKind.i64 0, Value.int IntKind.i64 0, Value.bool false, Value.string { data := #[] }, Value.string { data := #[] }, Value.string { data := #[] }, Value.string { data := #[] }, Value.string { data := #[] }, Value.string { data := #[] }, Value.int IntKind.i64 0, Value.bool false, Value.int IntKind.i64 0, Value.int IntKind.i64 0, Value.int IntKind.i64 0] : Array Value) = zs
  have hs : zs.size = m.arr.size := by rw [← hz]; rfl
  exact fold_arr zs m.arr hs 18 rfl
/-- A load of one cell, and a load of a struct that lies within a block, taken first. -/
theorem y_cell {P : Program} {ops : Array Oper} {S : World → Prop} {o : Oper} {a : Act} {v : Value} (hw : Region.wanted o (yielded ops a.tmps) = true) (h : ∀ w, S w → (execOp a.eval o).run P w = .ok (.value v) w) : YieldsIf P ops S o v a := .inl ⟨hw, h⟩
theorem y_mid {P : Program} {ops : Array Oper} {S : World → Prop} {o : Oper} {a : Act} {g off : Nat} (cs : List Value) (hw : Region.wanted o (yielded ops a.tmps) = true) (hS : ∀ w, S w → w.rangeAt g off cs) (ty : TypeId) (x : Operand) (ho : o.op = .load ty x) (hx : a.eval x = .pointer (some ⟨g, off, none⟩)) (d : TypeDesc)
    (hu : P.underlying ty = some d) (hd : d.isRow = true) (hi : (P.info? ty).map (·.size) = some cs.length) : YieldsIf P ops S o (.agg cs.toArray) a :=
  .inl ⟨hw, fun w hc => by unfold execOp; simp only [ho, hx, Instr.loadAt, Instr.sureAddr, Sem.run_bind, Sem.run_pure, Result.andThen_ok, run_loadVar_mid w g off ty cs d (hS w hc) hu hd hi]⟩
end Go.Proofs.Ytblkdmbkkimbpaa
