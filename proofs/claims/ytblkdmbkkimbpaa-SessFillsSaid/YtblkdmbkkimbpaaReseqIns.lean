/-
  Layer 6, reseq: slices.Clone and slices.Insert at slices of items: their contracts.
-/
import Derived.Test.YtblkdmbkkimbpaaReseqTake
import Derived.Lib.AppendZerosOnto
import Derived.Lib.Overlaps
import Derived.Shelf.RegionOpenPlain
import Derived.Laws.Externs
import Derived.Laws.IdiomCopy
import Derived.Laws.NewBlocks
namespace Go.Proofs.Ytblkdmbkkimbpaa
open Go.RowKit Go.Lib

/-! ### What lies in the row behind the two copies -/
theorem setAll_toList_take (cur : Array Value) (A X D : List Value) (a m : Nat) (hA : cur.toList.take a = A) (hX : X.length = m) (hs : a + m + D.length ≤ cur.size) (r : Array Value)
    (hr : ∀ j, j < cur.size → r[j]? = if a ≤ j ∧ j < a + m then X[j - a]? else if a + m ≤ j ∧ j < a + m + D.length then D[j - (a + m)]? else cur[j]?) (hrs : r.size = cur.size) :
    r.toList.take (a + m + D.length) = A ++ (X ++ D) := by
  have hAl : A.length = a := by rw [← hA, List.length_take, Array.length_toList]; omega
  apply List.ext_getElem?
  intro j
  rw [List.getElem?_take]
  by_cases hj : j < a + m + D.length
  · rw [if_pos hj, Array.getElem?_toList, hr j (by omega)]
    by_cases h1 : j < a
    · rw [if_neg (by omega), if_neg (by omega), List.getElem?_append_left (by omega), ← hA, List.getElem?_take, if_pos h1, Array.getElem?_toList]
    · rw [List.getElem?_append_right (by omega), hAl]
      by_cases h2 : j < a + m
      · rw [if_pos (by omega), List.getElem?_append_left (by omega)]
      · rw [if_neg (by omega), if_pos (by omega), List.getElem?_append_right (by omega), hX]
        congr 1; omega
  · rw [if_neg hj, List.getElem?_eq_none (by simp; omega)]
theorem ins_shift (cur : Array Value) (A X D : List Value) (a m : Nat) (hA : cur.toList.take a = A) (hX : X.length = m) (hs : a + m + D.length ≤ cur.size) :
    (setAll (setAll cur (a + m) D) a X).toList.take (a + m + D.length) = A ++ (X ++ D) :=
  setAll_toList_take cur A X D a m hA hX hs _ (fun j hj => by
    rw [setAll_get _ _ _ _ (by rw [setAll_size]; exact hj), hX]
    by_cases h1 : a ≤ j ∧ j < a + m
    · rw [if_pos h1, if_pos h1]
    · rw [if_neg h1, if_neg h1, setAll_get _ _ _ _ hj]) (by rw [setAll_size, setAll_size])
theorem ins_new (cur : Array Value) (A X D : List Value) (a m : Nat) (hA : cur.toList.take a = A) (hX : X.length = m) (hs : a + m + D.length ≤ cur.size) :
    (setAll (setAll cur a X) (a + m) D).toList.take (a + m + D.length) = A ++ (X ++ D) :=
  setAll_toList_take cur A X D a m hA hX hs _ (fun j hj => by
    rw [setAll_get _ _ _ _ (by rw [setAll_size]; exact hj)]
    by_cases h1 : a + m ≤ j ∧ j < a + m + D.length
    · rw [if_pos h1, if_neg (by omega), if_pos h1]
    · rw [if_neg h1, setAll_get _ _ _ _ hj, hX]
      by_cases h2 : a ≤ j ∧ j < a + m
      · rw [if_pos h2, if_pos h2]
      · rw [if_neg h2, if_neg h2, if_neg h1]) (by rw [setAll_size, setAll_size])
theorem grown_own {W : World} (gx : Nat) : ∀ (vs : List Value) {X : World} (o : Nat), W.grownBy X (some gx) → W.grownBy (X.setCells gx o vs) (some gx)
  | [], _, _, h => h
  | v :: vs, X, o, h => grown_own gx vs (o + 1) (grown_trans h (grown_set X gx o v))
section
variable {P : Program}
/-- A copy of elements of whatever size: all is read before anything is written. -/
theorem run_copy_rows (w : World) (dT sT ty elem : TypeId) (size k b o dLen dCap : Nat) (a : Addr) (sLen sCap : Nat) (cs : List Value)
    (hu : P.underlying dT = some (.slice elem)) (hs : (P.info? elem).map (·.size) = some size) (hk : Nat.min sLen dLen = k) (hn : cs.length = k * size)
    (hsrc : ∀ j v, cs[j]? = some v → w.cell? (a.add j) = some v) (hc : ∀ j, j < cs.length → (w.cell? ⟨b, o + j, none⟩).isSome = true) (hf : ∀ j, j < cs.length → w.frozen? ⟨b, o + j, none⟩ = false) (h1 : ∀ v ∈ cs, v.oneCell' = true) :
    (Builtin.copy_ #[dT, sT] ty #[.slice (some ⟨b, o, none⟩) dLen dCap, .slice (some a) sLen sCap]).run P w = .ok (goInt k) (w.setCells b o cs) := by
  have hl := run_loadCells_list (P := P) w a cs hsrc
  have hst := run_storeCells_cells (P := P) b o cs 0 w (by simpa using hc) (by simpa using hf) h1
  cases hq : P.info? elem with
  | none => simp [hq] at hs
  | some i =>
    have hi : i.size = size := by simpa [hq] using hs
    simp [Builtin.copy_, run_underlying hu, Builtin.lenOf, Builtin.firstCells, sizeOf, typeInfo, hq, hi, hk, ← hn, hl, hst]
theorem wp_copyJ (w : World) {o : Oper} {a : Act} {K : Act → World → Prop} {Q : Exit → Act → World → Prop} (d s : Operand) (t t' : TypeId)
    (ho : o.op = .call { callee := .builtin .copy, args := #[d, s], argTypes := #[t, t'] }) (v u : Value) (hd : a.eval d = v) (hs : a.eval s = u) {v' : Value} {w' : World}
    (hr : (Builtin.copy_ #[t, t'] o.type #[v, u]).run P w = .ok v' w') (h : K (a.put o.dst v') w') : o.wp P a w K Q := by
  unfold Oper.wp execOp
  simp only [ho, resolve, invoke, builtin, Sem.run_bind, Sem.run_pure, Result.andThen_ok, List.map_toArray, List.map_cons, List.map_nil, hd, hs, hr]
  exact h
theorem wpList_copyJ (w : World) {ops : Array Oper} {rest : List Oper} {o : Oper} {a : Act} {Q : Exit → Act → World → Prop} (hgd : o.guard = none) (d s : Operand) (t t' : TypeId)
    (ho : o.op = .call { callee := .builtin .copy, args := #[d, s], argTypes := #[t, t'] }) (v u : Value) (hd : a.eval d = v) (hs : a.eval s = u) {v' : Value} {w' : World}
    (hr : (Builtin.copy_ #[t, t'] o.type #[v, u]).run P w = .ok v' w') (h : wpList P ops Q rest (a.put o.dst v') w') : wpList P ops Q (o :: rest) a w :=
  wpList_plain hgd fun _ hK => wp_copyJ w d s t t' ho v u hd hs hr (hK _ _ h)
theorem step_copyJ {ops : Array Oper} {o : Oper} {a : Act} {w : World} {K : Act → World → Prop} {Q : Exit → Act → World → Prop} {E : Prop}
    (hg : o.guard = none) (d x : Operand) (dT sT : TypeId) (hop : o.op = Op.call { callee := Callee.builtin Builtin.copy, args := #[d, x], argTypes := #[dT, sT] })
    (v u : Value) (hd : a.eval d = v) (hx : a.eval x = u) {v' : Value} {w' : World} (hr : (Builtin.copy_ #[dT, sT] o.type #[v, u]).run P w = .ok v' w') (hK : K (a.put o.dst v') w') :
    if Region.wanted o (yielded ops a.tmps) = true then Oper.wp P o a w K Q else E := by
  have hw : Region.wanted o (yielded ops a.tmps) = true := by simp [Region.wanted, hg]
  rw [if_pos hw]
  exact wp_copyJ w d x dT sT hop v u hd hx hr hK
end
/-- What Insert answers. -/
def InsPost (base : Nat) (v : Value) (l : List Itm) (w : World) (e : Ending) (w' : World) : Prop :=
  ∃ v', e = .returned v' ∧ w'.ownsRow base 58 20 v' l.length (icells l) ∧ w.grownBy w' v.ownBlock
set_option maxRecDepth 100000 in
set_option maxHeartbeats 2000000 in
theorem own_Clone (A : Option Addr) (n c : Nat) (l : List Itm) (hl : l.length = n) (W : World) (h : Sl W A n c 20 (icells l)) (hn : n ≤ 100000) :
    Calls Try.prog 25 #[.slice A n c] W fun e W' => ∃ v, e = .returned v ∧ W'.ownsRow W.heap.size 58 20 v n (icells l) ∧ Below W.heap.size W W' := by
  obtain ⟨i0, hi, iz0, iz1, iz2⟩ := info_parts infoI3
  have HS := Lib.hid h
  have HL := Lib.hid hl
  clear h hl
  have q24 : ∀ (w : World) (a : Option Addr) (n c n' c' : Nat), (binOp .eql 25 (.slice a n c) (.slice none n' c')).run Try.prog w = .ok (.bool a.isNone) w := fun w a n c n' c' => Lib.run_eql_slice_nil w _ _ a n c n' c' Try.underlying25
  rcases A with _ | ⟨b, o, sp⟩
  · have ⟨h0, h1⟩ := HS.out.nil rfl
    subst h0; subst h1
    obtain rfl := List.eq_nil_of_length_eq_zero HL.out
    go_enter Try.func25, Try.ntmps25
    go_wp2
    go_ret
    exact ⟨_, rfl, World.ownsRow_nil _ _ _ _, Below.refl _ _⟩
  · have hb0 := Lib.hid ((Below.refl W.heap.size W).alloc (Nat.le_refl _) (.cells #[] 58))
    go_enter Try.func25, Try.ntmps25
    go_wp2_with (at_builtin; refine wpList_append_own _ rfl (.tmp 5) (.tmp 6) 25 rfl W.heap.size 58 i0 _ 20 208 Try.underlying25 hi iz0 iz1 iz2 rfl (by decide) _ _ _ rfl (World.ownsRow_made W #[] 0 (Nat.le_refl _) (Nat.zero_le _) (by simp)) ⟨b, o, sp⟩ n c (icells l) rfl ?q1 ?q2 ?q3 ?q4 ?q5 ?q6 ?_)
    case q1 => rw [icells_len, HL.out]
    case q2 =>
      intro j u hj
      rcases HS.out.row with h0 | ⟨b', o', he, hc⟩
      · rw [h0] at hj; simp at hj
      · injection he with he; injection he with e1 e2 e3; subst e1; subst e2; subst e3
        rw [addr_at]
        exact cell_on hb0.out (hc j u hj)
    case q3 => exact icells_one l
    case q4 => unfold maxLen; omega
    case q5 => omega
    case q6 => simp
    intro v' w1 hown hgrow hnil
    go_wp2
    go_ret
    exact ⟨v', rfl, own_cast hown (by simp) (by simp), below_own hb0.out hgrow (by simp) (World.ownsRow_made W #[] 0 (Nat.le_refl _) (Nat.zero_le _) (by simp) : (W.alloc (.cells #[] 58)).ownsRow W.heap.size 58 20 _ 0 [])⟩
set_option maxRecDepth 100000 in
set_option maxHeartbeats 2000000 in
/-- At the end. -/
theorem own_Insert_end (base vb : Nat) (l : List Itm) (x : Itm) (v : Value) (W : World) (hbase : base ≤ W.heap.size) (ho : W.ownsRow base 58 20 v l.length (icells l)) (hn : l.length ≤ 64) (hx : Box W vb 58 x.arr) :
    Calls Try.prog 39 #[v, .int .i64 l.length, .slice (some ⟨vb, 0, none⟩) 1 1] W (InsPost base v (l ++ [x]) W) := by
  obtain ⟨i0, hi, iz0, iz1, iz2⟩ := info_parts infoI3
  have HO := Lib.hid ho
  have HX := Lib.hid hx
  obtain ⟨A, c, rfl, hs, hfm⟩ := Sl.of_own ho
  have hcap : c ≤ 9223372036854775807 := by have := hs.cap; unfold maxLen at this; omega
  have hnc := hs.le
  clear ho hx hs
  generalize hl : l.length = n at *
  have HL := Lib.hid hl
  clear hl
  have HFin := Lib.hid (show ∀ v' w', w'.ownsRow base 58 20 v' (n + 1) (icells l ++ x.cells) → W.grownBy w' (Value.slice A n c).ownBlock → InsPost base (.slice A n c) (l ++ [x]) W (.returned v') w' from fun v' w' h1 h2 => ⟨v', rfl, own_cast h1 (by rw [icells_app]; simp [icells]) (by simp [HL.out]), h2⟩)
  rcases (show (A = none) ∨ (∃ b o, A = some ⟨b, o, none⟩ ∧ c = n) ∨ ∃ b o, A = some ⟨b, o, none⟩ ∧ ¬ c = n by rcases hfm with h | ⟨b, o, h⟩ <;> by_cases hc : c = n <;> simp_all) with rfl | ⟨b, o, rfl, hcn⟩ | ⟨b, o, rfl, hcn⟩
  all_goals
    go_enter Try.func39, Try.ntmps39
    go_wp2_with (at_builtin; refine wpList_append_own _ rfl (.tmp 23) (.tmp 24) 25 rfl base 58 i0 _ 20 208 Try.underlying25 hi iz0 iz1 iz2 rfl (by decide) _ _ _ rfl HO.out ⟨vb, 0, none⟩ 1 1 x.cells rfl ?q1 ?q2 ?q3 ?q4 ?q5 ?q6 ?_)
    case q1 => rw [Itm.cells_len]
    case q2 =>
      intro j u hj
      rw [addr_at, Nat.zero_add, HX.out.cell j]
      simpa [Itm.arr] using hj
    case q3 => exact x.cells_one
    case q4 => unfold maxLen; omega
    case q5 => omega
    case q6 => exact hbase
    intro v' w1 hown hgrow hnil
    go_wp2
    go_ret
    exact HFin.out _ _ hown hgrow
end Go.Proofs.Ytblkdmbkkimbpaa
