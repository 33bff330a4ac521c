/-
  Layer 6, reseq: the program's own way: take: its contract.
-/
import Derived.Test.YtblkdmbkkimbpaaReseqOwn
import Derived.Laws.AppendOwn
namespace Go.Proofs.Ytblkdmbkkimbpaa
open Go.RowKit

theorem infoI3 : (Try.prog.info? 58).map (fun i => (i.zero, i.size, i.bytes)) = some (some (.agg #[.int .i64 0, .int .i64 0, .int .i64 0, .int .i64 0, .int .i64 0, .bool false, .int .i64 0, .int .i64 0, .bool false, .string ⟨#[]⟩, .string ⟨#[]⟩, .string ⟨#[]⟩, .string ⟨#[]⟩, .string ⟨#[]⟩, .string ⟨#[]⟩, .int .i64 0, .bool false, .int .i64 0, .int .i64 0, .int .i64 0]), 20, 208) := by kernel_rfl
/-- A list of items that is made, and blocks of other types that are known whole. -/
structure TJ (w : World) (bs : List (Nat × TypeId × Array Value)) (v : Value) (L : List Itm) (W : World) : Prop where
  ri : RI w bs W
  own : W.ownsRow w.heap.size 58 20 v L.length (icells L)
  ty : ∀ b ∈ bs, b.2.1 ≠ 58
theorem own_far {w w' : World} {base size n gx : Nat} {e t : TypeId} {v : Value} {xs : List Value} {cs : Array Value} (h : w.ownsRow base e size v n xs) (hb : Box w gx t cs) (hne : t ≠ e) (hw : ∀ k, k ≠ gx → w'.heap[k]? = w.heap[k]?) : w'.ownsRow base e size v n xs := by
  rcases h with ⟨hl, ⟨rfl, rfl⟩ | ⟨g, cap, cur, rfl, h1, h2, h3⟩⟩
  · exact ⟨hl, .inl ⟨rfl, rfl⟩⟩
  · have : g ≠ gx := fun e' => by
      subst e'
      unfold Box at hb
      rw [hb] at h2
      injection h2 with h2; injection h2 with _ h2
      exact hne h2
    exact ⟨hl, .inr ⟨g, cap, cur, rfl, h1, (hw g this).trans h2, h3⟩⟩
theorem RI.grown {w W W' : World} {bs : List (Nat × TypeId × Array Value)} {e : TypeId} {size n : Nat} {v : Value} {xs : List Value} (h : RI w bs W) (hg : W.grownBy W' v.ownBlock) (ho : W.ownsRow w.heap.size e size v n xs) (hne : ∀ b ∈ bs, b.2.1 ≠ e) : RI w bs W' :=
  ⟨fun b hb => (h.box b hb).grown hg ho (hne b hb).symm, h.low, h.nd, below_own h.below hg h.below.size ho⟩
section
variable {w W : World} {bs : List (Nat × TypeId × Array Value)} {gx : Nat} {t : TypeId} {cs : Array Value} {v : Value} {L : List Itm}
theorem TJ.on {W' : World} (h : TJ w bs v L W) (hb : Below W.heap.size W W') : TJ w bs v L W' := ⟨h.ri.on hb, own_on h.own hb, h.ty⟩
theorem TJ.dn (h : TJ w bs v L W) (q : Nat) : TJ w bs v L (W.drewN q) := h.on (below_dn (Below.refl _ _) q)
theorem TJ.swap {b b' : Nat × TypeId × Array Value} (h : TJ w (b :: b' :: bs) v L W) : TJ w (b' :: b :: bs) v L W :=
  ⟨h.ri.swap, h.own, fun x hx => h.ty x (by simp only [List.mem_cons] at hx ⊢; rcases hx with h1 | h1 | h1; exact .inr (.inl h1); exact .inl h1; exact .inr (.inr h1))⟩
theorem TJ.tail {b : Nat × TypeId × Array Value} (h : TJ w (b :: bs) v L W) : TJ w bs v L W := ⟨h.ri.tail, h.own, fun x hx => h.ty x (List.mem_cons_of_mem _ hx)⟩
theorem tj_put {ops : Array Oper} {rest : List Oper} {op : Oper} {a : Act} {Q : Exit → Act → World → Prop} (hgd : op.guard = none) (ty : TypeId) (x y : Operand) (ho : op.op = .store ty x y)
    (vs : Array Value) (hx : a.eval x = .pointer (some ⟨gx, 0, none⟩)) (hy : a.eval y = .agg vs) (h : TJ w ((gx, t, cs) :: bs) v L W) (hsz : cs.size = vs.size)
    (hi : (Try.prog.info? ty).map (·.size) = some vs.size) (h1 : vs.all (·.oneCell') = true)
    (hk : ∀ w', TJ w ((gx, t, vs) :: bs) v L w' → wpList Try.prog ops Q rest (a.put op.dst undef) w') : wpList Try.prog ops Q (op :: rest) a W :=
  ri_put hgd ty x y ho vs hx hy h.ri hsz hi h1 fun w' h' hf => hk w' ⟨h', own_far h.own h.ri.bx (h.ty _ (List.mem_cons_self ..)) hf, fun b hb => by
    rcases List.mem_cons.1 hb with rfl | hb
    · exact h.ty (gx, t, cs) (List.mem_cons_self ..)
    · exact h.ty b (List.mem_cons_of_mem _ hb)⟩
theorem tj_put1 {ops : Array Oper} {rest : List Oper} {op : Oper} {a : Act} {Q : Exit → Act → World → Prop} (hgd : op.guard = none) (ty : TypeId) (x y : Operand) (ho : op.op = .store ty x y)
    (i : Nat) (u : Value) (hx : a.eval x = .pointer (some ⟨gx, i, none⟩)) (hy : a.eval y = u) (hone : u.oneCell' = true) (h : TJ w ((gx, t, cs) :: bs) v L W) (hi : i < cs.size)
    (hsz : (Try.prog.info? ty).map (·.size) = some 1) {cs' : Array Value} (hcs : cs.setIfInBounds i u = cs')
    (hk : ∀ w', TJ w ((gx, t, cs') :: bs) v L w' → wpList Try.prog ops Q rest (a.put op.dst undef) w') : wpList Try.prog ops Q (op :: rest) a W :=
  ri_put1 hgd ty x y ho i u hx hy hone h.ri hi hsz fun w' h' hf => hk w' ⟨hcs ▸ h', own_far h.own h.ri.bx (h.ty _ (List.mem_cons_self ..)) hf, fun b hb => by
    rcases List.mem_cons.1 hb with rfl | hb
    · exact h.ty (gx, t, cs) (List.mem_cons_self ..)
    · exact h.ty b (List.mem_cons_of_mem _ hb)⟩
theorem tj_append {ops : Array Oper} {rest : List Oper} {o : Oper} {a : Act} {Q : Exit → Act → World → Prop} (hgd : o.guard = none) (s x : Operand) (ho : o.op = .call { callee := .builtin .append, args := #[s, x], argTypes := #[25, 25] })
    (hs : a.eval s = v) (y : Itm) (h : TJ w bs v L W) {ad : Addr} {c : Nat} (hx : a.eval x = .slice (some ad) 1 c) (hnews : ∀ j u, y.cells[j]? = some u → W.cell? (ad.add j) = some u) (hl : L.length ≤ 1000)
    (hk : ∀ v' w', TJ w bs v' (L ++ [y]) w' → wpList Try.prog ops Q rest (a.put o.dst v') w') : wpList Try.prog ops Q (o :: rest) a W := by
  obtain ⟨i0, hi, iz0, iz1, iz2⟩ := info_parts infoI3
  refine wpList_append_own W hgd s x 25 ho w.heap.size 58 i0 _ 20 208 Try.underlying25 hi iz0 iz1 iz2 rfl (by decide) v L.length (icells L) hs h.own ad 1 c y.cells hx (by rw [Itm.cells_len]) hnews y.cells_one (by unfold maxLen; omega) (by omega) h.ri.below.size ?_
  intro v' w' hown hg _
  exact hk _ _ ⟨h.ri.grown hg h.own h.ty, own_cast hown (by rw [icells_app]; simp [icells]) (by simp), h.ty⟩
end
theorem tj_lit {w W : World} {bs : List (Nat × TypeId × Array Value)} (h : RI w bs W) (hty : ∀ b ∈ bs, b.2.1 ≠ 58) (y : Itm) {N : Nat} (hN : W.heap.size = N) : TJ w bs (.slice (some ⟨N, 0, none⟩) 1 1) [y] (W.alloc (.cells y.arr 58)) := by
  subst hN
  exact ⟨h.on ((Below.refl W.heap.size W).alloc (Nat.le_refl _) _), own_cast (World.ownsRow_lit (e := 58) (size := 20) W y.arr 1 h.below.size (by decide) rfl) (by simp [icells, Itm.arr]) rfl, hty⟩
theorem lit_itm (W : World) (y : Itm) {N : Nat} (hN : W.heap.size = N) (j : Nat) (u : Value) (hu : y.cells[j]? = some u) : (W.alloc (.cells y.arr 58)).cell? ((⟨N, 0, none⟩ : Addr).add j) = some u := by
  subst hN
  rw [addr_at, Nat.zero_add, (Box.new W y.arr 58).cell j]
  simpa [Itm.arr] using hu
theorem fold_setAll : ∀ (l : List Value) (cs : Array Value) (o : Nat), (l.zipIdx o).foldl (fun (cs : Array Value) (x : Value × Nat) => cs.setIfInBounds x.2 x.1) cs = setAll cs o l
  | [], _, _ => rfl
  | v :: l, cs, o => by rw [List.zipIdx_cons, List.foldl_cons, fold_setAll l]; rfl
theorem fold_arr (cs vs : Array Value) (h : cs.size = vs.size) (k : Nat) (hk : vs.size = k) : Array.foldl (fun (cs : Array Value) (x : Value × Nat) => cs.setIfInBounds x.2 x.1) cs vs.zipIdx 0 k = vs := by
  have hs : vs.zipIdx.size = k := by rw [Array.size_zipIdx]; exact hk
  subst hs
  rw [← Array.foldl_toList, Array.toList_zipIdx, fold_setAll, setAll_whole _ _ h]
/-- What the walk makes of a slice's literal of one item. -/
theorem build_arr (x : Itm) : Array.foldl (fun (cs : Array Value) (x : Value × Nat) => cs.setIfInBounds x.snd x.fst) #[Value.int IntKind.i64 0, Value.int IntKind.i64 0, Value.int IntKind.i64 0, Value.int IntKind.i64 0, Value.int IntKind.i64 0, Value.bool false, Value.int IntKind.i64 0, Value.int IntKind.i64 0, Value.bool false, Value.string { data := #[] }, Value.string { data := #[] }, Value.string { data := #[] }, Value.string { data := #[] }, Value.string { data := #[] }, Value.string { data := #[] }, Value.int IntKind.i64 0, Value.bool false, Value.int IntKind.i64 0, Value.int IntKind.i64 0, Value.int IntKind.i64 0] x.arr.zipIdx 0 20 = x.arr := by
  generalize hz : (#[Value.int IntKind.i64 0, Value.int IntKind.i64 0, Value.int IntKind.i64 0, Value.int IntKind.i64 0, Value.int IntKind.i64 0, Value.bool false, Value.int IntKind.i64 0, Value.int IntKind.i64 0, Value.bool false, Value.string { data := #[] }, Value.string { data := #[] }, Value.string { data := #[] }, Value.string { data := #[] }, Value.string { data := #[] }, Value.string { data := #[] }, Value.int IntKind.i64 0, Value.bool false, Value.int IntKind.i64 0, Value.int IntKind.i64 0, Value.int IntKind.i64 0] : Array Value) = zs
  have hs : zs.size = x.arr.size := by rw [← hz]; rfl
  exact fold_arr zs x.arr hs 20 rfl
theorem cell_on {W w : World} {b o : Nat} {u : Value} (hb : Below W.heap.size W w) (h : W.cell? ⟨b, o, none⟩ = some u) : w.cell? ⟨b, o, none⟩ = some u := (hb.cell (p := ⟨b, o, none⟩) (cell_lt h)).trans h
theorem range_on {W w : World} {b o : Nat} {cs : List Value} (hb : Below W.heap.size W w) (h : W.rangeAt b o cs) : w.rangeAt b o cs := fun j v hv => cell_on hb (h j v hv)
/-- An item of a slice is loaded. -/
theorem load_itm {ops : Array Oper} {rest : List Oper} {op : Oper} {a : Act} {W : World} {Q : Exit → Act → World → Prop} (hgd : op.guard = none) (x : Operand) (ho : op.op = .load 58 x)
    (b o : Nat) (hx : a.eval x = .pointer (some ⟨b, o, none⟩)) (y : Itm) (hc : W.rangeAt b o y.cells) (h : wpList Try.prog ops Q rest (a.put op.dst (.agg y.arr)) W) : wpList Try.prog ops Q (op :: rest) a W :=
  wpList_load_mid hgd 58 x ho b o hx y.cells _ hc Try.underlying58 rfl infoI h
/-- A slice that lies in a block from here on. -/
def Fr (B : Nat) (A : Option Addr) : Prop := ∀ a, A = some a → B ≤ a.block
theorem Fr.at {B b o o' : Nat} {z z' : Option Nat} (h : Fr B (some ⟨b, o, z⟩)) : Fr B (some ⟨b, o', z'⟩) := fun a e => by
  injection e with e; subst e
  exact h ⟨b, o, z⟩ rfl
theorem Fr.map {B k : Nat} {A : Option Addr} (h : Fr B A) : Fr B (A.map (fun x => x.add k)) := fun a e => by
  rcases A with _ | a2
  · cases e
  · have h2 := h a2 rfl
    simp only [Option.map_some, Option.some.injEq] at e
    subst e
    unfold Addr.add
    split
    · exact h2
    · exact h2
theorem Fr.nil (B : Nat) : Fr B none := fun _ e => by cases e
theorem Fr.own {w : World} {base size n m c : Nat} {e : TypeId} {A : Option Addr} {xs : List Value} (h : w.ownsRow base e size (.slice A m c) n xs) : Fr base A := fun a he => by
  subst he
  rcases h with ⟨_, ⟨h, _⟩ | ⟨g, cap, cur, h0, h1, _⟩⟩
  · cases h
  · injection h0 with h0; injection h0 with h0; subst h0; exact h1
/-- What take answers. -/
def TakePost (A0 : Option Addr) (nx : Int) (told : List Itm) (left : List Itm) (w : World) (e : Ending) (w' : World) : Prop :=
  ∃ A n c A' n' c', (∀ B, Fr B A0 → Fr B A) ∧ e = .returned (.tuple #[.agg #[.int .i64 nx, .slice A n c], .slice A' n' c']) ∧ left.length = n ∧ told.length = n' ∧ Sl w' A n c 20 (icells left) ∧ Sl w' A' n' c' 20 (icells told) ∧ Below w.heap.size w w'
theorem drain_stop {nx : Int} {l : List Itm} {k : Nat} (hk : k < l.length) (h : ¬ l[k].fr ≤ nx) : drain nx (l.drop k) = ([], nx, l.drop k) := by
  rw [List.drop_eq_getElem_cons hk, drain, if_neg h]
theorem drain_tell {nx : Int} {l : List Itm} {k : Nat} (hk : k < l.length) (h : l[k].fr ≤ nx) (h2 : nx < l[k].till) : drain nx (l.drop k) = (l[k] :: (drain l[k].till (l.drop (k + 1))).1, (drain l[k].till (l.drop (k + 1))).2) := by
  rw [List.drop_eq_getElem_cons hk, drain, if_pos h, if_pos h2]
theorem drain_go {nx : Int} {l : List Itm} {k : Nat} (hk : k < l.length) (h : l[k].fr ≤ nx) (h2 : ¬ nx < l[k].till) : drain nx (l.drop k) = drain nx (l.drop (k + 1)) := by
  rw [List.drop_eq_getElem_cons hk, drain, if_pos h, if_neg h2]
set_option maxRecDepth 100000 in
set_option maxHeartbeats 2000000 in
theorem own_take (k0 : Int) (A : Option Addr) (n c : Nat) (l : List Itm) (hl : l.length = n) (x : Itm) (W : World) (h : Sl W A n c 20 (icells l)) (hn : n ≤ 64) :
    Calls Try.prog 37 #[.agg #[.int .i64 k0, .slice A n c], .agg x.arr] W (TakePost A (drain x.till l).2.1 (x :: (drain x.till l).1) (drain x.till l).2.2 W) := by
  have HS := Lib.hid h
  have hcap : c ≤ 9223372036854775807 := by have := h.cap; unfold maxLen at this; omega
  have hnc := h.le
  have Hl := Lib.hid hl
  clear h hl
  have HI := Lib.hid ((((RI.start W).add 27 #[.int .i64 k0, .slice A n c]).addAt 58 x.arr (W.heap.size + 1) (by simp)).addAt 27 #[.int .i64 0, .slice none 0 0] (W.heap.size + 1 + 1) (by simp))
  have hx0 := ((HI.out.swap.cell 1).trans (show x.arr[1]? = some (.int .i64 x.till) from rfl))
  have HFin := Lib.hid (show ∀ (nx : Int) (told left : List Itm) e w', drain x.till l = (told, nx, left) → TakePost A nx (x :: told) left W e w' → TakePost A (drain x.till l).2.1 (x :: (drain x.till l).1) (drain x.till l).2.2 W e w' from fun nx told left e w' h1 h2 => by rw [h1]; exact h2)
  generalize hxt : x.till = tl at *
  have Hxt := Lib.hid hxt
  clear hxt
  have hxs : x.arr.size = 20 := rfl
  have HJ := Lib.hid ((tj_lit (HI.out.swap.tail) (fun b hb => by simp at hb; rcases hb with rfl | rfl <;> exact (show (27 : Nat) ≠ 58 by decide)) x (N := W.heap.size + 1 + 1 + 1) (by simp)).swap)
  go_enter Try.func37, Try.ntmps37
  have hbd := build_arr x
  go_upto_region 2 with (first | (refine wpList_load_row rfl 58 (.tmp 3) rfl _ rfl 58 x.arr (0, 0) _ HI.out.swap.bx Try.underlying58 rfl infoI ?_))
  have hx1 := ((HI.out.swap.cell 1).trans (show x.arr[1]? = some (.int .i64 tl) from congrArg (fun z => some (Value.int .i64 z)) Hxt.out))
  go_upto_region 3 with (first | (refine tj_put1 rfl 2 (.tmp 12) (.tmp 11) rfl 0 (.int .i64 tl) rfl rfl rfl HJ.out (by show 0 < 2; decide) (by kernel_rfl) rfl ?_; intro w1 hJ1; have HJ1 := Lib.hid hJ1; clear hJ1))
  clear hx1 hx0 HI HJ hbd hxs
  have HJ2 := Lib.hid (show TJ W [(W.heap.size, 27, #[.int .i64 tl, .slice A n c]), (W.heap.size + 1 + 1, 27, #[.int .i64 0, .slice none 0 0])] (.slice (some ⟨W.heap.size + 1 + 1 + 1, 0, none⟩) 1 1) [x] w1 from HJ1.out)
  clear HJ1
  go_wp2
  go_loopw [6, 7] (fun s6 s7 wr => ∃ (k : Nat) (nx : Int) (told : List Itm), k ≤ n ∧ s7 = .int .i64 k ∧ told.length ≤ k ∧ Hid (TJ W [(W.heap.size, 27, #[.int .i64 nx, .slice A n c]), (W.heap.size + 1 + 1, 27, #[.int .i64 0, .slice none 0 0])] s6 (x :: told) wr) ∧ Hid (drain tl l = (told ++ (drain nx (l.drop k)).1, (drain nx (l.drop k)).2))) (fun _ s7 _ => n - (intOf s7).toNat)
  case atStart => exact ⟨0, tl, [], Nat.zero_le _, rfl, Nat.le_refl _, HJ2, Lib.hid (by rw [List.drop_zero]; rfl)⟩
  case round =>
    obtain ⟨k, nx, told, hk, rfl, htk, HJ, HD⟩ := hrel
    clear HJ2
    have hb0 := (HJ.out.ri.cell 0).trans (show _ = some (.int .i64 nx) from rfl)
    have hb1 := (HJ.out.ri.cell 1).trans (show _ = some (.slice A n c) from rfl)
    by_cases hlt : k < n
    · have hkl : k < l.length := by rw [Hl.out]; exact hlt
      obtain ⟨b, off, rfl, hraW, h0W, h1W⟩ := HS.out.row.itm hkl
      have HRa := Lib.hid hraW
      have h0 := cell_on HJ.out.ri.below h0W
      have h1 := cell_on HJ.out.ri.below h1W
      have HW1 := Lib.hid h1W
      clear hraW h0W h1W
      have Hstop := Lib.hid (drain_stop (nx := nx) hkl)
      have Htell := Lib.hid (drain_tell (nx := nx) hkl)
      have Hgo := Lib.hid (drain_go (nx := nx) hkl)
      generalize l[k] = y at *
      generalize hf : y.fr = f at *
      generalize ht : y.till = t at *
      have Hf := Lib.hid hf
      have Ht := Lib.hid ht
      clear hf ht
      by_cases hle : f ≤ nx
      · by_cases hlt2 : nx < t
        · have HN := Lib.hid (show drain tl l = ((told ++ [y]) ++ (drain t (l.drop (k + 1))).1, (drain t (l.drop (k + 1))).2) by rw [HD.out, Htell.out hle hlt2]; simp)
          clear HD Hstop Htell Hgo
          have hbd := build_arr y
          have hys : y.arr.size = 20 := rfl
          go_wp2_with fail
          go_quiet (fail)
          go_wp2_with fail
          go_quiet (fail)
          go_upto_region 6 with (fail)
          go_wp2_with (first | (refine load_itm rfl _ rfl b (off + k * 20) rfl y (range_on (HJ.out.dn _).ri.below HRa.out) ?_) | (at_builtin; refine tj_append rfl (.tmp 38) (.tmp 44) rfl rfl y ((HJ.out.dn _).on ((Below.refl _ _).alloc (Nat.le_refl _) _)) rfl (lit_itm _ y (by simp)) (by simp only [List.length_cons]; omega) ?_; intro v2 w2 hJ2; have HJ2 := Lib.hid hJ2; clear hJ2; (have hB2 := HJ2.out.ri.below; have g0 := (HJ2.out.ri.cell 0).trans (show _ = some (.int .i64 nx) from rfl); have g1 := (HJ2.out.ri.cell 1).trans (show _ = some (.slice (some ⟨b, off, none⟩) n c) from rfl); have g2 := cell_on hB2 HW1.out)) | (refine tj_put1 rfl 2 (.tmp 52) (.tmp 51) rfl 0 (.int .i64 t) rfl rfl rfl HJ2.out (by show 0 < 2; decide) (by kernel_rfl) rfl ?_; intro w3 hJ3; have HJ3 := Lib.hid hJ3; clear hJ3))
          go_roundw
          case rel => exact ⟨k + 1, t, told ++ [y], by omega, by go_num, by simp only [List.length_append, List.length_singleton]; omega, Lib.hid HJ3.out, HN⟩
          case measure => simp [intOf]; omega
        · have HN := Lib.hid (show drain tl l = (told ++ (drain nx (l.drop (k + 1))).1, (drain nx (l.drop (k + 1))).2) by rw [HD.out, Hgo.out hle hlt2])
          clear HD Hstop Htell Hgo
          go_wp2_with fail
          go_quiet (fail)
          go_wp2_with fail
          go_quiet (fail)
          go_wp2
          go_roundw
          case rel => exact ⟨k + 1, nx, told, by omega, by go_num, by omega, Lib.hid (HJ.out.dn _), HN⟩
          case measure => simp [intOf]; omega
      · have HN := Lib.hid (show drain tl l = (told, nx, l.drop k) by rw [HD.out, Hstop.out hle]; simp)
        clear HD Hstop Htell Hgo
        have hsd := HS.out.itmDrop Hl.out hk
        have hck : ¬ c = k := by omega
        rw [if_neg hck] at hsd
        rw [show Option.map (fun x => x.add (k * 20)) (some (⟨b, off, none⟩ : Addr)) = some ⟨b, off + k * 20, none⟩ from congrArg some (addr_at b off (k * 20))] at hsd
        have HSd := Lib.hid hsd
        clear hsd
        go_wp2_with fail
        go_quiet (fail)
        go_upto_region 9 with (fail)
        go_wp2_with (first | (refine tj_put1 rfl 25 (.tmp 59) (.tmp 58) rfl 1 (.slice (some ⟨b, off + k * 20, none⟩) (n - k) (c - k)) rfl (by first | rfl | (simp [Act.eval]; done)) rfl (HJ.out.dn _) (by show 1 < 2; decide) (by kernel_rfl) (cs' := #[.int .i64 nx, .slice (some ⟨b, off + k * 20, none⟩) (n - k) (c - k)]) rfl ?_; intro w3 hJ3; have HJ3 := Lib.hid hJ3; clear hJ3) | (refine wpList_load_row rfl 27 (.tmp 2) rfl _ rfl 27 _ (0, 0) _ HJ3.out.ri.bx Try.underlying27 rfl infoL ?_) | (refine tj_put rfl 27 (.tmp 4) (.tmp 60) rfl #[.int .i64 nx, .slice (some ⟨b, off + k * 20, none⟩) (n - k) (c - k)] rfl rfl HJ3.out.swap rfl infoL (by simp [Value.oneCell']) ?_; intro w4 hJ4; have HJ4 := Lib.hid hJ4; clear hJ4))
        obtain ⟨A6, c6, rfl, hs6, -⟩ := Sl.of_own HJ4.out.own
        try simp only [Exit.inBlock, Exit.then]
        refine bodyPost_ret (results_cell_tmp Try.results37 _ _ _ _ _ (0, 0) _ rfl HJ4.out.ri.bx Try.underlying27 rfl infoL) rfl ?_
        exact HFin.out nx told _ _ _ HN.out ⟨_, _, _, _, _, _, (fun B hB => by first | exact hB | exact hB.at | exact hB.map), rfl, by rw [List.length_drop, Hl.out], rfl, HSd.out.on HJ4.out.ri.below, hs6, HJ4.out.ri.below⟩
    · obtain rfl : k = n := by omega
      have HN := Lib.hid (show drain tl l = (told, nx, l.drop k) by rw [HD.out, List.drop_eq_nil_of_le (by rw [Hl.out]; exact Nat.le_refl _)]; simp [drain])
      clear HD
      have hsd := HS.out.itmDrop Hl.out hk
      by_cases hck : c = k
      · rw [if_pos hck, hck, Nat.sub_self] at hsd
        obtain rfl : c = k := hck
        have HSd := Lib.hid hsd
        clear hsd
        go_wp2_with fail
        go_quiet (fail)
        go_upto_region 9 with (fail)
        go_wp2_with (first | (refine tj_put1 rfl 25 (.tmp 59) (.tmp 58) rfl 1 (.slice A 0 0) rfl (by first | rfl | (simp [Act.eval]; done)) rfl (HJ.out.dn _) (by show 1 < 2; decide) (by kernel_rfl) (cs' := #[.int .i64 nx, .slice A 0 0]) rfl ?_; intro w3 hJ3; have HJ3 := Lib.hid hJ3; clear hJ3) | (refine wpList_load_row rfl 27 (.tmp 2) rfl _ rfl 27 _ (0, 0) _ HJ3.out.ri.bx Try.underlying27 rfl infoL ?_) | (refine tj_put rfl 27 (.tmp 4) (.tmp 60) rfl #[.int .i64 nx, .slice A 0 0] rfl rfl HJ3.out.swap rfl infoL (by simp [Value.oneCell']) ?_; intro w4 hJ4; have HJ4 := Lib.hid hJ4; clear hJ4))
        obtain ⟨A6, c6, rfl, hs6, -⟩ := Sl.of_own HJ4.out.own
        try simp only [Exit.inBlock, Exit.then]
        refine bodyPost_ret (results_cell_tmp Try.results37 _ _ _ _ _ (0, 0) _ rfl HJ4.out.ri.bx Try.underlying27 rfl infoL) rfl ?_
        exact HFin.out nx told _ _ _ HN.out ⟨_, _, _, _, _, _, (fun B hB => by first | exact hB | exact hB.at | exact hB.map), rfl, by rw [List.length_drop, Hl.out, Nat.sub_self], rfl, HSd.out.on HJ4.out.ri.below, hs6, HJ4.out.ri.below⟩
      · rw [if_neg hck, Nat.sub_self] at hsd
        have HSd := Lib.hid hsd
        clear hsd
        go_wp2_with fail
        go_quiet (fail)
        go_upto_region 9 with (fail)
        go_wp2_with (first | (refine tj_put1 rfl 25 (.tmp 59) (.tmp 58) rfl 1 (.slice (A.map (fun x => x.add (k * 20))) 0 (c - k)) rfl (by first | rfl | (simp [Act.eval]; done)) rfl (HJ.out.dn _) (by show 1 < 2; decide) (by kernel_rfl) (cs' := #[.int .i64 nx, .slice (A.map (fun x => x.add (k * 20))) 0 (c - k)]) rfl ?_; intro w3 hJ3; have HJ3 := Lib.hid hJ3; clear hJ3) | (refine wpList_load_row rfl 27 (.tmp 2) rfl _ rfl 27 _ (0, 0) _ HJ3.out.ri.bx Try.underlying27 rfl infoL ?_) | (refine tj_put rfl 27 (.tmp 4) (.tmp 60) rfl #[.int .i64 nx, .slice (A.map (fun x => x.add (k * 20))) 0 (c - k)] rfl rfl HJ3.out.swap rfl infoL (by simp [Value.oneCell']) ?_; intro w4 hJ4; have HJ4 := Lib.hid hJ4; clear hJ4))
        obtain ⟨A6, c6, rfl, hs6, -⟩ := Sl.of_own HJ4.out.own
        try simp only [Exit.inBlock, Exit.then]
        refine bodyPost_ret (results_cell_tmp Try.results37 _ _ _ _ _ (0, 0) _ rfl HJ4.out.ri.bx Try.underlying27 rfl infoL) rfl ?_
        exact HFin.out nx told _ _ _ HN.out ⟨_, _, _, _, _, _, (fun B hB => by first | exact hB | exact hB.at | exact hB.map), rfl, by rw [List.length_drop, Hl.out, Nat.sub_self], rfl, HSd.out.on HJ4.out.ri.below, hs6, HJ4.out.ri.below⟩
end Go.Proofs.Ytblkdmbkkimbpaa
