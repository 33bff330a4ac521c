/-
  Layer 5, msg: the document's own way: a message's body.
-/
import Derived.Test.YtioagepalfiioaaDoorMsgRef
import Derived.Test.YtioagepalfiioaaDoorMsgBackN
import Derived.Test.YtioagepalfiioaaDoorMsgBox
import Derived.Deep.DeepCutAuto
import Derived.Deep.AppendLies
import Derived.Deep.MidRow
namespace Go.Proofs.YtioagepalfiioaaDoor
open Go.RowKit

theorem infoF5 : (Tryd.prog.info? 56).map (fun i => (i.zero, i.size, i.bytes)) = some (some (.agg #[.int .i64 0, .string ⟨#[]⟩]), 2, 24) := by kernel_rfl
def MPutPost (m : Mg) (w : World) (e : Ending) (w' : World) : Prop :=
  ∃ A n c, e = .returned (.tuple #[.slice A n c, .int .i64 (mPutE m)]) ∧ Sl w' A n c 1 (bcells (mPutV m)) ∧ Below w.heap.size w w'
theorem MPutPost.bad {m : Mg} (h : msgB m = false) {w : World} {e : Ending} {w' : World} (he : e = .returned (.tuple #[.slice none 0 0, .int .i64 1])) (hb : Below w.heap.size w w') : MPutPost m w e w' :=
  ⟨none, 0, 0, by unfold mPutE; rw [h]; exact he, by unfold mPutV; rw [h]; exact Sl.none_ _ _, hb⟩
theorem MPutPost.good {m : Mg} (h : msgB m = true) {w : World} {e : Ending} {w' : World} {A : Option Addr} {n c : Nat} (he : e = .returned (.tuple #[.slice A n c, .int .i64 0])) (hs : Sl w' A n c 1 (bcells (putL (msgL m)))) (hb : Below w.heap.size w w') : MPutPost m w e w' :=
  ⟨A, n, c, by unfold mPutE; rw [h]; exact he, by unfold mPutV; rw [h]; exact hs, hb⟩
/-- How far the body has come: the list that is made, and what else lies in memory. -/
structure PutI (w : World) (bs : List (Nat × TypeId × Array Value)) (L : List Fld) (s : Value) (wx : World) : Prop where
  own : wx.ownsRow w.heap.size 56 2 s L.length (fcells L)
  box : ∀ b ∈ bs, Box wx b.1 b.2.1 b.2.2
  types : ∀ b ∈ bs, b.2.1 ≠ 56
  below : Below w.heap.size w wx
theorem PutI.on {w : World} {bs : List (Nat × TypeId × Array Value)} {L : List Fld} {s : Value} {wx wy : World} (h : PutI w bs L s wx) (hb : Below wx.heap.size wx wy) : PutI w bs L s wy :=
  ⟨own_on h.own hb, fun b hm => (h.box b hm).on hb, h.types, h.below.trans (hb.mono h.below.size)⟩
theorem PutI.alloc {w : World} {bs : List (Nat × TypeId × Array Value)} {L : List Fld} {s : Value} {wx : World} (h : PutI w bs L s wx) (o : Obj) : PutI w bs L s (wx.alloc o) := h.on ((Below.refl _ _).alloc (Nat.le_refl _) o)
theorem PutI.drew {w : World} {bs : List (Nat × TypeId × Array Value)} {L : List Fld} {s : Value} {wx : World} (h : PutI w bs L s wx) : PutI w bs L s wx.drew := h.on (Below.refl _ _).drew
theorem PutI.app {w : World} {bs : List (Nat × TypeId × Array Value)} {L K : List Fld} {s v' : Value} {wx w' : World} {n : Nat} (h : PutI w bs L s wx) (hn : n = L.length + K.length) (ho : w'.ownsRow w.heap.size 56 2 v' n (fcells L ++ fcells K)) (hg : wx.grownBy w' s.ownBlock) : PutI w bs (L ++ K) v' w' :=
  ⟨own_cast ho (by rw [fcells_app]) (by rw [hn, List.length_append]), fun b hm => (h.box b hm).grown hg h.own (h.types b hm).symm, h.types, below_own h.below hg h.below.size h.own⟩
theorem PutI.cast {w : World} {bs : List (Nat × TypeId × Array Value)} {L K : List Fld} {s : Value} {wx : World} (h : PutI w bs L s wx) (e : L = K) : PutI w bs K s wx := e ▸ h
theorem PutI.bx {w : World} {bs : List (Nat × TypeId × Array Value)} {g : Nat} {t : TypeId} {cs : Array Value} {L : List Fld} {s : Value} {wx : World} (h : PutI w ((g, t, cs) :: bs) L s wx) : Box wx g t cs := h.box _ (List.mem_cons_self ..)
theorem PutI.tail {w : World} {b : Nat × TypeId × Array Value} {bs : List (Nat × TypeId × Array Value)} {L : List Fld} {s : Value} {wx : World} (h : PutI w (b :: bs) L s wx) : PutI w bs L s wx :=
  ⟨h.own, fun b hm => h.box b (List.mem_cons_of_mem _ hm), fun b hm => h.types b (List.mem_cons_of_mem _ hm), h.below⟩
theorem PutI.add {w : World} {bs : List (Nat × TypeId × Array Value)} {L : List Fld} {s : Value} {wx : World} (h : PutI w bs L s wx) (cs : Array Value) {t : TypeId} (ht : t ≠ 56) : PutI w ((wx.heap.size, t, cs) :: bs) L s (wx.alloc (.cells cs t)) := by
  have h' := h.alloc (.cells cs t)
  refine ⟨h'.own, fun b hm => ?_, fun b hm => ?_, h'.below⟩
  · rcases List.mem_cons.1 hm with rfl | hm
    · exact Box.new _ _ _
    · exact h'.box b hm
  · rcases List.mem_cons.1 hm with rfl | hm
    · exact ht
    · exact h.types b hm
theorem put_lit3 (a b c : Fld) {w : World} {bs : List (Nat × TypeId × Array Value)} {L : List Fld} {s : Value} {W : World} (h : PutI w bs L s W) : PutI w bs [a, b, c] (.slice (some ⟨W.heap.size, 0, none⟩) 3 3) (W.alloc (.cells #[.int .i64 a.tag, .string a.val, .int .i64 b.tag, .string b.val, .int .i64 c.tag, .string c.val] 56)) :=
  ⟨World.ownsRow_lit (e := 56) (size := 2) W #[.int .i64 a.tag, .string a.val, .int .i64 b.tag, .string b.val, .int .i64 c.tag, .string c.val] 3 h.below.size (by decide) rfl, (h.alloc _).box, h.types, h.below.alloc h.below.size _⟩
def kindsV : Array Value := #[.string ⟨#[65]⟩, .string ⟨#[48]⟩, .string ⟨#[49]⟩, .string ⟨#[50]⟩, .string ⟨#[52]⟩, .string ⟨#[53]⟩, .string ⟨#[56]⟩]
def onL (c : Prop) [Decidable c] (l : List Fld) : List Fld := if c then l else []
theorem onL_len (c : Prop) [Decidable c] (l : List Fld) : (onL c l).length ≤ l.length := by unfold onL; split <;> simp
theorem side_num (buy : Bool) : nmV (if buy = true then 1 else 2) = sideV buy := by
  have h1 : nmV 1 = ⟨#[49]⟩ := by
    apply ba_ext
    rw [nmV_list]
    unfold showL
    rw [if_pos (by decide)]
    show Lib.itoa 1 = _
    unfold Lib.itoa
    simp only [show ¬ (1 : Int) < 0 by decide, if_false]
    show Lib.decDigits 1 = _
    rw [decDigits_small (by decide)]; rfl
  have h2 : nmV 2 = ⟨#[50]⟩ := by
    apply ba_ext
    rw [nmV_list]
    unfold showL
    rw [if_pos (by decide)]
    show Lib.itoa 2 = _
    unfold Lib.itoa
    simp only [show ¬ (2 : Int) < 0 by decide, if_false]
    show Lib.decDigits 2 = _
    rw [decDigits_small (by decide)]; rfl
  cases buy
  · exact h2
  · exact h1
theorem msgL_parts {m : Mg} (h : MsgR m) : ((((((([⟨35, kindV m.kind⟩, ⟨34, nmV m.seq⟩, ⟨52, nmV m.time⟩] ++ optY 43 m.copy) ++ onL (m.kind = 1) [⟨108, nmV m.a⟩]) ++ opt 112 m.text) ++ onL (m.kind = 4) [⟨7, nmV m.a⟩, ⟨16, nmV m.b⟩]) ++ optY 123 m.gap) ++ onL (m.kind = 5) [⟨36, nmV m.a⟩]) ++ onL (m.kind = 7) (exL m.ex)) = msgL m := by
  have K := h.kinded
  have hk := h.kind
  have ht : m.kind ≠ 2 → m.kind ≠ 3 → opt 112 m.text = [] := fun h2 h3 => by rw [K.text h2 h3]; rfl
  have hg : m.kind ≠ 5 → optY 123 m.gap = [] := fun h5 => by rw [K.gap h5]; rfl
  unfold msgL restL onL
  rcases (show m.kind = 1 ∨ m.kind = 2 ∨ m.kind = 3 ∨ m.kind = 4 ∨ m.kind = 5 ∨ m.kind = 6 ∨ m.kind = 7 by omega) with e | e | e | e | e | e | e
  all_goals
    rw [e] at ht hg ⊢
    simp at ht hg ⊢
    try simp [ht]
    try simp [hg]
theorem kind_at0 (W : World) : (Instr.index 47 (.agg #[.string ⟨#[65]⟩, .string ⟨#[48]⟩, .string ⟨#[49]⟩, .string ⟨#[50]⟩, .string ⟨#[52]⟩, .string ⟨#[53]⟩, .string ⟨#[56]⟩]) (.int .i64 0)).run Tryd.prog W = .ok (.string ⟨#[65]⟩) W := by kernel_rfl
theorem kind_at1 (W : World) : (Instr.index 47 (.agg #[.string ⟨#[65]⟩, .string ⟨#[48]⟩, .string ⟨#[49]⟩, .string ⟨#[50]⟩, .string ⟨#[52]⟩, .string ⟨#[53]⟩, .string ⟨#[56]⟩]) (.int .i64 1)).run Tryd.prog W = .ok (.string ⟨#[48]⟩) W := by kernel_rfl
theorem kind_at2 (W : World) : (Instr.index 47 (.agg #[.string ⟨#[65]⟩, .string ⟨#[48]⟩, .string ⟨#[49]⟩, .string ⟨#[50]⟩, .string ⟨#[52]⟩, .string ⟨#[53]⟩, .string ⟨#[56]⟩]) (.int .i64 2)).run Tryd.prog W = .ok (.string ⟨#[49]⟩) W := by kernel_rfl
theorem kind_at3 (W : World) : (Instr.index 47 (.agg #[.string ⟨#[65]⟩, .string ⟨#[48]⟩, .string ⟨#[49]⟩, .string ⟨#[50]⟩, .string ⟨#[52]⟩, .string ⟨#[53]⟩, .string ⟨#[56]⟩]) (.int .i64 3)).run Tryd.prog W = .ok (.string ⟨#[50]⟩) W := by kernel_rfl
theorem kind_at4 (W : World) : (Instr.index 47 (.agg #[.string ⟨#[65]⟩, .string ⟨#[48]⟩, .string ⟨#[49]⟩, .string ⟨#[50]⟩, .string ⟨#[52]⟩, .string ⟨#[53]⟩, .string ⟨#[56]⟩]) (.int .i64 4)).run Tryd.prog W = .ok (.string ⟨#[52]⟩) W := by kernel_rfl
theorem kind_at5 (W : World) : (Instr.index 47 (.agg #[.string ⟨#[65]⟩, .string ⟨#[48]⟩, .string ⟨#[49]⟩, .string ⟨#[50]⟩, .string ⟨#[52]⟩, .string ⟨#[53]⟩, .string ⟨#[56]⟩]) (.int .i64 5)).run Tryd.prog W = .ok (.string ⟨#[53]⟩) W := by kernel_rfl
theorem kind_at6 (W : World) : (Instr.index 47 (.agg #[.string ⟨#[65]⟩, .string ⟨#[48]⟩, .string ⟨#[49]⟩, .string ⟨#[50]⟩, .string ⟨#[52]⟩, .string ⟨#[53]⟩, .string ⟨#[56]⟩]) (.int .i64 6)).run Tryd.prog W = .ok (.string ⟨#[56]⟩) W := by kernel_rfl
theorem kind_at (kind : Int) (h : 1 ≤ kind ∧ kind ≤ 7) (W : World) : (Instr.index 47 (.agg #[.string ⟨#[65]⟩, .string ⟨#[48]⟩, .string ⟨#[49]⟩, .string ⟨#[50]⟩, .string ⟨#[52]⟩, .string ⟨#[53]⟩, .string ⟨#[56]⟩]) (.int .i64 (kind - 1))).run Tryd.prog W = .ok (.string (kindV kind)) W := by
  rcases (show kind = 1 ∨ kind = 2 ∨ kind = 3 ∨ kind = 4 ∨ kind = 5 ∨ kind = 6 ∨ kind = 7 by omega) with rfl | rfl | rfl | rfl | rfl | rfl | rfl
  · exact kind_at0 W
  · exact kind_at1 W
  · exact kind_at2 W
  · exact kind_at3 W
  · exact kind_at4 W
  · exact kind_at5 W
  · exact kind_at6 W
theorem fcells_one5 (l : List Fld) : ∀ u ∈ fcells l, u.oneCell' = true := by
  intro u hu
  unfold fcells at hu
  obtain ⟨f, _, h⟩ := List.mem_flatMap.1 hu
  simp [Fld.cells] at h
  rcases h with rfl | rfl <;> rfl
theorem lit_news (W : World) (K : List Fld) {cs : Array Value} {N : Nat} (hN : W.heap.size = N) (h : cs.toList = fcells K) (j : Nat) (u : Value) (hu : (fcells K)[j]? = some u) : (W.alloc (.cells cs 56)).cell? ((⟨N, 0, none⟩ : Addr).add j) = some u := by
  subst hN
  rw [addr_at, Nat.zero_add, (Box.new W cs 56).cell j]
  rw [← h] at hu
  simpa using hu
/-- An append of fields, in a region that draws. -/
theorem step_fields {ops : Array Oper} {o : Oper} {a : Act} {W : World} {K' : Act → World → Prop} {Q : Exit → Act → World → Prop} {E : Prop} (hgd : o.guard = none) (s x : Operand) (ho : o.op = .call { callee := .builtin .append, args := #[s, x], argTypes := #[36, 36] })
    (i0 : TypeInfo) (hi : Tryd.prog.info? 56 = some i0) (iz0 : i0.zero = some (.agg #[.int .i64 0, .string ⟨#[]⟩])) (iz1 : i0.size = 2) (iz2 : i0.bytes = 24) {w : World} {bs : List (Nat × TypeId × Array Value)} (v : Value) (L K : List Fld) (hs : a.eval s = v)
    (h : PutI w bs L v W) {ad : Addr} {m c : Nat} (hx : a.eval x = .slice (some ad) m c) (hnews : ∀ j u, (fcells K)[j]? = some u → W.cell? (ad.add j) = some u) (hm : K.length = m) (hl : L.length + m ≤ 1000 ∧ 0 < m)
    (hk : ∀ v' w', PutI w bs (L ++ K) v' w' → K' (a.put o.dst v') w') : if Region.wanted o (yielded ops a.tmps) = true then Oper.wp Tryd.prog o a W K' Q else E := by
  refine step_append_lies W hgd s x 36 ho w.heap.size 56 i0 (.agg #[.int .i64 0, .string ⟨#[]⟩]) 2 24 Tryd.underlying36 hi iz0 iz1 iz2 rfl (by decide) v L.length (fcells L) hs h.own ad m c (fcells K) hx (by rw [fcells_len, hm]) hnews (fcells_one5 _) hl.2 (by unfold maxLen; omega) (by omega) h.below.size W.heap.size rfl ?_
  intro g' cap w' hown hg _ _
  exact hk _ _ (h.app (by rw [hm]) hown hg)
/-- The same where nothing is drawn. -/
theorem list_fields {ops : Array Oper} {rest : List Oper} {o : Oper} {a : Act} {W : World} {Q : Exit → Act → World → Prop} (hgd : o.guard = none) (s x : Operand) (ho : o.op = .call { callee := .builtin .append, args := #[s, x], argTypes := #[36, 36] })
    (i0 : TypeInfo) (hi : Tryd.prog.info? 56 = some i0) (iz0 : i0.zero = some (.agg #[.int .i64 0, .string ⟨#[]⟩])) (iz1 : i0.size = 2) (iz2 : i0.bytes = 24) {w : World} {bs : List (Nat × TypeId × Array Value)} (v : Value) (L K : List Fld) (hs : a.eval s = v)
    (h : PutI w bs L v W) {ad : Addr} {m c : Nat} (hx : a.eval x = .slice (some ad) m c) (hnews : ∀ j u, (fcells K)[j]? = some u → W.cell? (ad.add j) = some u) (hm : K.length = m) (hl : L.length + m ≤ 1000 ∧ 0 < m)
    (hk : ∀ v' w', PutI w bs (L ++ K) v' w' → wpList Tryd.prog ops Q rest (a.put o.dst v') w') : wpList Tryd.prog ops Q (o :: rest) a W := by
  refine wpList_append_own W hgd s x 36 ho w.heap.size 56 i0 (.agg #[.int .i64 0, .string ⟨#[]⟩]) 2 24 Tryd.underlying36 hi iz0 iz1 iz2 rfl (by decide) v L.length (fcells L) hs h.own ad m c (fcells K) hx (by rw [fcells_len, hm]) hnews (fcells_one5 _) (by unfold maxLen; omega) (by omega) h.below.size ?_
  intro v' w' hown hg _
  exact hk _ _ (h.app (by rw [hm]) hown hg)
end Go.Proofs.YtioagepalfiioaaDoor
