/-
  Layer 5, msg: the document's own way: a message's body.
-/
import Derived.Test.YtcfpchcbiknehaaDoorRMsgRef
import Derived.Test.YtcfpchcbiknehaaDoorRMsgBackN
import Derived.Test.YtcfpchcbiknehaaDoorRMsgBox
import Derived.Deep.DeepCutAuto
import Derived.Deep.AppendLies
import Derived.Deep.MidRow
namespace Go.Proofs.YtcfpchcbiknehaaDoorR
open Go.RowKit

theorem infoF5 : (Tryd.prog.info? 42).map (fun i => (i.zero, i.size, i.bytes)) = some (some (.agg #[.int .i64 0, .string ⟨#[]⟩]), 2, 24) := by kernel_rfl
def MPutPost (m : Mg) (w : World) (e : Ending) (w' : World) : Prop :=
  ∃ A n c, e = .returned (.tuple #[.slice A n c, .int .i64 (mPutE m)]) ∧ Sl w' A n c 1 (bcells (mPutV m)) ∧ Below w.heap.size w w'
theorem MPutPost.bad {m : Mg} (h : msgB m = false) {w : World} {e : Ending} {w' : World} (he : e = .returned (.tuple #[.slice none 0 0, .int .i64 1])) (hb : Below w.heap.size w w') : MPutPost m w e w' :=
  ⟨none, 0, 0, by unfold mPutE; rw [h]; exact he, by unfold mPutV; rw [h]; exact Sl.none_ _ _, hb⟩
theorem MPutPost.good {m : Mg} (h : msgB m = true) {w : World} {e : Ending} {w' : World} {A : Option Addr} {n c : Nat} (he : e = .returned (.tuple #[.slice A n c, .int .i64 0])) (hs : Sl w' A n c 1 (bcells (putL (msgL m)))) (hb : Below w.heap.size w w') : MPutPost m w e w' :=
  ⟨A, n, c, by unfold mPutE; rw [h]; exact he, by unfold mPutV; rw [h]; exact hs, hb⟩
/-- How far the body has come: the list that is made, and what else lies in memory. -/
structure PutI (w : World) (bs : List (Nat × TypeId × Array Value)) (L : List Fld) (s : Value) (wx : World) : Prop where
  own : wx.ownsRow w.heap.size 42 2 s L.length (fcells L)
  box : ∀ b ∈ bs, Box wx b.1 b.2.1 b.2.2
  types : ∀ b ∈ bs, b.2.1 ≠ 42
  below : Below w.heap.size w wx
theorem PutI.on {w : World} {bs : List (Nat × TypeId × Array Value)} {L : List Fld} {s : Value} {wx wy : World} (h : PutI w bs L s wx) (hb : Below wx.heap.size wx wy) : PutI w bs L s wy :=
  ⟨own_on h.own hb, fun b hm => (h.box b hm).on hb, h.types, h.below.trans (hb.mono h.below.size)⟩
theorem PutI.alloc {w : World} {bs : List (Nat × TypeId × Array Value)} {L : List Fld} {s : Value} {wx : World} (h : PutI w bs L s wx) (o : Obj) : PutI w bs L s (wx.alloc o) := h.on ((Below.refl _ _).alloc (Nat.le_refl _) o)
theorem PutI.drew {w : World} {bs : List (Nat × TypeId × Array Value)} {L : List Fld} {s : Value} {wx : World} (h : PutI w bs L s wx) : PutI w bs L s wx.drew := h.on (Below.refl _ _).drew
theorem PutI.app {w : World} {bs : List (Nat × TypeId × Array Value)} {L K : List Fld} {s v' : Value} {wx w' : World} {n : Nat} (h : PutI w bs L s wx) (hn : n = L.length + K.length) (ho : w'.ownsRow w.heap.size 42 2 v' n (fcells L ++ fcells K)) (hg : wx.grownBy w' s.ownBlock) : PutI w bs (L ++ K) v' w' :=
  ⟨own_cast ho (by rw [fcells_app]) (by rw [hn, List.length_append]), fun b hm => (h.box b hm).grown hg h.own (h.types b hm).symm, h.types, below_own h.below hg h.below.size h.own⟩
theorem PutI.cast {w : World} {bs : List (Nat × TypeId × Array Value)} {L K : List Fld} {s : Value} {wx : World} (h : PutI w bs L s wx) (e : L = K) : PutI w bs K s wx := e ▸ h
theorem PutI.bx {w : World} {bs : List (Nat × TypeId × Array Value)} {g : Nat} {t : TypeId} {cs : Array Value} {L : List Fld} {s : Value} {wx : World} (h : PutI w ((g, t, cs) :: bs) L s wx) : Box wx g t cs := h.box _ (List.mem_cons_self ..)
theorem PutI.tail {w : World} {b : Nat × TypeId × Array Value} {bs : List (Nat × TypeId × Array Value)} {L : List Fld} {s : Value} {wx : World} (h : PutI w (b :: bs) L s wx) : PutI w bs L s wx :=
  ⟨h.own, fun b hm => h.box b (List.mem_cons_of_mem _ hm), fun b hm => h.types b (List.mem_cons_of_mem _ hm), h.below⟩
theorem PutI.add {w : World} {bs : List (Nat × TypeId × Array Value)} {L : List Fld} {s : Value} {wx : World} (h : PutI w bs L s wx) (cs : Array Value) {t : TypeId} (ht : t ≠ 42) : PutI w ((wx.heap.size, t, cs) :: bs) L s (wx.alloc (.cells cs t)) := by
  have h' := h.alloc (.cells cs t)
  refine ⟨h'.own, fun b hm => ?_, fun b hm => ?_, h'.below⟩
  · rcases List.mem_cons.1 hm with rfl | hm
    · exact Box.new _ _ _
    · exact h'.box b hm
  · rcases List.mem_cons.1 hm with rfl | hm
    · exact ht
    · exact h.types b hm
theorem num_keeps (t n : Int) (W : World) {w : World} {bs : List (Nat × TypeId × Array Value)} {L : List Fld} {s : Value} (h : PutI w bs L s W) : Calls Tryd.prog 21 #[.int .i64 t, .int .i64 n] W fun e W' => e = .returned (.agg #[.int .i64 t, .string (nmV n)]) ∧ PutI w bs L s W' :=
  (ref_num5 t n W).mono fun _ _ ⟨he, hb⟩ => ⟨he, h.on hb⟩
theorem put_lit3 (a b c : Fld) {w : World} {bs : List (Nat × TypeId × Array Value)} {L : List Fld} {s : Value} {W : World} (h : PutI w bs L s W) : PutI w bs [a, b, c] (.slice (some ⟨W.heap.size, 0, none⟩) 3 3) (W.alloc (.cells #[.int .i64 a.tag, .string a.val, .int .i64 b.tag, .string b.val, .int .i64 c.tag, .string c.val] 42)) :=
  ⟨World.ownsRow_lit (e := 42) (size := 2) W #[.int .i64 a.tag, .string a.val, .int .i64 b.tag, .string b.val, .int .i64 c.tag, .string c.val] 3 h.below.size (by decide) rfl, (h.alloc _).box, h.types, h.below.alloc h.below.size _⟩
def kindsV : Array Value := #[.string ⟨#[65]⟩, .string ⟨#[48]⟩, .string ⟨#[49]⟩, .string ⟨#[50]⟩, .string ⟨#[52]⟩, .string ⟨#[53]⟩, .string ⟨#[56]⟩]
def onL (c : Prop) [Decidable c] (l : List Fld) : List Fld := if c then l else []
theorem onL_len (c : Prop) [Decidable c] (l : List Fld) : (onL c l).length ≤ l.length := by unfold onL; split <;> simp
theorem side_num (buy : Bool) : nmV (if buy = true then 1 else 2) = sideV buy := by
  have h1 : nmV 1 = ⟨#[49]⟩ := by
    apply ba_ext
    rw [nmV_list]
    unfold showL
    rw [if_pos (by decide)]
    show Lib.itoa 1 = _
    unfold Lib.itoa
    simp only [show ¬ (1 : Int) < 0 by decide, if_false]
    show Lib.decDigits 1 = _
    rw [decDigits_small (by decide)]; rfl
  have h2 : nmV 2 = ⟨#[50]⟩ := by
    apply ba_ext
    rw [nmV_list]
    unfold showL
    rw [if_pos (by decide)]
    show Lib.itoa 2 = _
    unfold Lib.itoa
    simp only [show ¬ (2 : Int) < 0 by decide, if_false]
    show Lib.decDigits 2 = _
    rw [decDigits_small (by decide)]; rfl
  cases buy
  · exact h2
  · exact h1
theorem msgL_parts {m : Mg} (h : MsgR m) : ((((((([⟨35, kindV m.kind⟩, ⟨34, nmV m.seq⟩, ⟨52, nmV m.time⟩] ++ optY 43 m.copy) ++ onL (m.kind = 1) [⟨108, nmV m.a⟩]) ++ opt 112 m.text) ++ onL (m.kind = 4) [⟨7, nmV m.a⟩, ⟨16, nmV m.b⟩]) ++ optY 123 m.gap) ++ onL (m.kind = 5) [⟨36, nmV m.a⟩]) ++ onL (m.kind = 7) (exL m.ex)) = msgL m := by
  have K := h.kinded
  have hk := h.kind
  have ht : m.kind ≠ 2 → m.kind ≠ 3 → opt 112 m.text = [] := fun h2 h3 => by rw [K.text h2 h3]; rfl
  have hg : m.kind ≠ 5 → optY 123 m.gap = [] := fun h5 => by rw [K.gap h5]; rfl
  unfold msgL restL onL
  rcases (show m.kind = 1 ∨ m.kind = 2 ∨ m.kind = 3 ∨ m.kind = 4 ∨ m.kind = 5 ∨ m.kind = 6 ∨ m.kind = 7 by omega) with e | e | e | e | e | e | e
  all_goals
    rw [e] at ht hg ⊢
    simp at ht hg ⊢
    try simp [ht]
    try simp [hg]
theorem kind_at0 (W : World) : (Instr.index 48 (.agg #[.string ⟨#[65]⟩, .string ⟨#[48]⟩, .string ⟨#[49]⟩, .string ⟨#[50]⟩, .string ⟨#[52]⟩, .string ⟨#[53]⟩, .string ⟨#[56]⟩]) (.int .i64 0)).run Tryd.prog W = .ok (.string ⟨#[65]⟩) W := by kernel_rfl
theorem kind_at1 (W : World) : (Instr.index 48 (.agg #[.string ⟨#[65]⟩, .string ⟨#[48]⟩, .string ⟨#[49]⟩, .string ⟨#[50]⟩, .string ⟨#[52]⟩, .string ⟨#[53]⟩, .string ⟨#[56]⟩]) (.int .i64 1)).run Tryd.prog W = .ok (.string ⟨#[48]⟩) W := by kernel_rfl
theorem kind_at2 (W : World) : (Instr.index 48 (.agg #[.string ⟨#[65]⟩, .string ⟨#[48]⟩, .string ⟨#[49]⟩, .string ⟨#[50]⟩, .string ⟨#[52]⟩, .string ⟨#[53]⟩, .string ⟨#[56]⟩]) (.int .i64 2)).run Tryd.prog W = .ok (.string ⟨#[49]⟩) W := by kernel_rfl
theorem kind_at3 (W : World) : (Instr.index 48 (.agg #[.string ⟨#[65]⟩, .string ⟨#[48]⟩, .string ⟨#[49]⟩, .string ⟨#[50]⟩, .string ⟨#[52]⟩, .string ⟨#[53]⟩, .string ⟨#[56]⟩]) (.int .i64 3)).run Tryd.prog W = .ok (.string ⟨#[50]⟩) W := by kernel_rfl
theorem kind_at4 (W : World) : (Instr.index 48 (.agg #[.string ⟨#[65]⟩, .string ⟨#[48]⟩, .string ⟨#[49]⟩, .string ⟨#[50]⟩, .string ⟨#[52]⟩, .string ⟨#[53]⟩, .string ⟨#[56]⟩]) (.int .i64 4)).run Tryd.prog W = .ok (.string ⟨#[52]⟩) W := by kernel_rfl
theorem kind_at5 (W : World) : (Instr.index 48 (.agg #[.string ⟨#[65]⟩, .string ⟨#[48]⟩, .string ⟨#[49]⟩, .string ⟨#[50]⟩, .string ⟨#[52]⟩, .string ⟨#[53]⟩, .string ⟨#[56]⟩]) (.int .i64 5)).run Tryd.prog W = .ok (.string ⟨#[53]⟩) W := by kernel_rfl
theorem kind_at6 (W : World) : (Instr.index 48 (.agg #[.string ⟨#[65]⟩, .string ⟨#[48]⟩, .string ⟨#[49]⟩, .string ⟨#[50]⟩, .string ⟨#[52]⟩, .string ⟨#[53]⟩, .string ⟨#[56]⟩]) (.int .i64 6)).run Tryd.prog W = .ok (.string ⟨#[56]⟩) W := by kernel_rfl
theorem kind_at (kind : Int) (h : 1 ≤ kind ∧ kind ≤ 7) (W : World) : (Instr.index 48 (.agg #[.string ⟨#[65]⟩, .string ⟨#[48]⟩, .string ⟨#[49]⟩, .string ⟨#[50]⟩, .string ⟨#[52]⟩, .string ⟨#[53]⟩, .string ⟨#[56]⟩]) (.int .i64 (kind - 1))).run Tryd.prog W = .ok (.string (kindV kind)) W := by
  rcases (show kind = 1 ∨ kind = 2 ∨ kind = 3 ∨ kind = 4 ∨ kind = 5 ∨ kind = 6 ∨ kind = 7 by omega) with rfl | rfl | rfl | rfl | rfl | rfl | rfl
  · exact kind_at0 W
  · exact kind_at1 W
  · exact kind_at2 W
  · exact kind_at3 W
  · exact kind_at4 W
  · exact kind_at5 W
  · exact kind_at6 W
theorem fcells_one5 (l : List Fld) : ∀ u ∈ fcells l, u.oneCell' = true := by
  intro u hu
  unfold fcells at hu
  obtain ⟨f, _, h⟩ := List.mem_flatMap.1 hu
  simp [Fld.cells] at h
  rcases h with rfl | rfl <;> rfl
theorem lit_news (W : World) (K : List Fld) {cs : Array Value} {N : Nat} (hN : W.heap.size = N) (h : cs.toList = fcells K) (j : Nat) (u : Value) (hu : (fcells K)[j]? = some u) : (W.alloc (.cells cs 42)).cell? ((⟨N, 0, none⟩ : Addr).add j) = some u := by
  subst hN
  rw [addr_at, Nat.zero_add, (Box.new W cs 42).cell j]
  rw [← h] at hu
  simpa using hu
/-- An append of fields, in a region that draws. -/
theorem step_fields {ops : Array Oper} {o : Oper} {a : Act} {W : World} {K' : Act → World → Prop} {Q : Exit → Act → World → Prop} {E : Prop} (hgd : o.guard = none) (s x : Operand) (ho : o.op = .call { callee := .builtin .append, args := #[s, x], argTypes := #[38, 38] })
    (i0 : TypeInfo) (hi : Tryd.prog.info? 42 = some i0) (iz0 : i0.zero = some (.agg #[.int .i64 0, .string ⟨#[]⟩])) (iz1 : i0.size = 2) (iz2 : i0.bytes = 24) {w : World} {bs : List (Nat × TypeId × Array Value)} (v : Value) (L K : List Fld) (hs : a.eval s = v)
    (h : PutI w bs L v W) {ad : Addr} {m c : Nat} (hx : a.eval x = .slice (some ad) m c) (hnews : ∀ j u, (fcells K)[j]? = some u → W.cell? (ad.add j) = some u) (hm : K.length = m) (hl : L.length + m ≤ 1000 ∧ 0 < m)
    (hk : ∀ v' w', PutI w bs (L ++ K) v' w' → K' (a.put o.dst v') w') : if Region.wanted o (yielded ops a.tmps) = true then Oper.wp Tryd.prog o a W K' Q else E := by
  refine step_append_lies W hgd s x 38 ho w.heap.size 42 i0 (.agg #[.int .i64 0, .string ⟨#[]⟩]) 2 24 Tryd.underlying38 hi iz0 iz1 iz2 rfl (by decide) v L.length (fcells L) hs h.own ad m c (fcells K) hx (by rw [fcells_len, hm]) hnews (fcells_one5 _) hl.2 (by unfold maxLen; omega) (by omega) h.below.size W.heap.size rfl ?_
  intro g' cap w' hown hg _ _
  exact hk _ _ (h.app (by rw [hm]) hown hg)
/-- The same where nothing is drawn. -/
theorem list_fields {ops : Array Oper} {rest : List Oper} {o : Oper} {a : Act} {W : World} {Q : Exit → Act → World → Prop} (hgd : o.guard = none) (s x : Operand) (ho : o.op = .call { callee := .builtin .append, args := #[s, x], argTypes := #[38, 38] })
    (i0 : TypeInfo) (hi : Tryd.prog.info? 42 = some i0) (iz0 : i0.zero = some (.agg #[.int .i64 0, .string ⟨#[]⟩])) (iz1 : i0.size = 2) (iz2 : i0.bytes = 24) {w : World} {bs : List (Nat × TypeId × Array Value)} (v : Value) (L K : List Fld) (hs : a.eval s = v)
    (h : PutI w bs L v W) {ad : Addr} {m c : Nat} (hx : a.eval x = .slice (some ad) m c) (hnews : ∀ j u, (fcells K)[j]? = some u → W.cell? (ad.add j) = some u) (hm : K.length = m) (hl : L.length + m ≤ 1000 ∧ 0 < m)
    (hk : ∀ v' w', PutI w bs (L ++ K) v' w' → wpList Tryd.prog ops Q rest (a.put o.dst v') w') : wpList Tryd.prog ops Q (o :: rest) a W := by
  refine wpList_append_own W hgd s x 38 ho w.heap.size 42 i0 (.agg #[.int .i64 0, .string ⟨#[]⟩]) 2 24 Tryd.underlying38 hi iz0 iz1 iz2 rfl (by decide) v L.length (fcells L) hs h.own ad m c (fcells K) hx (by rw [fcells_len, hm]) hnews (fcells_one5 _) (by unfold maxLen; omega) (by omega) h.below.size ?_
  intro v' w' hown hg _
  exact hk _ _ (h.app (by rw [hm]) hown hg)
set_option maxRecDepth 100000 in
set_option maxHeartbeats 4000000 in
theorem ref_Put5 (m : Mg) (hm : m.In) (w : World) : Calls Tryd.prog 9 #[m.val] w (MPutPost m w) := by
  have HR := Lib.hid (ref_Right5 m hm)
  obtain ⟨i0, hi, iz0, iz1, iz2⟩ := info_parts infoF5
  obtain ⟨kind, seq, time, copy, a, b, gap, text, ex⟩ := m
  obtain ⟨id, ref, order, account, symbol, k, buy, qty, price, tm⟩ := ex
  rcases hb : msgB ⟨kind, seq, time, copy, a, b, gap, text, ⟨id, ref, order, account, symbol, k, buy, qty, price, tm⟩⟩ with _ | _
  · have HF := Lib.hid (show ∀ (e : Ending) (w' : World), e = Ending.returned (.tuple #[.slice none 0 0, .int .i64 1]) → Below w.heap.size w w' → MPutPost ⟨kind, seq, time, copy, a, b, gap, text, ⟨id, ref, order, account, symbol, k, buy, qty, price, tm⟩⟩ w e w' from fun e w' he hbe => MPutPost.bad hb he hbe)
    rw [hb] at HR
    unfold Mg.val at *
    dsimp only at *
    clear hb hm
    have Hbx := Lib.hid (Box.new w #[.int .i64 kind, .int .i64 seq, .int .i64 time, .bool copy, .int .i64 a, .int .i64 b, .bool gap, .string text, .string id, .string ref, .string order, .string account, .string symbol, .int .i64 k, .bool buy, .int .i64 qty, .int .i64 price, .int .i64 tm] 25)
    go_enter Tryd.func9, Tryd.ntmps9
    go_wp2_with (first | (refine wpList_load_row rfl 25 _ rfl w.heap.size rfl 25 _ (0, 0) _ Hbx.out Tryd.underlying25 rfl (by kernel_rfl) ?_))
    refine (HR.out _).mono ?_
    rintro e w1 ⟨rfl, hb1⟩
    (obtain ⟨hc1, hf1⟩ := bcell hb1; have hz1 := hb1.size; (repeat (first | rw [World.size_alloc] at hz1 | rw [World.size_setCell] at hz1 | rw [World.size_drew] at hz1)); have hB1 : Below w.heap.size w w1 := Below.trans (by go_grown) (hb1.mono (by go_size)))
    go_wp2
    go_ret2
    exact HF.out _ _ rfl hB1
  · have hM := msgB_iff.1 hb
    have hk := hM.kind
    have HG := Lib.hid (show ∀ (e : Ending) (w' : World) (A : Option Addr) (n c : Nat), e = Ending.returned (.tuple #[.slice A n c, .int .i64 0]) → Sl w' A n c 1 (bcells (putL (msgL ⟨kind, seq, time, copy, a, b, gap, text, ⟨id, ref, order, account, symbol, k, buy, qty, price, tm⟩⟩))) → Below w.heap.size w w' → MPutPost ⟨kind, seq, time, copy, a, b, gap, text, ⟨id, ref, order, account, symbol, k, buy, qty, price, tm⟩⟩ w e w' from fun e w' A n c he hs hbe => MPutPost.good hb he hs hbe)
    rw [hb] at HR
    have HM := Lib.hid hM
    have hin := Lib.hid hm
    unfold Mg.val at *
    dsimp only at *
    clear hb hm hM
    have Hbx := Lib.hid (Box.new w #[.int .i64 kind, .int .i64 seq, .int .i64 time, .bool copy, .int .i64 a, .int .i64 b, .bool gap, .string text, .string id, .string ref, .string order, .string account, .string symbol, .int .i64 k, .bool buy, .int .i64 qty, .int .i64 price, .int .i64 tm] 25)
    go_enter Tryd.func9, Tryd.ntmps9
    go_wp2_with (first | (refine wpList_load_row rfl 25 _ rfl w.heap.size rfl 25 _ (0, 0) _ Hbx.out Tryd.underlying25 rfl (by kernel_rfl) ?_))
    refine (HR.out _).mono ?_
    rintro e w1 ⟨rfl, hb1⟩
    have hBx := Hbx.out.on hb1
    have hB1 : Below w.heap.size w w1 := ((Below.refl w.heap.size w).alloc (Nat.le_refl _) _).trans (hb1.mono (by simp))
    clear hb1 Hbx
    go_upto_region 3 with fail
    go_cut [0, 4] (fun _ s4 wx => PutI w [(w.heap.size, 25, #[.int .i64 kind, .int .i64 seq, .int .i64 time, .bool copy, .int .i64 a, .int .i64 b, .bool gap, .string text, .string id, .string ref, .string order, .string account, .string symbol, .int .i64 k, .bool buy, .int .i64 qty, .int .i64 price, .int .i64 tm])] [⟨35, kindV kind⟩, ⟨34, nmV seq⟩, ⟨52, nmV time⟩] s4 wx)
    case first =>
      clear HG HM hin HR
      have I0 : PutI w [(w.heap.size, 25, #[.int .i64 kind, .int .i64 seq, .int .i64 time, .bool copy, .int .i64 a, .int .i64 b, .bool gap, .string text, .string id, .string ref, .string order, .string account, .string symbol, .int .i64 k, .bool buy, .int .i64 qty, .int .i64 price, .int .i64 tm])] [] (.slice none 0 0) w1 := ⟨World.ownsRow_nil _ _ _ _, (by intro b hm; rw [List.mem_singleton.1 hm]; exact hBx), (by intro b hm; rw [List.mem_singleton.1 hm]; show (25 : TypeId) ≠ 42; decide), hB1⟩
      have HC := Lib.hid (show ∀ W, PutI w [(w.heap.size, 25, #[.int .i64 kind, .int .i64 seq, .int .i64 time, .bool copy, .int .i64 a, .int .i64 b, .bool gap, .string text, .string id, .string ref, .string order, .string account, .string symbol, .int .i64 k, .bool buy, .int .i64 qty, .int .i64 price, .int .i64 tm])] [] (.slice none 0 0) W → W.cell? ⟨w.heap.size, 0, none⟩ = some (.int .i64 kind) ∧ W.cell? ⟨w.heap.size, 1, none⟩ = some (.int .i64 seq) ∧ W.cell? ⟨w.heap.size, 2, none⟩ = some (.int .i64 time) ∧ PutI w [(w.heap.size, 25, #[.int .i64 kind, .int .i64 seq, .int .i64 time, .bool copy, .int .i64 a, .int .i64 b, .bool gap, .string text, .string id, .string ref, .string order, .string account, .string symbol, .int .i64 k, .bool buy, .int .i64 qty, .int .i64 price, .int .i64 tm])] [] (.slice none 0 0) W from fun W h => ⟨h.bx.cell 0, h.bx.cell 1, h.bx.cell 2, h⟩)
      have HN := Lib.hid (fun (t n : Int) (W : World) (h : PutI w [(w.heap.size, 25, #[.int .i64 kind, .int .i64 seq, .int .i64 time, .bool copy, .int .i64 a, .int .i64 b, .bool gap, .string text, .string id, .string ref, .string order, .string account, .string symbol, .int .i64 k, .bool buy, .int .i64 qty, .int .i64 price, .int .i64 tm])] [] (.slice none 0 0) W) => num_keeps t n W h)
      have HL := Lib.hid (fun (W : World) (v : ByteArray) (h : PutI w [(w.heap.size, 25, #[.int .i64 kind, .int .i64 seq, .int .i64 time, .bool copy, .int .i64 a, .int .i64 b, .bool gap, .string text, .string id, .string ref, .string order, .string account, .string symbol, .int .i64 k, .bool buy, .int .i64 qty, .int .i64 price, .int .i64 tm])] [] (.slice none 0 0) W) => put_lit3 ⟨35, v⟩ ⟨34, nmV seq⟩ ⟨52, nmV time⟩ h)
      have I1 := I0.drew
      clear I0 hBx hB1
      have hix := kind_at kind hk
      have hwp : IntKind.i64.wrap (kind - 1) = kind - 1 := by rcases (show kind = 1 ∨ kind = 2 ∨ kind = 3 ∨ kind = 4 ∨ kind = 5 ∨ kind = 6 ∨ kind = 7 by omega) with rfl | rfl | rfl | rfl | rfl | rfl | rfl <;> decide
      go_region_held3 (fun W => W.cell? ⟨w.heap.size, 0, none⟩ = some (.int .i64 kind) ∧ W.cell? ⟨w.heap.size, 1, none⟩ = some (.int .i64 seq) ∧ W.cell? ⟨w.heap.size, 2, none⟩ = some (.int .i64 time) ∧ PutI w [(w.heap.size, 25, #[.int .i64 kind, .int .i64 seq, .int .i64 time, .bool copy, .int .i64 a, .int .i64 b, .bool gap, .string text, .string id, .string ref, .string order, .string account, .string symbol, .int .i64 k, .bool buy, .int .i64 qty, .int .i64 price, .int .i64 tm])] [] (.slice none 0 0) W) (first | exact HC.out _ (by assumption) | exact HC.out _ (PutI.alloc (by assumption) _)) (first | (go_at_call 21; refine (HN.out _ _ _ (by assumption)).mono ?_; rintro e w' ⟨rfl, hC⟩))
      all_goals
        go_wp2
        go_meet
        case rel => exact HL.out _ _ (by assumption)
    case rest =>
      obtain ⟨L1, hL1⟩ : ∃ L1, L1 = [(⟨35, kindV kind⟩ : Fld), ⟨34, nmV seq⟩, ⟨52, nmV time⟩] := ⟨_, rfl⟩
      rw [← hL1] at hcut
      have hl1 : L1.length ≤ 3 := by rw [hL1]; exact Nat.le_refl _
      have HL1 := Lib.hid hL1
      clear hL1 hBx hB1 HR hin
      have HI := Lib.hid hcut
      have q3 : wc.cell? ⟨w.heap.size, 3, none⟩ = some (.bool copy) := hcut.bx.cell 3
      have hzc := hcut.below.size
      clear hcut
      go_upto_if 26 with fail
      go_cut [4, 25, 26] (fun s4 _ _ wx => PutI w [(w.heap.size, 25, #[.int .i64 kind, .int .i64 seq, .int .i64 time, .bool copy, .int .i64 a, .int .i64 b, .bool gap, .string text, .string id, .string ref, .string order, .string account, .string symbol, .int .i64 k, .bool buy, .int .i64 qty, .int .i64 price, .int .i64 tm])] (L1 ++ optY 43 copy) s4 wx)
      case first =>
        clear HG HM
        generalize hv : copy = cb at q3 ⊢
        have Hv := Lib.hid hv
        clear hv
        rcases cb with _ | _
        · go_wp2
          go_meet
          case rel => exact PutI.cast (K := L1 ++ optY 43 copy) HI.out (by rw [Hv.out]; simp [optY])
        · go_wp2_with (first | (at_builtin; refine list_fields rfl (.tmp 27) (.tmp 29) rfl i0 hi iz0 iz1 iz2 _ L1 [⟨43, yV⟩] rfl (PutI.alloc HI.out _) rfl (lit_news _ _ (by first | rfl | simp) rfl) rfl ⟨?c3, by decide⟩ ?_))
          case c3 => omega
          intro v2 w2 h2
          go_wp2
          go_meet
          case rel => exact PutI.cast (K := L1 ++ optY 43 copy) h2 (by rw [Hv.out]; rfl)
      case rest =>
        obtain ⟨L2, hL2⟩ : ∃ L2, L2 = L1 ++ optY 43 copy := ⟨_, rfl⟩
        rw [← hL2] at hcut
        have hl2 : L2.length ≤ 5 := by rw [hL2, List.length_append]; have := optY_len 43 copy; (try simp only [List.length_cons, List.length_nil] at this); omega
        have HL2 := Lib.hid hL2
        clear hL2 hl1 HI hzc q3
        have HI := Lib.hid hcut
        have q0 : wc.cell? ⟨w.heap.size, 0, none⟩ = some (.int .i64 kind) := hcut.bx.cell 0
        have q4 : wc.cell? ⟨w.heap.size, 4, none⟩ = some (.int .i64 a) := hcut.bx.cell 4
        have hzc := hcut.below.size
        clear hcut
        go_upto_if 33 with fail
        go_cut [4, 31, 32, 33] (fun s4 _ _ _ wx => PutI w [(w.heap.size, 25, #[.int .i64 kind, .int .i64 seq, .int .i64 time, .bool copy, .int .i64 a, .int .i64 b, .bool gap, .string text, .string id, .string ref, .string order, .string account, .string symbol, .int .i64 k, .bool buy, .int .i64 qty, .int .i64 price, .int .i64 tm])] (L2 ++ onL (kind = 1) [⟨108, nmV a⟩]) s4 wx)
        case first =>
          clear HG HM
          generalize hv : (kind == 1) = cb
          rcases cb with _ | _
          · go_wp2
            go_meet
            case rel => exact PutI.cast (K := L2 ++ onL (kind = 1) [⟨108, nmV a⟩]) HI.out (by rw [beq_eq_false_iff_ne] at hv; simp [onL, hv])
          · go_wp2_with fail
            refine (num_keeps _ _ _ HI.out).mono ?_
            rintro e w1 ⟨rfl, hC⟩
            have hzc1 := hC.below.size
            go_wp2_with (first | (at_builtin; refine list_fields rfl (.tmp 34) (.tmp 38) rfl i0 hi iz0 iz1 iz2 _ L2 [⟨108, nmV a⟩] rfl (PutI.alloc hC _) rfl (lit_news _ _ (by first | rfl | simp) rfl) rfl ⟨?c3, by decide⟩ ?_))
            case c3 => omega
            intro v2 w2 h2
            go_wp2
            go_meet
            case rel => exact PutI.cast (K := L2 ++ onL (kind = 1) [⟨108, nmV a⟩]) h2 (by rw [beq_iff_eq] at hv; simp [onL, hv])
        case rest =>
          obtain ⟨L3, hL3⟩ : ∃ L3, L3 = L2 ++ onL (kind = 1) [⟨108, nmV a⟩] := ⟨_, rfl⟩
          rw [← hL3] at hcut
          have hl3 : L3.length ≤ 7 := by rw [hL3, List.length_append]; have := onL_len (kind = 1) [⟨108, nmV a⟩]; (try simp only [List.length_cons, List.length_nil] at this); omega
          have HL3 := Lib.hid hL3
          clear hL3 hl2 HI hzc q0 q4
          have HI := Lib.hid hcut
          have q7 : wc.cell? ⟨w.heap.size, 7, none⟩ = some (.string text) := hcut.bx.cell 7
          have hzc := hcut.below.size
          clear hcut
          go_upto_if 42 with fail
          go_cut [4, 40, 41, 42] (fun s4 _ _ _ wx => PutI w [(w.heap.size, 25, #[.int .i64 kind, .int .i64 seq, .int .i64 time, .bool copy, .int .i64 a, .int .i64 b, .bool gap, .string text, .string id, .string ref, .string order, .string account, .string symbol, .int .i64 k, .bool buy, .int .i64 qty, .int .i64 price, .int .i64 tm])] (L3 ++ opt 112 text) s4 wx)
          case first =>
            clear HG HM
            generalize hv : text.toList.isEmpty = cb
            rcases cb with _ | _
            rotate_left
            · go_wp2
              go_meet
              case rel => exact PutI.cast (K := L3 ++ opt 112 text) HI.out (by rw [isE, decide_eq_true_iff] at hv; simp [opt, hv])
            · go_wp2_with (first | (at_builtin; refine list_fields rfl (.tmp 43) (.tmp 47) rfl i0 hi iz0 iz1 iz2 _ L3 [⟨112, text⟩] rfl (PutI.alloc HI.out _) rfl (lit_news _ _ (by first | rfl | simp) rfl) rfl ⟨?c3, by decide⟩ ?_))
              case c3 => omega
              intro v2 w2 h2
              go_wp2
              go_meet
              case rel => exact PutI.cast (K := L3 ++ opt 112 text) h2 (by rw [isE, decide_eq_false_iff_not] at hv; simp [opt, hv])
          case rest =>
            obtain ⟨L4, hL4⟩ : ∃ L4, L4 = L3 ++ opt 112 text := ⟨_, rfl⟩
            rw [← hL4] at hcut
            have hl4 : L4.length ≤ 9 := by rw [hL4, List.length_append]; have := opt_len 112 text; (try simp only [List.length_cons, List.length_nil] at this); omega
            have HL4 := Lib.hid hL4
            clear hL4 hl3 HI hzc q7
            have HI := Lib.hid hcut
            have q0 : wc.cell? ⟨w.heap.size, 0, none⟩ = some (.int .i64 kind) := hcut.bx.cell 0
            have q4 : wc.cell? ⟨w.heap.size, 4, none⟩ = some (.int .i64 a) := hcut.bx.cell 4
            have q5 : wc.cell? ⟨w.heap.size, 5, none⟩ = some (.int .i64 b) := hcut.bx.cell 5
            have hzc := hcut.below.size
            clear hcut
            go_upto_if 51 with fail
            go_cut [4, 49, 50, 51] (fun s4 _ _ _ wx => PutI w [(w.heap.size, 25, #[.int .i64 kind, .int .i64 seq, .int .i64 time, .bool copy, .int .i64 a, .int .i64 b, .bool gap, .string text, .string id, .string ref, .string order, .string account, .string symbol, .int .i64 k, .bool buy, .int .i64 qty, .int .i64 price, .int .i64 tm])] (L4 ++ onL (kind = 4) [⟨7, nmV a⟩, ⟨16, nmV b⟩]) s4 wx)
            case first =>
              clear HG HM
              generalize hv : (kind == 4) = cb
              rcases cb with _ | _
              · go_wp2
                go_meet
                case rel => exact PutI.cast (K := L4 ++ onL (kind = 4) [⟨7, nmV a⟩, ⟨16, nmV b⟩]) HI.out (by rw [beq_eq_false_iff_ne] at hv; simp [onL, hv])
              · have HC := Lib.hid (fun (W : World) (L : List Fld) (s : Value) (h : PutI w [(w.heap.size, 25, #[.int .i64 kind, .int .i64 seq, .int .i64 time, .bool copy, .int .i64 a, .int .i64 b, .bool gap, .string text, .string id, .string ref, .string order, .string account, .string symbol, .int .i64 k, .bool buy, .int .i64 qty, .int .i64 price, .int .i64 tm])] L s W) => (show W.cell? ⟨w.heap.size, 4, none⟩ = some (.int .i64 a) ∧ W.cell? ⟨w.heap.size, 5, none⟩ = some (.int .i64 b) from ⟨h.bx.cell 4, h.bx.cell 5⟩))
                have hI := HI.out.drew
                go_wp2_with fail
                go_region_held3 (fun W => W.cell? ⟨w.heap.size, 4, none⟩ = some (.int .i64 a) ∧ W.cell? ⟨w.heap.size, 5, none⟩ = some (.int .i64 b)) (first | exact HC.out _ _ _ (by assumption) | exact HC.out _ _ _ (PutI.alloc (by assumption) _)) (first | (go_at_call 21; refine (num_keeps _ _ _ (by assumption)).mono ?_; rintro e w' ⟨rfl, hC⟩) | (refine step_fields rfl (.tmp 52) (.tmp 59) rfl i0 hi iz0 iz1 iz2 _ L4 [⟨7, nmV a⟩, ⟨16, nmV b⟩] rfl (PutI.alloc (by assumption) _) rfl (lit_news _ _ (by first | rfl | simp) rfl) rfl (by omega) ?_; intro v3 w3 h3))
                all_goals
                  go_wp2
                  go_meet
                  case rel => exact PutI.cast (K := L4 ++ onL (kind = 4) [⟨7, nmV a⟩, ⟨16, nmV b⟩]) h3 (by rw [beq_iff_eq] at hv; simp [onL, hv])
            case rest =>
              obtain ⟨L5, hL5⟩ : ∃ L5, L5 = L4 ++ onL (kind = 4) [⟨7, nmV a⟩, ⟨16, nmV b⟩] := ⟨_, rfl⟩
              rw [← hL5] at hcut
              have hl5 : L5.length ≤ 11 := by rw [hL5, List.length_append]; have := onL_len (kind = 4) [⟨7, nmV a⟩, ⟨16, nmV b⟩]; (try simp only [List.length_cons, List.length_nil] at this); omega
              have HL5 := Lib.hid hL5
              clear hL5 hl4 HI hzc q0 q4 q5
              have HI := Lib.hid hcut
              have q6 : wc.cell? ⟨w.heap.size, 6, none⟩ = some (.bool gap) := hcut.bx.cell 6
              have hzc := hcut.below.size
              clear hcut
              go_upto_if 62 with fail
              go_cut [4, 61, 62] (fun s4 _ _ wx => PutI w [(w.heap.size, 25, #[.int .i64 kind, .int .i64 seq, .int .i64 time, .bool copy, .int .i64 a, .int .i64 b, .bool gap, .string text, .string id, .string ref, .string order, .string account, .string symbol, .int .i64 k, .bool buy, .int .i64 qty, .int .i64 price, .int .i64 tm])] (L5 ++ optY 123 gap) s4 wx)
              case first =>
                clear HG HM
                generalize hv : gap = cb at q6 ⊢
                have Hv := Lib.hid hv
                clear hv
                rcases cb with _ | _
                · go_wp2
                  go_meet
                  case rel => exact PutI.cast (K := L5 ++ optY 123 gap) HI.out (by rw [Hv.out]; simp [optY])
                · go_wp2_with (first | (at_builtin; refine list_fields rfl (.tmp 63) (.tmp 65) rfl i0 hi iz0 iz1 iz2 _ L5 [⟨123, yV⟩] rfl (PutI.alloc HI.out _) rfl (lit_news _ _ (by first | rfl | simp) rfl) rfl ⟨?c3, by decide⟩ ?_))
                  case c3 => omega
                  intro v2 w2 h2
                  go_wp2
                  go_meet
                  case rel => exact PutI.cast (K := L5 ++ optY 123 gap) h2 (by rw [Hv.out]; rfl)
              case rest =>
                obtain ⟨L6, hL6⟩ : ∃ L6, L6 = L5 ++ optY 123 gap := ⟨_, rfl⟩
                rw [← hL6] at hcut
                have hl6 : L6.length ≤ 13 := by rw [hL6, List.length_append]; have := optY_len 123 gap; (try simp only [List.length_cons, List.length_nil] at this); omega
                have HL6 := Lib.hid hL6
                clear hL6 hl5 HI hzc q6
                have HI := Lib.hid hcut
                have q0 : wc.cell? ⟨w.heap.size, 0, none⟩ = some (.int .i64 kind) := hcut.bx.cell 0
                have q4 : wc.cell? ⟨w.heap.size, 4, none⟩ = some (.int .i64 a) := hcut.bx.cell 4
                have hzc := hcut.below.size
                clear hcut
                go_upto_if 69 with fail
                go_cut [4, 67, 68, 69] (fun s4 _ _ _ wx => PutI w [(w.heap.size, 25, #[.int .i64 kind, .int .i64 seq, .int .i64 time, .bool copy, .int .i64 a, .int .i64 b, .bool gap, .string text, .string id, .string ref, .string order, .string account, .string symbol, .int .i64 k, .bool buy, .int .i64 qty, .int .i64 price, .int .i64 tm])] (L6 ++ onL (kind = 5) [⟨36, nmV a⟩]) s4 wx)
                case first =>
                  clear HG HM
                  generalize hv : (kind == 5) = cb
                  rcases cb with _ | _
                  · go_wp2
                    go_meet
                    case rel => exact PutI.cast (K := L6 ++ onL (kind = 5) [⟨36, nmV a⟩]) HI.out (by rw [beq_eq_false_iff_ne] at hv; simp [onL, hv])
                  · go_wp2_with fail
                    refine (num_keeps _ _ _ HI.out).mono ?_
                    rintro e w1 ⟨rfl, hC⟩
                    have hzc1 := hC.below.size
                    go_wp2_with (first | (at_builtin; refine list_fields rfl (.tmp 70) (.tmp 74) rfl i0 hi iz0 iz1 iz2 _ L6 [⟨36, nmV a⟩] rfl (PutI.alloc hC _) rfl (lit_news _ _ (by first | rfl | simp) rfl) rfl ⟨?c3, by decide⟩ ?_))
                    case c3 => omega
                    intro v2 w2 h2
                    go_wp2
                    go_meet
                    case rel => exact PutI.cast (K := L6 ++ onL (kind = 5) [⟨36, nmV a⟩]) h2 (by rw [beq_iff_eq] at hv; simp [onL, hv])
                case rest =>
                  obtain ⟨L7, hL7⟩ : ∃ L7, L7 = L6 ++ onL (kind = 5) [⟨36, nmV a⟩] := ⟨_, rfl⟩
                  rw [← hL7] at hcut
                  have hl7 : L7.length ≤ 15 := by rw [hL7, List.length_append]; have := onL_len (kind = 5) [⟨36, nmV a⟩]; (try simp only [List.length_cons, List.length_nil] at this); omega
                  have HL7 := Lib.hid hL7
                  clear hL7 hl6 HI hzc q0 q4
                  have HI := Lib.hid hcut
                  have q0 : wc.cell? ⟨w.heap.size, 0, none⟩ = some (.int .i64 kind) := hcut.bx.cell 0
                  have hzc := hcut.below.size
                  clear hcut
                  go_upto_if 78 with fail
                  go_cut [4, 5, 6, 76, 77, 78] (fun s4 _ _ _ _ _ wx => PutI w [(w.heap.size, 25, #[.int .i64 kind, .int .i64 seq, .int .i64 time, .bool copy, .int .i64 a, .int .i64 b, .bool gap, .string text, .string id, .string ref, .string order, .string account, .string symbol, .int .i64 k, .bool buy, .int .i64 qty, .int .i64 price, .int .i64 tm])] (L7 ++ onL (kind = 7) (exL ⟨id, ref, order, account, symbol, k, buy, qty, price, tm⟩)) s4 wx)
                  case first =>
                    clear HG HM
                    generalize hv : (kind == 7) = cb
                    rcases cb with _ | _
                    · go_wp2
                      go_meet
                      case rel => exact PutI.cast (K := L7 ++ onL (kind = 7) (exL ⟨id, ref, order, account, symbol, k, buy, qty, price, tm⟩)) HI.out (by rw [beq_eq_false_iff_ne] at hv; simp [onL, hv])
                    · rw [beq_iff_eq] at hv
                      have Hk := Lib.hid hv
                      clear hv
                      have hrg : wc.rangeAt w.heap.size 8 [.string id, .string ref, .string order, .string account, .string symbol, .int .i64 k, .bool buy, .int .i64 qty, .int .i64 price, .int .i64 tm] := HI.out.bx.range 8
                      have HX := Lib.hid (show PutI w [(wc.heap.size, 23, #[.string id, .string ref, .string order, .string account, .string symbol, .int .i64 k, .bool buy, .int .i64 qty, .int .i64 price, .int .i64 tm]), (w.heap.size, 25, #[.int .i64 kind, .int .i64 seq, .int .i64 time, .bool copy, .int .i64 a, .int .i64 b, .bool gap, .string text, .string id, .string ref, .string order, .string account, .string symbol, .int .i64 k, .bool buy, .int .i64 qty, .int .i64 price, .int .i64 tm])] L7 u4 (wc.alloc (.cells #[.string id, .string ref, .string order, .string account, .string symbol, .int .i64 k, .bool buy, .int .i64 qty, .int .i64 price, .int .i64 tm] 23)) from HI.out.add #[.string id, .string ref, .string order, .string account, .string symbol, .int .i64 k, .bool buy, .int .i64 qty, .int .i64 price, .int .i64 tm] (by decide))
                      go_upto_region 18 with (first | (refine wpList_load_mid rfl 23 _ rfl w.heap.size 8 rfl _ _ hrg Tryd.underlying23 rfl (by kernel_rfl) ?_))
                      have hl7' : L7.length ≤ 15 := hl7
                      go_wp2_with (first | (at_builtin; refine list_fields rfl (.tmp 81) (.tmp 85) rfl i0 hi iz0 iz1 iz2 _ L7 [⟨17, id⟩] rfl (PutI.alloc HX.out _) rfl (lit_news _ _ (by first | rfl | simp) rfl) rfl ⟨?c3, by decide⟩ ?_))
                      case c3 => omega
                      intro v2 w2 h2
                      have hl8 := hl7
                      obtain ⟨L8, hL8⟩ : ∃ L8, L8 = L7 ++ [⟨17, id⟩] := ⟨_, rfl⟩
                      rw [← hL8] at h2
                      have hl8 : L8.length ≤ 16 := by rw [hL8, List.length_append]; simp; omega
                      have HL8 := Lib.hid hL8
                      clear hL8 HX HI hrg q0 hzc
                      generalize wc.heap.size = gx at *
                      have r1 : w2.cell? ⟨gx, 1, none⟩ = some (.string ref) := h2.bx.cell 1
                      have HI := Lib.hid h2
                      have hzc := h2.below.size
                      clear h2
                      go_upto_if 89 with fail
                      go_cut [4, 87, 88, 89] (fun s4 _ _ _ wx => PutI w [(gx, 23, #[.string id, .string ref, .string order, .string account, .string symbol, .int .i64 k, .bool buy, .int .i64 qty, .int .i64 price, .int .i64 tm]), (w.heap.size, 25, #[.int .i64 kind, .int .i64 seq, .int .i64 time, .bool copy, .int .i64 a, .int .i64 b, .bool gap, .string text, .string id, .string ref, .string order, .string account, .string symbol, .int .i64 k, .bool buy, .int .i64 qty, .int .i64 price, .int .i64 tm])] (L8 ++ opt 19 ref) s4 wx)
                      case first =>
                        generalize hv : ref.toList.isEmpty = cb
                        rcases cb with _ | _
                        rotate_left
                        · go_wp2
                          go_meet
                          case rel => exact PutI.cast (K := L8 ++ opt 19 ref) HI.out (by rw [isE, decide_eq_true_iff] at hv; simp [opt, hv])
                        · go_wp2_with (first | (at_builtin; refine list_fields rfl (.tmp 90) (.tmp 94) rfl i0 hi iz0 iz1 iz2 _ L8 [⟨19, ref⟩] rfl (PutI.alloc HI.out _) rfl (lit_news _ _ (by first | rfl | simp) rfl) rfl ⟨?c3, by decide⟩ ?_))
                          case c3 => omega
                          intro v3 w3 h3
                          go_wp2
                          go_meet
                          case rel => exact PutI.cast (K := L8 ++ opt 19 ref) h3 (by rw [isE, decide_eq_false_iff_not] at hv; simp [opt, hv])
                      case rest =>
                        obtain ⟨L9, hL9⟩ : ∃ L9, L9 = L8 ++ opt 19 ref := ⟨_, rfl⟩
                        rw [← hL9] at hcut
                        have hl9 : L9.length ≤ 17 := by rw [hL9, List.length_append]; have := opt_len 19 ref; omega
                        have HL9 := Lib.hid hL9
                        clear hL9 HI r1 hzc
                        have HI := Lib.hid hcut
                        have r6 : wc.cell? ⟨gx, 6, none⟩ = some (.bool buy) := hcut.bx.cell 6
                        have hzc := hcut.below.size
                        clear hcut
                        go_upto_if 97 with fail
                        go_cut [6, 96, 97] (fun s6 _ _ wx => s6 = .int .i64 (if buy = true then 1 else 2) ∧ PutI w [(gx, 23, #[.string id, .string ref, .string order, .string account, .string symbol, .int .i64 k, .bool buy, .int .i64 qty, .int .i64 price, .int .i64 tm]), (w.heap.size, 25, #[.int .i64 kind, .int .i64 seq, .int .i64 time, .bool copy, .int .i64 a, .int .i64 b, .bool gap, .string text, .string id, .string ref, .string order, .string account, .string symbol, .int .i64 k, .bool buy, .int .i64 qty, .int .i64 price, .int .i64 tm])] L9 u4 wx)
                        case first =>
                          generalize hv : buy = cb at r6 ⊢
                          have Hv := Lib.hid hv
                          clear hv
                          rcases cb with _ | _
                          · go_wp2
                            go_meet
                            case rel => exact ⟨by rw [Hv.out]; rfl, HI.out⟩
                          · go_wp2
                            go_meet
                            case rel => exact ⟨by rw [Hv.out]; rfl, HI.out⟩
                        case rest =>
                          obtain ⟨rfl, hcut⟩ := hcut
                          have Hsd := Lib.hid (side_num buy)
                          generalize (if buy = true then (1 : Int) else 2) = sd at *
                          clear HI r6 hzc
                          have HC := Lib.hid (fun (W : World) (L : List Fld) (s : Value) (h : PutI w [(gx, 23, #[.string id, .string ref, .string order, .string account, .string symbol, .int .i64 k, .bool buy, .int .i64 qty, .int .i64 price, .int .i64 tm]), (w.heap.size, 25, #[.int .i64 kind, .int .i64 seq, .int .i64 time, .bool copy, .int .i64 a, .int .i64 b, .bool gap, .string text, .string id, .string ref, .string order, .string account, .string symbol, .int .i64 k, .bool buy, .int .i64 qty, .int .i64 price, .int .i64 tm])] L s W) => (show W.cell? ⟨gx, 2, none⟩ = some (.string order) ∧ W.cell? ⟨gx, 3, none⟩ = some (.string account) ∧ W.cell? ⟨gx, 4, none⟩ = some (.string symbol) ∧ W.cell? ⟨gx, 5, none⟩ = some (.int .i64 k) ∧ W.cell? ⟨gx, 7, none⟩ = some (.int .i64 qty) ∧ W.cell? ⟨gx, 8, none⟩ = some (.int .i64 price) ∧ W.cell? ⟨gx, 9, none⟩ = some (.int .i64 tm) from ⟨h.bx.cell 2, h.bx.cell 3, h.bx.cell 4, h.bx.cell 5, h.bx.cell 7, h.bx.cell 8, h.bx.cell 9⟩))
                          have hI := hcut.drew
                          clear hcut
                          go_wp2_with fail
                          go_region_held3 (fun W => W.cell? ⟨gx, 2, none⟩ = some (.string order) ∧ W.cell? ⟨gx, 3, none⟩ = some (.string account) ∧ W.cell? ⟨gx, 4, none⟩ = some (.string symbol) ∧ W.cell? ⟨gx, 5, none⟩ = some (.int .i64 k) ∧ W.cell? ⟨gx, 7, none⟩ = some (.int .i64 qty) ∧ W.cell? ⟨gx, 8, none⟩ = some (.int .i64 price) ∧ W.cell? ⟨gx, 9, none⟩ = some (.int .i64 tm)) (first | exact HC.out _ _ _ (by assumption) | exact HC.out _ _ _ (PutI.alloc (by assumption) _)) (first | (go_at_call 21; refine (num_keeps _ _ _ (by assumption)).mono ?_; rintro e w' ⟨rfl, hC⟩) | (refine step_fields rfl (.tmp 98) (.tmp 122) rfl i0 hi iz0 iz1 iz2 _ L9 [⟨11, order⟩, ⟨1, account⟩, ⟨55, symbol⟩, ⟨54, nmV sd⟩, ⟨150, nmV k⟩, ⟨32, nmV qty⟩, ⟨31, nmV price⟩, ⟨60, nmV tm⟩] rfl (PutI.alloc (by assumption) _) rfl (lit_news _ _ (by first | rfl | simp) rfl) rfl (by omega) ?_; intro v3 w3 h3))
                          all_goals
                            go_wp2
                            go_meet
                            case rel => exact PutI.cast (K := L7 ++ onL (kind = 7) (exL ⟨id, ref, order, account, symbol, k, buy, qty, price, tm⟩)) h3.tail (by rw [HL9.out, HL8.out, Hsd.out, Hk.out]; simp [onL, exL])
                  case rest =>
                    clear q0 hzc HI
                    have hM := HM.out
                    have hE : L7 ++ onL (kind = 7) (exL ⟨id, ref, order, account, symbol, k, buy, qty, price, tm⟩) = msgL ⟨kind, seq, time, copy, a, b, gap, text, ⟨id, ref, order, account, symbol, k, buy, qty, price, tm⟩⟩ := by rw [HL7.out, HL6.out, HL5.out, HL4.out, HL3.out, HL2.out, HL1.out]; exact msgL_parts hM
                    rw [hE] at hcut
                    have hfl := msgL_fld hM
                    have hln := msgL_len ⟨kind, seq, time, copy, a, b, gap, text, ⟨id, ref, order, account, symbol, k, buy, qty, price, tm⟩⟩
                    have hpe := putE_ok (l := msgL ⟨kind, seq, time, copy, a, b, gap, text, ⟨id, ref, order, account, symbol, k, buy, qty, price, tm⟩⟩) (by omega) (msgL_right hM)
                    obtain ⟨A, c, rfl, hsl, _⟩ := Sl.of_own hcut.own
                    have hB := hcut.below
                    have HP := Lib.hid (ref_FPut A c (msgL ⟨kind, seq, time, copy, a, b, gap, text, ⟨id, ref, order, account, symbol, k, buy, qty, price, tm⟩⟩) wc hsl.row (fun f hf => by have := (hfl f hf).2.1; omega) (by omega))
                    clear hfl hE hsl hcut hln
                    rw [show PutPost (msgL ⟨kind, seq, time, copy, a, b, gap, text, ⟨id, ref, order, account, symbol, k, buy, qty, price, tm⟩⟩) wc = fun e w' => ∃ A n c, e = .returned (.tuple #[.slice A n c, .int .i64 0]) ∧ Sl w' A n c 1 (bcells (putL (msgL ⟨kind, seq, time, copy, a, b, gap, text, ⟨id, ref, order, account, symbol, k, buy, qty, price, tm⟩⟩))) ∧ Below wc.heap.size wc w' ∧ Fm A from by funext e w'; unfold PutPost; rw [hpe.1, hpe.2]] at HP
                    clear hpe HM hM
                    generalize (msgL ⟨kind, seq, time, copy, a, b, gap, text, ⟨id, ref, order, account, symbol, k, buy, qty, price, tm⟩⟩).length = nl at *
                    go_wp2_with fail
                    refine HP.out.mono ?_
                    rintro e w3 ⟨A3, n3, c3, rfl, hs3, hb3, _⟩
                    go_wp2
                    go_ret2
                    exact HG.out _ _ _ _ _ rfl hs3 (hB.trans (hb3.mono hB.size))
end Go.Proofs.YtcfpchcbiknehaaDoorR
