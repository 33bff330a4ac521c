/-
  Layer 5, msg: the document's own way: fields are taken, one behind the other: the takers' contracts.
-/
import Derived.Test.YtioagepalfiioaaDoorMsgRef
import Derived.Test.YtioagepalfiioaaDoorMsgBackN
import Derived.Test.YtioagepalfiioaaDoorMsgBox
import Derived.RangeFuncWrites
import Derived.BigQuiet
import Derived.Deep.QuietTactic
namespace Go.Proofs.YtioagepalfiioaaDoor
open Go.RowKit

/-- A taker of these fields stands here; w0: the world in which the fields lie. -/
structure TkI (w0 : World) (g : Nat) (A : Option Addr) (n c : Nat) (l : List Fld) (s : Tk) (W : World) : Prop where
  at' : ∃ (p : Nat) (b : Bool), Box W g 45 #[.slice A n c, .int .i64 (p : Nat), .bool b] ∧ p ≤ n ∧ s = ⟨l.drop p, !b⟩
  low : w0.heap.size ≤ g
  below : Below w0.heap.size w0 W
theorem tk_drop (l : List Fld) (p : Nat) (t : Int) : (∀ h : p < l.length, l[p].tag = t → tkV t (l.drop p) = l[p].val ∧ tkL t (l.drop p) = l.drop (p + 1) ∧ tkB t (l.drop p) = true) ∧ (∀ h : p < l.length, ¬ l[p].tag = t → tkV t (l.drop p) = eS ∧ tkL t (l.drop p) = l.drop p ∧ tkB t (l.drop p) = false) ∧
    (l.length ≤ p → tkV t (l.drop p) = eS ∧ tkL t (l.drop p) = l.drop p ∧ tkB t (l.drop p) = false) := by
  refine ⟨fun h e => ?_, fun h e => ?_, fun h => ?_⟩
  · rw [List.drop_eq_getElem_cons h]
    exact ⟨if_pos e, if_pos e, decide_eq_true e⟩
  · rw [List.drop_eq_getElem_cons h]
    exact ⟨if_neg e, if_neg e, decide_eq_false e⟩
  · rw [List.drop_eq_nil_of_le h]; exact ⟨rfl, rfl, rfl⟩
/-- What a taker hands back. -/
def TkPost (w0 : World) (g : Nat) (A : Option Addr) (n c : Nat) (l : List Fld) (v : Value) (s' : Tk) (W : World) (e : Ending) (W' : World) : Prop :=
  e = .returned v ∧ TkI w0 g A n c l s' W' ∧ W.grownBy W' (some g)
set_option maxRecDepth 100000 in
set_option maxHeartbeats 2000000 in
theorem tk_take (w0 : World) (g : Nat) (A : Option Addr) (n c : Nat) (l : List Fld) (s : Tk) (t : Int) (W : World) (hl : Sl w0 A n c 2 (fcells l)) (hn : l.length = n) (hn1 : n ≤ 1000000) (hI : TkI w0 g A n c l s W) :
    Calls Tryd.prog 12 #[.pointer (some ⟨g, 0, none⟩), .int .i64 t] W (TkPost w0 g A n c l (.string (tkV t s.l)) (s.take t) W) := by
  obtain ⟨⟨p, b, hbx, hp, rfl⟩, hlow, hbel⟩ := hI
  have c0 := hbx.cell 0
  have c1 := hbx.cell 1
  have c2 := hbx.cell 2
  have f1 := hbx.free 1
  have f2 := hbx.free 2
  simp at c0 c1 c2
  have ⟨d1, d2, d3⟩ := tk_drop l p t
  by_cases hlt : p < n
  · obtain ⟨b', off, rfl, g0', g1'⟩ := hl.row.fld (show p < l.length by omega)
    have hb0 := cell_lt g0'
    have g0 := (hbel.cell (p := ⟨b', _, none⟩) hb0).trans g0'
    have g1 := (hbel.cell (p := ⟨b', _, none⟩) hb0).trans g1'
    have hne : b' ≠ g := by omega
    have hcn : c ≤ 9223372036854775807 := by have := hl.cap; unfold maxLen at this; exact this
    have hnc := hl.le
    have hp0 : (0 : Int) ≤ (p : Int) := by omega
    have hpi : (p : Int) < (n : Int) := by omega
    have hd0 : decide ((n : Int) ≤ (p : Int)) = false := decide_eq_false (by omega)
    clear g0' g1' hl
    by_cases ht : l[p].tag = t
    · have ⟨e1, e2, e3⟩ := d1 (by omega) ht
      have HP := Lib.hid (show ∀ W' e, e = .returned (.string l[p].val) → Box W' g 45 #[.slice (some ⟨b', off, none⟩) n c, .int .i64 ((p : Int) + 1), .bool b] → W.grownBy W' (some g) → TkPost w0 g (some ⟨b', off, none⟩) n c l (.string (tkV t (l.drop p))) ((Tk.mk (l.drop p) (!b)).take t) W e W' from
        fun W' e he hb' hg => ⟨by rw [e1]; exact he, ⟨⟨p + 1, b, by rw [show (((p + 1 : Nat) : Int)) = (p : Int) + 1 by omega]; exact hb', by omega, by unfold Tk.take; simp only [e2, e3, Bool.and_true]⟩, hlow, grown_from hbel hbel.size hlow hg⟩, hg⟩)
      have HB := Lib.hid hbx
      clear d1 d2 d3 e1 e2 e3 hbx
      generalize l[p].tag = tg at *
      generalize l[p].val = vl at *
      subst ht
      go_enter Tryd.func12, Tryd.ntmps12
      go_wp2_with fail
      go_quiet (fail)
      go_wp2_with fail
      go_quiet (fail)
      go_wp2
      go_ret
      refine HP.out _ _ rfl ?_ ?_
      · exact HB.out.set 1 _
      · have h := grown_set W g 1 (.int .i64 ((p : Int) + 1))
        exact ⟨h.os, h.tape, h.output, h.size, h.block⟩
    · have ⟨e1, e2, e3⟩ := d2 (by omega) ht
      have HP := Lib.hid (show ∀ W' e, e = .returned (.string ⟨#[]⟩) → Box W' g 45 #[.slice (some ⟨b', off, none⟩) n c, .int .i64 (p : Int), .bool true] → W.grownBy W' (some g) → TkPost w0 g (some ⟨b', off, none⟩) n c l (.string (tkV t (l.drop p))) ((Tk.mk (l.drop p) (!b)).take t) W e W' from
        fun W' e he hb' hg => ⟨by rw [e1]; exact he, ⟨⟨p, true, hb', by omega, by unfold Tk.take; simp only [e2, e3, Bool.and_false, Bool.not_true]⟩, hlow, grown_from hbel hbel.size hlow hg⟩, hg⟩)
      have HB := Lib.hid hbx
      have hne' : (l[p].tag == t) = false := by rw [beq_eq_false_iff_ne]; exact ht
      have hne2 : (l[p].tag != t) = true := by rw [bne_iff_ne]; exact ht
      clear d1 d2 d3 e1 e2 e3 hbx
      generalize l[p].tag = tg at *
      generalize l[p].val = vl at *
      go_enter Tryd.func12, Tryd.ntmps12
      go_wp2_with fail
      go_quiet (fail)
      go_wp2
      go_ret
      refine HP.out _ _ rfl ?_ ?_
      · exact HB.out.set 2 _
      · have h := grown_set W g 2 (.bool true)
        exact ⟨h.os, h.tape, h.output, h.size, h.block⟩
  · have ⟨e1, e2, e3⟩ := d3 (by omega)
    have HP := Lib.hid (show ∀ W' e, e = .returned (.string ⟨#[]⟩) → Box W' g 45 #[.slice A n c, .int .i64 (p : Int), .bool true] → W.grownBy W' (some g) → TkPost w0 g A n c l (.string (tkV t (l.drop p))) ((Tk.mk (l.drop p) (!b)).take t) W e W' from
      fun W' e he hb' hg => ⟨by rw [e1]; exact he, ⟨⟨p, true, hb', by omega, by unfold Tk.take; simp only [e2, e3, Bool.and_false, Bool.not_true]⟩, hlow, grown_from hbel hbel.size hlow hg⟩, hg⟩)
    have HB := Lib.hid hbx
    have hd0 : decide ((n : Int) ≤ (p : Int)) = true := decide_eq_true (by omega)
    clear d1 d2 d3 e1 e2 e3 hbx hl
    go_enter Tryd.func12, Tryd.ntmps12
    go_wp2_with fail
    go_quiet (fail)
    go_wp2
    go_ret
    refine HP.out _ _ rfl ?_ ?_
    · exact HB.out.set 2 _
    · have h := grown_set W g 2 (.bool true)
      exact ⟨h.os, h.tape, h.output, h.size, h.block⟩
set_option maxRecDepth 100000 in
set_option maxHeartbeats 2000000 in
theorem tk_maybe (w0 : World) (g : Nat) (A : Option Addr) (n c : Nat) (l : List Fld) (s : Tk) (t : Int) (W : World) (hl : Sl w0 A n c 2 (fcells l)) (hn : l.length = n) (hn1 : n ≤ 1000000) (hI : TkI w0 g A n c l s W) :
    Calls Tryd.prog 15 #[.pointer (some ⟨g, 0, none⟩), .int .i64 t] W (TkPost w0 g A n c l (.string (tkV t s.l)) (s.may t) W) := by
  have HT := Lib.hid (fun W' (h : TkI w0 g A n c l s W') => tk_take w0 g A n c l s t W' hl hn hn1 h)
  have HI := Lib.hid hI
  obtain ⟨⟨p, b, hbx, hp, rfl⟩, hlow, hbel⟩ := hI
  have c0 := hbx.cell 0
  have c1 := hbx.cell 1
  simp at c0 c1
  have ⟨d1, d2, d3⟩ := tk_drop l p t
  by_cases hlt : p < n
  · obtain ⟨b', off, rfl, g0', g1'⟩ := hl.row.fld (show p < l.length by omega)
    have hb0 := cell_lt g0'
    have g0 := (hbel.cell (p := ⟨b', _, none⟩) hb0).trans g0'
    have hcn : c ≤ 9223372036854775807 := by have := hl.cap; unfold maxLen at this; exact this
    have hnc := hl.le
    have hp0 : (0 : Int) ≤ (p : Int) := by omega
    have hpi : (p : Int) < (n : Int) := by omega
    have hd0 : decide ((p : Int) < (n : Int)) = true := decide_eq_true (by omega)
    clear g0' g1' hl
    by_cases ht : l[p].tag = t
    · have ⟨e1, e2, e3⟩ := d1 (by omega) ht
      have HT2 := Lib.hid (show ∀ q, Calls Tryd.prog 12 #[.pointer (some ⟨g, 0, none⟩), .int .i64 t] (W.drewN q) (TkPost w0 g (some ⟨b', off, none⟩) n c l (.string (tkV t (l.drop p))) ((Tk.mk (l.drop p) (!b)).may t) W) from fun q =>
        (HT.out (W.drewN q) ⟨⟨p, b, hbx, hp, rfl⟩, hlow, ⟨hbel.os, hbel.tape, hbel.output, hbel.size, hbel.block⟩⟩).mono fun e w' ⟨h1, h2, h3⟩ => ⟨h1, by rw [show (Tk.mk (l.drop p) (!b)).may t = (Tk.mk (l.drop p) (!b)).take t by unfold Tk.may Tk.take; simp only [e3, Bool.and_true]]; exact h2, ⟨h3.os, h3.tape, h3.output, h3.size, h3.block⟩⟩)
      clear d1 d2 d3 e1 e2 e3 hbx HT HI
      generalize l[p].tag = tg at *
      subst ht
      go_enter Tryd.func15, Tryd.ntmps15
      go_wp2_with fail
      go_quiet (fail)
      go_wp2_with fail
      refine (HT2.out _).mono ?_
      rintro e w2 ⟨rfl, h2, h3⟩
      go_wp2
      go_ret
      exact ⟨rfl, h2, h3⟩
    · have ⟨e1, e2, e3⟩ := d2 (by omega) ht
      have HP := Lib.hid (show ∀ W' e, e = .returned (.string ⟨#[]⟩) → Below W.heap.size W W' → TkPost w0 g (some ⟨b', off, none⟩) n c l (.string (tkV t (l.drop p))) ((Tk.mk (l.drop p) (!b)).may t) W e W' from
        fun W' e he hb' => ⟨by rw [e1]; exact he, ⟨⟨p, b, hbx.on hb', hp, by unfold Tk.may; simp only [e2]⟩, hlow, hbel.trans (hb'.mono hbel.size)⟩, grown_below hb'⟩)
      have hne' : (l[p].tag == t) = false := by rw [beq_eq_false_iff_ne]; exact ht
      clear d1 d2 d3 e1 e2 e3 hbx HT HI
      generalize l[p].tag = tg at *
      go_enter Tryd.func15, Tryd.ntmps15
      go_wp2_with fail
      go_quiet (fail)
      go_wp2
      go_ret
      exact HP.out _ _ rfl ⟨rfl, rfl, rfl, Nat.le_refl _, fun _ _ => rfl⟩
  · have ⟨e1, e2, e3⟩ := d3 (by omega)
    have HP := Lib.hid (show ∀ W' e, e = .returned (.string ⟨#[]⟩) → Below W.heap.size W W' → TkPost w0 g A n c l (.string (tkV t (l.drop p))) ((Tk.mk (l.drop p) (!b)).may t) W e W' from
      fun W' e he hb' => ⟨by rw [e1]; exact he, ⟨⟨p, b, hbx.on hb', hp, by unfold Tk.may; simp only [e2]⟩, hlow, hbel.trans (hb'.mono hbel.size)⟩, grown_below hb'⟩)
    have hd0 : decide ((p : Int) < (n : Int)) = false := decide_eq_false (by omega)
    clear d1 d2 d3 e1 e2 e3 hbx hl HT HI
    go_enter Tryd.func15, Tryd.ntmps15
    go_wp2_with fail
    go_quiet (fail)
    go_wp2
    go_ret
    exact HP.out _ _ rfl ⟨rfl, rfl, rfl, Nat.le_refl _, fun _ _ => rfl⟩
theorem str_dec (a b : ByteArray) : (a.toList == b.toList) = decide (a = b) := by
  rw [ByteArray.toList_eq, ByteArray.toList_eq]
  by_cases h : a = b
  · subst h; simp
  · rw [decide_eq_false h, beq_eq_false_iff_ne]
    exact fun he => h (ba_ext (by simpa using he))
theorem tkV_size {l : List Fld} (hv : ∀ f ∈ l, f.val.size ≤ 1000000) (t : Int) (p : Nat) : (tkV t (l.drop p)).size ≤ 1000000 := by
  cases h : l.drop p with
  | nil => exact Nat.zero_le _
  | cons f r =>
    have : f ∈ l := List.mem_of_mem_drop (i := p) (by rw [h]; exact List.mem_cons_self ..)
    unfold tkV
    dsimp only
    split
    · exact hv f this
    · exact Nat.zero_le _
set_option maxRecDepth 100000 in
set_option maxHeartbeats 2000000 in
theorem tk_number (w0 : World) (g : Nat) (A : Option Addr) (n c : Nat) (l : List Fld) (s : Tk) (t : Int) (W : World) (hl : Sl w0 A n c 2 (fcells l)) (hn : l.length = n) (hn1 : n ≤ 1000000) (hv : ∀ f ∈ l, f.val.size ≤ 1000000) (hI : TkI w0 g A n c l s W) :
    Calls Tryd.prog 13 #[.pointer (some ⟨g, 0, none⟩), .int .i64 t] W (TkPost w0 g A n c l (.int .i64 (s.numV t)) (s.num t) W) := by
  have HT := Lib.hid (tk_take w0 g A n c l s t W hl hn hn1 hI)
  have hlow := hI.low
  have hsz : (tkV t s.l).size ≤ 1000000 := by obtain ⟨⟨p, b, _, _, rfl⟩, _, _⟩ := hI; exact tkV_size hv t p
  have HP := Lib.hid (fun W => ref_Parse (tkV t s.l) (by unfold maxLen; omega) W)
  have HE := Lib.hid (show (s.num t) = (s.take t).bad (!decide (parseE (tkV t s.l).data.toList = 0)) by unfold Tk.num Tk.take Tk.bad; simp [Bool.and_assoc])
  have HV := Lib.hid (show s.numV t = parseV (tkV t s.l).data.toList from rfl)
  clear hI hl
  generalize tkV t s.l = v at *
  generalize parseE v.data.toList = pe at *
  generalize parseV v.data.toList = pv at *
  go_enter Tryd.func13, Tryd.ntmps13
  go_wp2_with fail
  refine HT.out.mono ?_
  rintro e w2 ⟨rfl, h2, h3⟩
  obtain ⟨⟨p', b', hbx, hp', hs'⟩, _, hbel2⟩ := h2
  have f2 := hbx.free 2
  have c2 := hbx.cell 2
  simp at c2
  have HB := Lib.hid hbx
  clear hbx HT
  go_wp2_with fail
  refine (HP.out _).mono ?_
  rintro e w' ⟨rfl, rfl⟩
  by_cases hpe : pe = 0
  · have HF := Lib.hid (show TkPost w0 g A n c l (.int .i64 (s.numV t)) (s.num t) W (.returned (.int .i64 pv)) w2 from ⟨by rw [HV.out], ⟨⟨p', b', HB.out, hp', by rw [HE.out, hs', hpe]; simp [Tk.bad]⟩, hlow, hbel2⟩, h3⟩)
    clear HP HE HV
    subst hpe
    go_wp2
    go_ret
    exact HF.out
  · have hpb : (pe != 0) = true := by rw [bne_iff_ne]; exact hpe
    have HF := Lib.hid (show ∀ W', Box W' g 45 #[.slice A n c, .int .i64 (p' : Nat), .bool true] → w2.grownBy W' (some g) → TkPost w0 g A n c l (.int .i64 (s.numV t)) (s.num t) W (.returned (.int .i64 pv)) W' from fun W' hb hg =>
      ⟨by rw [HV.out], ⟨⟨p', true, hb, hp', by rw [HE.out, hs', decide_eq_false hpe]; simp [Tk.bad]⟩, hlow, grown_from hbel2 hbel2.size hlow hg⟩, grown_trans h3 hg⟩)
    clear HP HE HV hpe
    go_wp2
    go_ret
    exact HF.out _ (HB.out.set 2 _) (grown_set _ _ _ _)
set_option maxRecDepth 100000 in
set_option maxHeartbeats 2000000 in
theorem tk_yes (w0 : World) (g : Nat) (A : Option Addr) (n c : Nat) (l : List Fld) (s : Tk) (t : Int) (W : World) (hl : Sl w0 A n c 2 (fcells l)) (hn : l.length = n) (hn1 : n ≤ 1000000) (hI : TkI w0 g A n c l s W) :
    Calls Tryd.prog 14 #[.pointer (some ⟨g, 0, none⟩), .int .i64 t] W (TkPost w0 g A n c l (.bool (s.yesV t)) (s.yes t) W) := by
  have HT := Lib.hid (tk_maybe w0 g A n c l s t W hl hn hn1 hI)
  have hlow := hI.low
  have HE := Lib.hid (show (s.yes t) = (s.may t).bad (!(decide (tkV t s.l = eS) || decide (tkV t s.l = yV))) by unfold Tk.yes Tk.may Tk.bad; simp)
  have HV := Lib.hid (show s.yesV t = decide (tkV t s.l = yV) from rfl)
  clear hI hl
  generalize tkV t s.l = v at *
  have HvE := Lib.hid (isE v)
  have HvY := Lib.hid (str_dec v yV)
  go_enter Tryd.func14, Tryd.ntmps14
  go_wp2_with fail
  refine HT.out.mono ?_
  rintro e w2 ⟨rfl, h2, h3⟩
  obtain ⟨⟨p', b', hbx, hp', hs'⟩, _, hbel2⟩ := h2
  have f2 := hbx.free 2
  have c2 := hbx.cell 2
  simp at c2
  have HB := Lib.hid hbx
  clear hbx HT
  by_cases h1 : v = eS
  · have HF := Lib.hid (show TkPost w0 g A n c l (.bool (s.yesV t)) (s.yes t) W (.returned (.bool false)) w2 from ⟨by rw [HV.out, h1]; rfl, ⟨⟨p', b', HB.out, hp', by rw [HE.out, hs', h1]; simp [Tk.bad]⟩, hlow, hbel2⟩, h3⟩)
    clear HE HV HvE HvY
    unfold eS at h1
    subst h1
    go_wp2
    go_ret
    exact HF.out
  · by_cases h2 : v = yV
    · have HF := Lib.hid (show TkPost w0 g A n c l (.bool (s.yesV t)) (s.yes t) W (.returned (.bool true)) w2 from ⟨by rw [HV.out, h2]; rfl, ⟨⟨p', b', HB.out, hp', by rw [HE.out, hs', h2]; simp [Tk.bad]⟩, hlow, hbel2⟩, h3⟩)
      clear HE HV HvE HvY
      unfold yV at h2
      subst h2
      go_wp2
      go_ret
      exact HF.out
    · have HF := Lib.hid (show ∀ W', Box W' g 45 #[.slice A n c, .int .i64 (p' : Nat), .bool true] → w2.grownBy W' (some g) → TkPost w0 g A n c l (.bool (s.yesV t)) (s.yes t) W (.returned (.bool false)) W' from fun W' hb hg =>
        ⟨by rw [HV.out, decide_eq_false h2], ⟨⟨p', true, hb, hp', by rw [HE.out, hs', decide_eq_false h1, decide_eq_false h2]; simp [Tk.bad]⟩, hlow, grown_from hbel2 hbel2.size hlow hg⟩, grown_trans h3 hg⟩)
      have hb1 : v.toList.isEmpty = false := by rw [HvE.out]; exact decide_eq_false h1
      have hb2 : (v.toList == (ByteArray.mk #[89]).toList) = false := by rw [show ByteArray.mk #[89] = yV from rfl, HvY.out]; exact decide_eq_false h2
      have hb3 : (v.toList == [89]) = false := by rw [ByteArray.toList_eq] at hb2; exact (by rw [ByteArray.toList_eq]; simpa [ByteArray.toList_eq] using hb2)
      clear HE HV HvE HvY h1 h2 hb2
      go_wp2
      go_ret
      exact HF.out _ (HB.out.set 2 _) (grown_set _ _ _ _)
end Go.Proofs.YtioagepalfiioaaDoor
