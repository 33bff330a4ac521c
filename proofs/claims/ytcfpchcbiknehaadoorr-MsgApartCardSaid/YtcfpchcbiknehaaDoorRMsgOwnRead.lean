/-
  Layer 5, msg: the program's own way: fields are taken for a message: its contracts.
-/
import Derived.Test.YtcfpchcbiknehaaDoorRMsgOwnMath
import Derived.Test.YtcfpchcbiknehaaDoorRMsgRef
import Derived.Test.YtcfpchcbiknehaaDoorRMsgBox
import Derived.Test.YtcfpchcbiknehaaDoorRFieldParse
import Derived.Test.YtcfpchcbiknehaaDoorRMsgEq
import Derived.Deep.DeepCutAuto
import Derived.Deep.CutBlock
import Derived.Deep.DeepMust
namespace Go.Proofs.YtcfpchcbiknehaaDoorR
open Go.RowKit

/-- Blocks that are known whole. -/
structure RI (w : World) (bs : List (Nat × TypeId × Array Value)) (W : World) : Prop where
  box : ∀ b ∈ bs, Box W b.1 b.2.1 b.2.2
  low : ∀ b ∈ bs, w.heap.size ≤ b.1
  nd : (bs.map (·.1)).Nodup
  below : Below w.heap.size w W
section
variable {w W : World} {bs : List (Nat × TypeId × Array Value)} {gx : Nat} {t : TypeId} {cs : Array Value}
theorem RI.start (w : World) : RI w [] w := ⟨(fun b hb => by cases hb), (fun b hb => by cases hb), List.nodup_nil, Below.refl _ _⟩
theorem RI.bx (h : RI w ((gx, t, cs) :: bs) W) : Box W gx t cs := h.box _ (List.mem_cons_self ..)
theorem RI.on {W' : World} (h : RI w bs W) (hb : Below W.heap.size W W') : RI w bs W' := ⟨fun b hm => (h.box b hm).on hb, h.low, h.nd, h.below.trans (hb.mono h.below.size)⟩
theorem RI.add (h : RI w bs W) (t : TypeId) (cs : Array Value) : RI w ((W.heap.size, t, cs) :: bs) (W.alloc (.cells cs t)) := by
  have h' := h.on ((Below.refl W.heap.size W).alloc (Nat.le_refl _) (.cells cs t))
  refine ⟨fun b hm => ?_, fun b hm => ?_, ?_, h'.below⟩
  · rcases List.mem_cons.1 hm with rfl | hm
    · exact Box.new _ _ _
    · exact h'.box b hm
  · rcases List.mem_cons.1 hm with rfl | hm
    · exact h.below.size
    · exact h.low b hm
  · refine List.nodup_cons.2 ⟨fun hm => ?_, h.nd⟩
    obtain ⟨b, hb', e⟩ := List.mem_map.1 hm
    have := (h.box b hb').lt
    have e : b.1 = W.heap.size := e
    omega
theorem RI.sets (h : RI w ((gx, t, cs) :: bs) W) (o : Nat) (vs : List Value) : RI w ((gx, t, setAll cs o vs) :: bs) (W.setCells gx o vs) := by
  have hnd := List.nodup_cons.1 (show (gx :: bs.map (·.1)).Nodup from h.nd)
  have hl := h.low _ (List.mem_cons_self ..)
  refine ⟨fun b hb => ?_, fun b hb => ?_, h.nd, below_sets hl vs o h.below⟩
  · rcases List.mem_cons.1 hb with rfl | hb
    · exact h.bx.sets vs o
    · have hne : b.1 ≠ gx := fun e => hnd.1 (List.mem_map.2 ⟨b, hb, e⟩)
      exact (block_sets gx vs W o b.1 hne).trans (h.box b (List.mem_cons_of_mem _ hb))
  · rcases List.mem_cons.1 hb with rfl | hb
    · exact hl
    · exact h.low b (List.mem_cons_of_mem _ hb)
theorem RI.set (h : RI w ((gx, t, cs) :: bs) W) (o : Nat) (v : Value) : RI w ((gx, t, cs.setIfInBounds o v) :: bs) (W.setCell ⟨gx, o, none⟩ v) := h.sets o [v]
theorem RI.swap {b b' : Nat × TypeId × Array Value} (h : RI w (b :: b' :: bs) W) : RI w (b' :: b :: bs) W := by
  have hm : ∀ x, x ∈ b' :: b :: bs → x ∈ b :: b' :: bs := fun x hx => by
    simp only [List.mem_cons] at hx ⊢
    rcases hx with h1 | h1 | h1
    · exact .inr (.inl h1)
    · exact .inl h1
    · exact .inr (.inr h1)
  refine ⟨fun x hx => h.box x (hm x hx), fun x hx => h.low x (hm x hx), ?_, h.below⟩
  have := h.nd
  simp only [List.map_cons, List.nodup_cons, List.mem_cons, not_or] at this ⊢
  exact ⟨⟨fun e => this.1.1 e.symm, this.2.1⟩, this.1.2, this.2.2⟩
theorem ri_store {ops : Array Oper} {rest : List Oper} {op : Oper} {a : Act} {Q : Exit → Act → World → Prop} (hgd : op.guard = none) (ty : TypeId) (x y : Operand) (ho : op.op = .store ty x y)
    (off : Nat) (vs : Array Value) (hx : a.eval x = .pointer (some ⟨gx, off, none⟩)) (hy : a.eval y = .agg vs) (h : RI w ((gx, t, cs) :: bs) W) (hsz : off + vs.size ≤ cs.size)
    (hi : (Tryd.prog.info? ty).map (·.size) = some vs.size) (h1 : vs.all (·.oneCell') = true)
    (hk : ∀ w', RI w ((gx, t, setAll cs off vs.toList) :: bs) w' → wpList Tryd.prog ops Q rest (a.put op.dst undef) w') : wpList Tryd.prog ops Q (op :: rest) a W :=
  wpList_store_mid hgd ty x y ho gx off vs hx hy (there_box h.bx off vs.size hsz) hi h1 (hk _ (h.sets off vs.toList))
end
theorem str_lit5 (s : ByteArray) (d : UInt8) : (s.toList == [d]) = decide (s = ⟨#[d]⟩) := by
  have h := str_eq s ⟨#[d]⟩
  rw [← h]
  simp [ByteArray.toList_eq]
theorem own_value5 (A : Option Addr) (c : Nat) (l : List Fld) (tag : Int) (W : World) (h : Row W A (fcells l)) (hl : l.length ≤ 1000000) :
    Calls Tryd.prog 45 #[.slice A l.length c, .int .i64 tag] W fun e W' => e = .returned (.string (getV l tag)) ∧ Below W.heap.size W W' := by
  have HG := Lib.hid (field_Get A c l tag W h hl)
  clear h
  go_enter Tryd.func45, Tryd.ntmps45
  go_wp2_with (go_at_call 59; refine HG.out.mono ?_; rintro e w1 ⟨rfl, hb1⟩)
  go_ret
  exact ⟨rfl, hb1⟩
theorem own_numberOf5 (A : Option Addr) (c : Nat) (l : List Fld) (tag : Int) (W : World) (h : Row W A (fcells l)) (hl : l.length ≤ 1000000) (hv : (getV l tag).size ≤ 1000000) (hctx : FCtx W) :
    Calls Tryd.prog 46 #[.slice A l.length c, .int .i64 tag] W fun e W' => e = .returned (.int .i64 (numFV l tag)) ∧ Below W.heap.size W W' := by
  have HG := Lib.hid (field_Num A c l tag W h hl hv hctx)
  clear h
  go_enter Tryd.func46, Tryd.ntmps46
  go_wp2_with (go_at_call 60; refine HG.out.mono ?_; rintro e w1 ⟨rfl, hb1⟩)
  go_ret
  exact ⟨rfl, hb1⟩
theorem own_has5 (A : Option Addr) (c : Nat) (l : List Fld) (tag : Int) (W : World) (h : Row W A (fcells l)) (hl : l.length ≤ 1000000) :
    Calls Tryd.prog 47 #[.slice A l.length c, .int .i64 tag] W fun e W' => e = .returned (.bool (getB l tag)) ∧ Below W.heap.size W W' := by
  have HG := Lib.hid (field_Get A c l tag W h hl)
  clear h
  go_enter Tryd.func47, Tryd.ntmps47
  go_wp2_with (go_at_call 59; refine HG.out.mono ?_; rintro e w1 ⟨rfl, hb1⟩)
  go_ret
  exact ⟨rfl, hb1⟩
set_option maxRecDepth 100000 in
set_option maxHeartbeats 4000000 in
theorem own_execution5 (A : Option Addr) (c : Nat) (l : List Fld) (w : World) (h : Row w A (fcells l)) (hl : l.length ≤ 1000000) (hv : ∀ f ∈ l, f.val.size ≤ 1000000) (hctx : FCtx w) :
    Calls Tryd.prog 48 #[.slice A l.length c] w fun e w' => e = .returned (xOwn l).val ∧ Below w.heap.size w w' := by
  have HV := Lib.hid (fun (tag : Int) (bs : List (Nat × TypeId × Array Value)) (W : World) (hI : RI w bs W) => (own_value5 A c l tag W (h.on hI.below) hl).mono fun e W' ⟨he, hb⟩ => (show e = Ending.returned (.string (getV l tag)) ∧ RI w bs W' from ⟨he, hI.on hb⟩))
  have HN := Lib.hid (fun (tag : Int) (bs : List (Nat × TypeId × Array Value)) (W : World) (hI : RI w bs W) => (own_numberOf5 A c l tag W (h.on hI.below) hl (getV_size hv tag) (hctx.on hI.below)).mono fun e W' ⟨he, hb⟩ => (show e = Ending.returned (.int .i64 (numFV l tag)) ∧ RI w bs W' from ⟨he, hI.on hb⟩))
  have h6 := numFV_in l 150
  have HX := Lib.hid (show xOwn l = ⟨getV l 17, getV l 19, getV l 11, getV l 1, getV l 55, numFV l 150, decide (getV l 54 = ⟨#[49]⟩), numFV l 32, numFV l 31, numFV l 60⟩ from rfl)
  have hd := str_lit5 (getV l 54) 49
  generalize hbb : decide (getV l 54 = ⟨#[49]⟩) = bb at *
  replace hbb := Lib.hid hbb
  generalize xOwn l = xx at *
  have HI9 := Lib.hid ((RI.start w).add 23 #[.string ⟨#[]⟩, .string ⟨#[]⟩, .string ⟨#[]⟩, .string ⟨#[]⟩, .string ⟨#[]⟩, .int .i64 0, .bool false, .int .i64 0, .int .i64 0, .int .i64 0])
  generalize hn : l.length = n at *
  clear h hctx hv
  go_enter Tryd.func48, Tryd.ntmps48
  go_wp2_with (first | (go_at_call 45; refine (HV.out _ _ _ HI9.out).mono ?_; go_must (rintro e W' ⟨rfl, hI⟩; clear HI9; have HI9 := Lib.hid hI; clear hI)) | (go_at_call 46; refine (HN.out _ _ _ HI9.out).mono ?_; go_must (rintro e W' ⟨rfl, hI⟩; clear HI9; have HI9 := Lib.hid hI; clear hI)) | (refine ri_store rfl 23 (.tmp 2) (.tmp 24) rfl 0 #[.string (getV l 17), .string (getV l 19), .string (getV l 11), .string (getV l 1), .string (getV l 55), .int .i64 (numFV l 150), .bool bb, .int .i64 (numFV l 32), .int .i64 (numFV l 31), .int .i64 (numFV l 60)] rfl rfl HI9.out (Nat.le_refl 10) infoX (xarr_one ⟨getV l 17, getV l 19, getV l 11, getV l 1, getV l 55, numFV l 150, bb, numFV l 32, numFV l 31, numFV l 60⟩) ?_; go_must (intro w9 hI9; clear HI9; have HI9 := Lib.hid hI9; clear hI9; simp [setAll] at HI9)))
  refine bodyPost_ret (results_cell_row (p := 2) (ty := 23) Tryd.results48 _ _ w.heap.size 23 #[.string (getV l 17), .string (getV l 19), .string (getV l 11), .string (getV l 1), .string (getV l 55), .int .i64 (numFV l 150), .bool bb, .int .i64 (numFV l 32), .int .i64 (numFV l 31), .int .i64 (numFV l 60)] (0, 0) _ rfl HI9.out.bx Tryd.underlying23 rfl infoX) rfl ?_
  exact ⟨by rw [HX.out, ← hbb.out]; rfl, HI9.out.below⟩
theorem Exc.zero_in : Exc.zero.In := ⟨by decide, by decide, by decide, by decide, Nat.zero_le _, Nat.zero_le _, Nat.zero_le _, Nat.zero_le _, Nat.zero_le _⟩
theorem mOwn_in {l : List Fld} (hv : ∀ f ∈ l, f.val.size ≤ 1000000) : (mOwn l).In := by
  have hn := fun t => numFV_in l t
  have hs : ∀ t, (getV l t).size ≤ maxLen := fun t => by have := getV_size hv t; unfold maxLen; omega
  have hk := kix_range (getV l 35)
  have hx : (xOwn l).In := ⟨by have := hn 150; unfold xOwn; dsimp only; omega, by have := hn 32; unfold xOwn; dsimp only; omega, by have := hn 31; unfold xOwn; dsimp only; omega, by have := hn 60; unfold xOwn; dsimp only; omega, hs 17, hs 19, hs 11, hs 1, hs 55⟩
  have h0 : (mOwn0 l).In := ⟨by unfold mOwn0; dsimp only; omega, by have := hn 34; unfold mOwn0; dsimp only; omega, by have := hn 52; unfold mOwn0; dsimp only; omega, by unfold mOwn0; dsimp only; omega, by unfold mOwn0; dsimp only; omega, Nat.zero_le _, Exc.zero_in⟩
  have n1 := hn 108
  have n2 := hn 7
  have n3 := hn 16
  have n4 := hn 36
  unfold mOwn mOwnR
  repeat' split
  · exact ⟨h0.kind, h0.seq, h0.time, by dsimp only; omega, h0.b, h0.text, h0.ex⟩
  · exact ⟨h0.kind, h0.seq, h0.time, h0.a, h0.b, hs 112, h0.ex⟩
  · exact ⟨h0.kind, h0.seq, h0.time, by dsimp only; omega, by dsimp only; omega, h0.text, h0.ex⟩
  · exact ⟨h0.kind, h0.seq, h0.time, by dsimp only; omega, h0.b, h0.text, h0.ex⟩
  · exact ⟨h0.kind, h0.seq, h0.time, h0.a, h0.b, h0.text, hx⟩
  · exact h0
set_option maxRecDepth 100000 in
set_option maxHeartbeats 10000000 in
theorem own_message5 (A : Option Addr) (c : Nat) (l : List Fld) (w : World) (h : Row w A (fcells l)) (hl : l.length ≤ 1000000) (hv : ∀ f ∈ l, f.val.size ≤ 1000000) (hctx : FCtx w) :
    Calls Tryd.prog 31 #[.slice A l.length c] w fun e w' => e = .returned (mOwn l).val ∧ Below w.heap.size w w' := by
  have HV := Lib.hid (fun (tag : Int) (bs : List (Nat × TypeId × Array Value)) (W : World) (hI : RI w bs W) => (own_value5 A c l tag W (h.on hI.below) hl).mono fun e W' ⟨he, hb⟩ => (show e = Ending.returned (.string (getV l tag)) ∧ RI w bs W' from ⟨he, hI.on hb⟩))
  have HN := Lib.hid (fun (tag : Int) (bs : List (Nat × TypeId × Array Value)) (W : World) (hI : RI w bs W) => (own_numberOf5 A c l tag W (h.on hI.below) hl (getV_size hv tag) (hctx.on hI.below)).mono fun e W' ⟨he, hb⟩ => (show e = Ending.returned (.int .i64 (numFV l tag)) ∧ RI w bs W' from ⟨he, hI.on hb⟩))
  have HB := Lib.hid (fun (tag : Int) (bs : List (Nat × TypeId × Array Value)) (W : World) (hI : RI w bs W) => (own_has5 A c l tag W (h.on hI.below) hl).mono fun e W' ⟨he, hb⟩ => (show e = Ending.returned (.bool (getB l tag)) ∧ RI w bs W' from ⟨he, hI.on hb⟩))
  have HE := Lib.hid (fun (bs : List (Nat × TypeId × Array Value)) (W : World) (hI : RI w bs W) => (own_execution5 A c l W (h.on hI.below) hl hv (hctx.on hI.below)).mono fun e W' ⟨he, hb⟩ => (show e = Ending.returned (xOwn l).val ∧ RI w bs W' from ⟨he, hI.on hb⟩))
  have HI := Lib.hid (fun (bs : List (Nat × TypeId × Array Value)) (W : World) (hI : RI w bs W) => (show Calls Tryd.prog 44 #[.string ⟨#[65, 48, 49, 50, 52, 53, 56]⟩, .string (getV l 35)] W fun e W' => e = Ending.returned (.int .i64 (Lib.index lettersL (getV l 35).data.toList)) ∧ RI w bs W' by
    obtain ⟨_, _, mm, hm⟩ := hctx.on hI.below
    exact (Tryd.strings_Index ⟨#[65, 48, 49, 50, 52, 53, 56]⟩ (getV l 35) mm W (by decide) hm).mono fun e W' ⟨he, hw⟩ => ⟨he, hw ▸ hI⟩))
  have HX := Lib.hid (show mOwn l = mOwnR l ⟨1 + Lib.index lettersL (getV l 35).data.toList, numFV l 34, numFV l 52, getB l 43, 0, 0, false, eS, Exc.zero⟩ from rfl)
  have hk := index_le5 lettersL (getV l 35).data.toList
  have hk7 : lettersL.length = 7 := rfl
  rw [hk7] at hk
  generalize hx1 : xOwn l = xx at *
  replace hx1 := Lib.hid hx1
  generalize Lib.index lettersL (getV l 35).data.toList = ix at *
  have H0 := (RI.start w).add 25 #[.int .i64 0, .int .i64 0, .int .i64 0, .bool false, .int .i64 0, .int .i64 0, .bool false, .string ⟨#[]⟩, .string ⟨#[]⟩, .string ⟨#[]⟩, .string ⟨#[]⟩, .string ⟨#[]⟩, .string ⟨#[]⟩, .int .i64 0, .bool false, .int .i64 0, .int .i64 0, .int .i64 0]
  generalize hn : l.length = n at *
  generalize hmo : mOwn l = mo at *
  replace hmo := Lib.hid hmo
  clear h hctx hv hk7
  go_enter Tryd.func31, Tryd.ntmps31
  go_upto_region 2 with (first | (go_at_call 45; refine (HV.out _ _ _ (by assumption)).mono ?_; go_must (rintro e W' ⟨rfl, hI⟩)) | (go_at_call 46; refine (HN.out _ _ _ (by assumption)).mono ?_; go_must (rintro e W' ⟨rfl, hI⟩)) | (go_at_call 47; refine (HB.out _ _ _ (by assumption)).mono ?_; go_must (rintro e W' ⟨rfl, hI⟩)) | (go_at_call 44; refine (HI.out _ _ (by assumption)).mono ?_; go_must (rintro e W' ⟨rfl, hI⟩)) | (refine ri_store rfl 25 _ _ rfl 0 #[.int .i64 (1 + ix), .int .i64 (numFV l 34), .int .i64 (numFV l 52), .bool (getB l 43), .int .i64 0, .int .i64 0, .bool false, .string ⟨#[]⟩, .string ⟨#[]⟩, .string ⟨#[]⟩, .string ⟨#[]⟩, .string ⟨#[]⟩, .string ⟨#[]⟩, .int .i64 0, .bool false, .int .i64 0, .int .i64 0, .int .i64 0] rfl rfl (RI.add (by assumption) 25 #[.int .i64 0, .int .i64 0, .int .i64 0, .bool false, .int .i64 0, .int .i64 0, .bool false, .string ⟨#[]⟩, .string ⟨#[]⟩, .string ⟨#[]⟩, .string ⟨#[]⟩, .string ⟨#[]⟩, .string ⟨#[]⟩, .int .i64 0, .bool false, .int .i64 0, .int .i64 0, .int .i64 0]) (Nat.le_refl 18) infoM (arr_one ⟨1 + ix, numFV l 34, numFV l 52, getB l 43, 0, 0, false, ⟨#[]⟩, Exc.zero⟩) ?_; go_must (intro w9 hI9; have hI9' := Lib.hid hI9; clear hI9; simp [setAll] at hI9')))
  generalize W'.heap.size = gm at *
  have hq0 := hI9'.out.bx.cell 0
  simp at hq0
  obtain ⟨kd, hkd⟩ : ∃ kd, kd = 1 + ix := ⟨_, rfl⟩
  have hk8 : 0 ≤ kd ∧ kd ≤ 8 := by omega
  rw [← hkd] at HX hI9' hq0 ⊢
  have HI9 := Lib.hid hI9'.out
  clear hI9' HI H0 hk hkd
  have FIN := Lib.hid (fun (v : Value) (W : World) (bs : List (Nat × TypeId × Array Value)) (hv : v = mo.val) (h : RI w bs W) => (show Ending.returned v = Ending.returned mo.val ∧ Below w.heap.size w W from ⟨by rw [hv], h.below⟩))
  rcases (show kd = 1 ∨ kd = 2 ∨ kd = 3 ∨ kd = 4 ∨ kd = 5 ∨ kd = 7 ∨ kd = 0 ∨ kd = 6 ∨ kd = 8 by omega) with rfl | rfl | rfl | rfl | rfl | rfl | rfl | rfl | rfl
  · skip
    go_wp2_with fail
    refine (HN.out _ _ _ HI9.out).mono ?_
    rintro e W8 ⟨rfl, hI⟩
    replace HI9 := Lib.hid hI
    clear hI
    have q4 := HI9.out.bx.cell 4
    have f4 := HI9.out.bx.free 4
    simp at q4
    go_upto_region 14 with fail
    replace HI9 := Lib.hid (HI9.out.set 4 (.int .i64 (numFV l 108)))
    simp at HI9
    clear q4 f4
    go_wp2_with (first | (refine wpList_load_row rfl 25 (.tmp 3) rfl gm rfl 25 #[.int .i64 1, .int .i64 (numFV l 34), .int .i64 (numFV l 52), .bool (getB l 43), .int .i64 (numFV l 108), .int .i64 (0), .bool (false), .string ⟨#[]⟩, .string ⟨#[]⟩, .string ⟨#[]⟩, .string ⟨#[]⟩, .string ⟨#[]⟩, .string ⟨#[]⟩, .int .i64 0, .bool false, .int .i64 0, .int .i64 0, .int .i64 0] (0, 0) _ HI9.out.bx Tryd.underlying25 rfl infoM ?_) | (refine ri_store rfl 25 (.tmp 2) (.tmp 49) rfl 0 #[.int .i64 1, .int .i64 (numFV l 34), .int .i64 (numFV l 52), .bool (getB l 43), .int .i64 (numFV l 108), .int .i64 (0), .bool (false), .string ⟨#[]⟩, .string ⟨#[]⟩, .string ⟨#[]⟩, .string ⟨#[]⟩, .string ⟨#[]⟩, .string ⟨#[]⟩, .int .i64 0, .bool false, .int .i64 0, .int .i64 0, .int .i64 0] rfl rfl HI9.out.swap (Nat.le_refl 18) infoM (arr_one ⟨1, numFV l 34, numFV l 52, getB l 43, numFV l 108, 0, false, ⟨#[]⟩, Exc.zero⟩) ?_; go_must (intro w8 hI8; have HI8 := Lib.hid hI8; clear hI8 HI9; simp [setAll] at HI8)))
    refine bodyPost_ret (results_cell_row (p := 2) (ty := 25) Tryd.results31 _ _ w.heap.size 25 #[.int .i64 1, .int .i64 (numFV l 34), .int .i64 (numFV l 52), .bool (getB l 43), .int .i64 (numFV l 108), .int .i64 (0), .bool (false), .string ⟨#[]⟩, .string ⟨#[]⟩, .string ⟨#[]⟩, .string ⟨#[]⟩, .string ⟨#[]⟩, .string ⟨#[]⟩, .int .i64 0, .bool false, .int .i64 0, .int .i64 0, .int .i64 0] (0, 0) _ rfl HI8.out.bx Tryd.underlying25 rfl infoM) rfl ?_
    exact FIN.out _ _ _ (by rw [HX.out]; rfl) HI8.out
  · skip
    go_wp2_with fail
    refine (HV.out _ _ _ HI9.out).mono ?_
    rintro e W8 ⟨rfl, hI⟩
    replace HI9 := Lib.hid hI
    clear hI
    have q7 := HI9.out.bx.cell 7
    have f7 := HI9.out.bx.free 7
    simp at q7
    go_upto_region 14 with fail
    replace HI9 := Lib.hid (HI9.out.set 7 (.string (getV l 112)))
    simp at HI9
    clear q7 f7
    go_wp2_with (first | (refine wpList_load_row rfl 25 (.tmp 3) rfl gm rfl 25 #[.int .i64 2, .int .i64 (numFV l 34), .int .i64 (numFV l 52), .bool (getB l 43), .int .i64 (0), .int .i64 (0), .bool (false), .string (getV l 112), .string ⟨#[]⟩, .string ⟨#[]⟩, .string ⟨#[]⟩, .string ⟨#[]⟩, .string ⟨#[]⟩, .int .i64 0, .bool false, .int .i64 0, .int .i64 0, .int .i64 0] (0, 0) _ HI9.out.bx Tryd.underlying25 rfl infoM ?_) | (refine ri_store rfl 25 (.tmp 2) (.tmp 49) rfl 0 #[.int .i64 2, .int .i64 (numFV l 34), .int .i64 (numFV l 52), .bool (getB l 43), .int .i64 (0), .int .i64 (0), .bool (false), .string (getV l 112), .string ⟨#[]⟩, .string ⟨#[]⟩, .string ⟨#[]⟩, .string ⟨#[]⟩, .string ⟨#[]⟩, .int .i64 0, .bool false, .int .i64 0, .int .i64 0, .int .i64 0] rfl rfl HI9.out.swap (Nat.le_refl 18) infoM (arr_one ⟨2, numFV l 34, numFV l 52, getB l 43, 0, 0, false, (getV l 112), Exc.zero⟩) ?_; go_must (intro w8 hI8; have HI8 := Lib.hid hI8; clear hI8 HI9; simp [setAll] at HI8)))
    refine bodyPost_ret (results_cell_row (p := 2) (ty := 25) Tryd.results31 _ _ w.heap.size 25 #[.int .i64 2, .int .i64 (numFV l 34), .int .i64 (numFV l 52), .bool (getB l 43), .int .i64 (0), .int .i64 (0), .bool (false), .string (getV l 112), .string ⟨#[]⟩, .string ⟨#[]⟩, .string ⟨#[]⟩, .string ⟨#[]⟩, .string ⟨#[]⟩, .int .i64 0, .bool false, .int .i64 0, .int .i64 0, .int .i64 0] (0, 0) _ rfl HI8.out.bx Tryd.underlying25 rfl infoM) rfl ?_
    exact FIN.out _ _ _ (by rw [HX.out]; rfl) HI8.out
  · skip
    go_wp2_with fail
    refine (HV.out _ _ _ HI9.out).mono ?_
    rintro e W8 ⟨rfl, hI⟩
    replace HI9 := Lib.hid hI
    clear hI
    have q7 := HI9.out.bx.cell 7
    have f7 := HI9.out.bx.free 7
    simp at q7
    go_upto_region 14 with fail
    replace HI9 := Lib.hid (HI9.out.set 7 (.string (getV l 112)))
    simp at HI9
    clear q7 f7
    go_wp2_with (first | (refine wpList_load_row rfl 25 (.tmp 3) rfl gm rfl 25 #[.int .i64 3, .int .i64 (numFV l 34), .int .i64 (numFV l 52), .bool (getB l 43), .int .i64 (0), .int .i64 (0), .bool (false), .string (getV l 112), .string ⟨#[]⟩, .string ⟨#[]⟩, .string ⟨#[]⟩, .string ⟨#[]⟩, .string ⟨#[]⟩, .int .i64 0, .bool false, .int .i64 0, .int .i64 0, .int .i64 0] (0, 0) _ HI9.out.bx Tryd.underlying25 rfl infoM ?_) | (refine ri_store rfl 25 (.tmp 2) (.tmp 49) rfl 0 #[.int .i64 3, .int .i64 (numFV l 34), .int .i64 (numFV l 52), .bool (getB l 43), .int .i64 (0), .int .i64 (0), .bool (false), .string (getV l 112), .string ⟨#[]⟩, .string ⟨#[]⟩, .string ⟨#[]⟩, .string ⟨#[]⟩, .string ⟨#[]⟩, .int .i64 0, .bool false, .int .i64 0, .int .i64 0, .int .i64 0] rfl rfl HI9.out.swap (Nat.le_refl 18) infoM (arr_one ⟨3, numFV l 34, numFV l 52, getB l 43, 0, 0, false, (getV l 112), Exc.zero⟩) ?_; go_must (intro w8 hI8; have HI8 := Lib.hid hI8; clear hI8 HI9; simp [setAll] at HI8)))
    refine bodyPost_ret (results_cell_row (p := 2) (ty := 25) Tryd.results31 _ _ w.heap.size 25 #[.int .i64 3, .int .i64 (numFV l 34), .int .i64 (numFV l 52), .bool (getB l 43), .int .i64 (0), .int .i64 (0), .bool (false), .string (getV l 112), .string ⟨#[]⟩, .string ⟨#[]⟩, .string ⟨#[]⟩, .string ⟨#[]⟩, .string ⟨#[]⟩, .int .i64 0, .bool false, .int .i64 0, .int .i64 0, .int .i64 0] (0, 0) _ rfl HI8.out.bx Tryd.underlying25 rfl infoM) rfl ?_
    exact FIN.out _ _ _ (by rw [HX.out]; rfl) HI8.out
  · skip
    go_wp2_with fail
    refine (HN.out _ _ _ HI9.out).mono ?_
    rintro e W8 ⟨rfl, hI⟩
    replace HI9 := Lib.hid hI
    clear hI
    go_wp2_with fail
    refine (HN.out _ _ _ HI9.out).mono ?_
    rintro e W8 ⟨rfl, hI⟩
    replace HI9 := Lib.hid hI
    clear hI
    have q4 := HI9.out.bx.cell 4
    have f4 := HI9.out.bx.free 4
    have q5 := HI9.out.bx.cell 5
    have f5 := HI9.out.bx.free 5
    simp at q4 q5
    go_upto_region 14 with fail
    replace HI9 := Lib.hid ((HI9.out.set 4 (.int .i64 (numFV l 7))).set 5 (.int .i64 (numFV l 16)))
    simp at HI9
    clear q4 f4 q5 f5
    go_wp2_with (first | (refine wpList_load_row rfl 25 (.tmp 3) rfl gm rfl 25 #[.int .i64 4, .int .i64 (numFV l 34), .int .i64 (numFV l 52), .bool (getB l 43), .int .i64 (numFV l 7), .int .i64 (numFV l 16), .bool (false), .string ⟨#[]⟩, .string ⟨#[]⟩, .string ⟨#[]⟩, .string ⟨#[]⟩, .string ⟨#[]⟩, .string ⟨#[]⟩, .int .i64 0, .bool false, .int .i64 0, .int .i64 0, .int .i64 0] (0, 0) _ HI9.out.bx Tryd.underlying25 rfl infoM ?_) | (refine ri_store rfl 25 (.tmp 2) (.tmp 49) rfl 0 #[.int .i64 4, .int .i64 (numFV l 34), .int .i64 (numFV l 52), .bool (getB l 43), .int .i64 (numFV l 7), .int .i64 (numFV l 16), .bool (false), .string ⟨#[]⟩, .string ⟨#[]⟩, .string ⟨#[]⟩, .string ⟨#[]⟩, .string ⟨#[]⟩, .string ⟨#[]⟩, .int .i64 0, .bool false, .int .i64 0, .int .i64 0, .int .i64 0] rfl rfl HI9.out.swap (Nat.le_refl 18) infoM (arr_one ⟨4, numFV l 34, numFV l 52, getB l 43, numFV l 7, numFV l 16, false, ⟨#[]⟩, Exc.zero⟩) ?_; go_must (intro w8 hI8; have HI8 := Lib.hid hI8; clear hI8 HI9; simp [setAll] at HI8)))
    refine bodyPost_ret (results_cell_row (p := 2) (ty := 25) Tryd.results31 _ _ w.heap.size 25 #[.int .i64 4, .int .i64 (numFV l 34), .int .i64 (numFV l 52), .bool (getB l 43), .int .i64 (numFV l 7), .int .i64 (numFV l 16), .bool (false), .string ⟨#[]⟩, .string ⟨#[]⟩, .string ⟨#[]⟩, .string ⟨#[]⟩, .string ⟨#[]⟩, .string ⟨#[]⟩, .int .i64 0, .bool false, .int .i64 0, .int .i64 0, .int .i64 0] (0, 0) _ rfl HI8.out.bx Tryd.underlying25 rfl infoM) rfl ?_
    exact FIN.out _ _ _ (by rw [HX.out]; rfl) HI8.out
  · skip
    go_wp2_with fail
    refine (HN.out _ _ _ HI9.out).mono ?_
    rintro e W8 ⟨rfl, hI⟩
    replace HI9 := Lib.hid hI
    clear hI
    go_wp2_with fail
    refine (HB.out _ _ _ HI9.out).mono ?_
    rintro e W8 ⟨rfl, hI⟩
    replace HI9 := Lib.hid hI
    clear hI
    have q4 := HI9.out.bx.cell 4
    have f4 := HI9.out.bx.free 4
    have q6 := HI9.out.bx.cell 6
    have f6 := HI9.out.bx.free 6
    simp at q4 q6
    go_upto_region 14 with fail
    replace HI9 := Lib.hid ((HI9.out.set 4 (.int .i64 (numFV l 36))).set 6 (.bool (getB l 123)))
    simp at HI9
    clear q4 f4 q6 f6
    go_wp2_with (first | (refine wpList_load_row rfl 25 (.tmp 3) rfl gm rfl 25 #[.int .i64 5, .int .i64 (numFV l 34), .int .i64 (numFV l 52), .bool (getB l 43), .int .i64 (numFV l 36), .int .i64 (0), .bool (getB l 123), .string ⟨#[]⟩, .string ⟨#[]⟩, .string ⟨#[]⟩, .string ⟨#[]⟩, .string ⟨#[]⟩, .string ⟨#[]⟩, .int .i64 0, .bool false, .int .i64 0, .int .i64 0, .int .i64 0] (0, 0) _ HI9.out.bx Tryd.underlying25 rfl infoM ?_) | (refine ri_store rfl 25 (.tmp 2) (.tmp 49) rfl 0 #[.int .i64 5, .int .i64 (numFV l 34), .int .i64 (numFV l 52), .bool (getB l 43), .int .i64 (numFV l 36), .int .i64 (0), .bool (getB l 123), .string ⟨#[]⟩, .string ⟨#[]⟩, .string ⟨#[]⟩, .string ⟨#[]⟩, .string ⟨#[]⟩, .string ⟨#[]⟩, .int .i64 0, .bool false, .int .i64 0, .int .i64 0, .int .i64 0] rfl rfl HI9.out.swap (Nat.le_refl 18) infoM (arr_one ⟨5, numFV l 34, numFV l 52, getB l 43, numFV l 36, 0, getB l 123, ⟨#[]⟩, Exc.zero⟩) ?_; go_must (intro w8 hI8; have HI8 := Lib.hid hI8; clear hI8 HI9; simp [setAll] at HI8)))
    refine bodyPost_ret (results_cell_row (p := 2) (ty := 25) Tryd.results31 _ _ w.heap.size 25 #[.int .i64 5, .int .i64 (numFV l 34), .int .i64 (numFV l 52), .bool (getB l 43), .int .i64 (numFV l 36), .int .i64 (0), .bool (getB l 123), .string ⟨#[]⟩, .string ⟨#[]⟩, .string ⟨#[]⟩, .string ⟨#[]⟩, .string ⟨#[]⟩, .string ⟨#[]⟩, .int .i64 0, .bool false, .int .i64 0, .int .i64 0, .int .i64 0] (0, 0) _ rfl HI8.out.bx Tryd.underlying25 rfl infoM) rfl ?_
    exact FIN.out _ _ _ (by rw [HX.out]; rfl) HI8.out
  · skip
    go_wp2_with fail
    refine (HE.out _ _ HI9.out).mono ?_
    rintro e W8 ⟨rfl, hI⟩
    replace HI9 := Lib.hid hI
    clear hI
    unfold Exc.val
    go_upto_region 14 with (first | (refine ri_store rfl 23 (.tmp 48) (.tmp 47) rfl 8 #[.string xx.id, .string xx.ref, .string xx.order, .string xx.account, .string xx.symbol, .int .i64 xx.kind, .bool xx.buy, .int .i64 xx.qty, .int .i64 xx.price, .int .i64 xx.time] rfl rfl HI9.out (Nat.le_refl 18) infoX (xarr_one xx) ?_; go_must (intro w7 hI7; clear HI9; have HI9 := Lib.hid hI7; clear hI7; simp [setAll] at HI9)))
    go_wp2_with (first | (refine wpList_load_row rfl 25 (.tmp 3) rfl gm rfl 25 #[.int .i64 7, .int .i64 (numFV l 34), .int .i64 (numFV l 52), .bool (getB l 43), .int .i64 (0), .int .i64 (0), .bool (false), .string ⟨#[]⟩, .string xx.id, .string xx.ref, .string xx.order, .string xx.account, .string xx.symbol, .int .i64 xx.kind, .bool xx.buy, .int .i64 xx.qty, .int .i64 xx.price, .int .i64 xx.time] (0, 0) _ HI9.out.bx Tryd.underlying25 rfl infoM ?_) | (refine ri_store rfl 25 (.tmp 2) (.tmp 49) rfl 0 #[.int .i64 7, .int .i64 (numFV l 34), .int .i64 (numFV l 52), .bool (getB l 43), .int .i64 (0), .int .i64 (0), .bool (false), .string ⟨#[]⟩, .string xx.id, .string xx.ref, .string xx.order, .string xx.account, .string xx.symbol, .int .i64 xx.kind, .bool xx.buy, .int .i64 xx.qty, .int .i64 xx.price, .int .i64 xx.time] rfl rfl HI9.out.swap (Nat.le_refl 18) infoM (arr_one ⟨7, numFV l 34, numFV l 52, getB l 43, 0, 0, false, ⟨#[]⟩, xx⟩) ?_; go_must (intro w8 hI8; have HI8 := Lib.hid hI8; clear hI8 HI9; simp [setAll] at HI8)))
    refine bodyPost_ret (results_cell_row (p := 2) (ty := 25) Tryd.results31 _ _ w.heap.size 25 #[.int .i64 7, .int .i64 (numFV l 34), .int .i64 (numFV l 52), .bool (getB l 43), .int .i64 (0), .int .i64 (0), .bool (false), .string ⟨#[]⟩, .string xx.id, .string xx.ref, .string xx.order, .string xx.account, .string xx.symbol, .int .i64 xx.kind, .bool xx.buy, .int .i64 xx.qty, .int .i64 xx.price, .int .i64 xx.time] (0, 0) _ rfl HI8.out.bx Tryd.underlying25 rfl infoM) rfl ?_
    exact FIN.out _ _ _ (by rw [HX.out, ← hx1.out]; rfl) HI8.out
  · skip
    go_upto_region 14 with fail
    go_wp2_with (first | (refine wpList_load_row rfl 25 (.tmp 3) rfl gm rfl 25 #[.int .i64 0, .int .i64 (numFV l 34), .int .i64 (numFV l 52), .bool (getB l 43), .int .i64 (0), .int .i64 (0), .bool (false), .string ⟨#[]⟩, .string ⟨#[]⟩, .string ⟨#[]⟩, .string ⟨#[]⟩, .string ⟨#[]⟩, .string ⟨#[]⟩, .int .i64 0, .bool false, .int .i64 0, .int .i64 0, .int .i64 0] (0, 0) _ HI9.out.bx Tryd.underlying25 rfl infoM ?_) | (refine ri_store rfl 25 (.tmp 2) (.tmp 49) rfl 0 #[.int .i64 0, .int .i64 (numFV l 34), .int .i64 (numFV l 52), .bool (getB l 43), .int .i64 (0), .int .i64 (0), .bool (false), .string ⟨#[]⟩, .string ⟨#[]⟩, .string ⟨#[]⟩, .string ⟨#[]⟩, .string ⟨#[]⟩, .string ⟨#[]⟩, .int .i64 0, .bool false, .int .i64 0, .int .i64 0, .int .i64 0] rfl rfl HI9.out.swap (Nat.le_refl 18) infoM (arr_one ⟨0, numFV l 34, numFV l 52, getB l 43, 0, 0, false, ⟨#[]⟩, Exc.zero⟩) ?_; go_must (intro w8 hI8; have HI8 := Lib.hid hI8; clear hI8 HI9; simp [setAll] at HI8)))
    refine bodyPost_ret (results_cell_row (p := 2) (ty := 25) Tryd.results31 _ _ w.heap.size 25 #[.int .i64 0, .int .i64 (numFV l 34), .int .i64 (numFV l 52), .bool (getB l 43), .int .i64 (0), .int .i64 (0), .bool (false), .string ⟨#[]⟩, .string ⟨#[]⟩, .string ⟨#[]⟩, .string ⟨#[]⟩, .string ⟨#[]⟩, .string ⟨#[]⟩, .int .i64 0, .bool false, .int .i64 0, .int .i64 0, .int .i64 0] (0, 0) _ rfl HI8.out.bx Tryd.underlying25 rfl infoM) rfl ?_
    exact FIN.out _ _ _ (by rw [HX.out]; rfl) HI8.out
  · skip
    go_upto_region 14 with fail
    go_wp2_with (first | (refine wpList_load_row rfl 25 (.tmp 3) rfl gm rfl 25 #[.int .i64 6, .int .i64 (numFV l 34), .int .i64 (numFV l 52), .bool (getB l 43), .int .i64 (0), .int .i64 (0), .bool (false), .string ⟨#[]⟩, .string ⟨#[]⟩, .string ⟨#[]⟩, .string ⟨#[]⟩, .string ⟨#[]⟩, .string ⟨#[]⟩, .int .i64 0, .bool false, .int .i64 0, .int .i64 0, .int .i64 0] (0, 0) _ HI9.out.bx Tryd.underlying25 rfl infoM ?_) | (refine ri_store rfl 25 (.tmp 2) (.tmp 49) rfl 0 #[.int .i64 6, .int .i64 (numFV l 34), .int .i64 (numFV l 52), .bool (getB l 43), .int .i64 (0), .int .i64 (0), .bool (false), .string ⟨#[]⟩, .string ⟨#[]⟩, .string ⟨#[]⟩, .string ⟨#[]⟩, .string ⟨#[]⟩, .string ⟨#[]⟩, .int .i64 0, .bool false, .int .i64 0, .int .i64 0, .int .i64 0] rfl rfl HI9.out.swap (Nat.le_refl 18) infoM (arr_one ⟨6, numFV l 34, numFV l 52, getB l 43, 0, 0, false, ⟨#[]⟩, Exc.zero⟩) ?_; go_must (intro w8 hI8; have HI8 := Lib.hid hI8; clear hI8 HI9; simp [setAll] at HI8)))
    refine bodyPost_ret (results_cell_row (p := 2) (ty := 25) Tryd.results31 _ _ w.heap.size 25 #[.int .i64 6, .int .i64 (numFV l 34), .int .i64 (numFV l 52), .bool (getB l 43), .int .i64 (0), .int .i64 (0), .bool (false), .string ⟨#[]⟩, .string ⟨#[]⟩, .string ⟨#[]⟩, .string ⟨#[]⟩, .string ⟨#[]⟩, .string ⟨#[]⟩, .int .i64 0, .bool false, .int .i64 0, .int .i64 0, .int .i64 0] (0, 0) _ rfl HI8.out.bx Tryd.underlying25 rfl infoM) rfl ?_
    exact FIN.out _ _ _ (by rw [HX.out]; rfl) HI8.out
  · skip
    go_upto_region 14 with fail
    go_wp2_with (first | (refine wpList_load_row rfl 25 (.tmp 3) rfl gm rfl 25 #[.int .i64 8, .int .i64 (numFV l 34), .int .i64 (numFV l 52), .bool (getB l 43), .int .i64 (0), .int .i64 (0), .bool (false), .string ⟨#[]⟩, .string ⟨#[]⟩, .string ⟨#[]⟩, .string ⟨#[]⟩, .string ⟨#[]⟩, .string ⟨#[]⟩, .int .i64 0, .bool false, .int .i64 0, .int .i64 0, .int .i64 0] (0, 0) _ HI9.out.bx Tryd.underlying25 rfl infoM ?_) | (refine ri_store rfl 25 (.tmp 2) (.tmp 49) rfl 0 #[.int .i64 8, .int .i64 (numFV l 34), .int .i64 (numFV l 52), .bool (getB l 43), .int .i64 (0), .int .i64 (0), .bool (false), .string ⟨#[]⟩, .string ⟨#[]⟩, .string ⟨#[]⟩, .string ⟨#[]⟩, .string ⟨#[]⟩, .string ⟨#[]⟩, .int .i64 0, .bool false, .int .i64 0, .int .i64 0, .int .i64 0] rfl rfl HI9.out.swap (Nat.le_refl 18) infoM (arr_one ⟨8, numFV l 34, numFV l 52, getB l 43, 0, 0, false, ⟨#[]⟩, Exc.zero⟩) ?_; go_must (intro w8 hI8; have HI8 := Lib.hid hI8; clear hI8 HI9; simp [setAll] at HI8)))
    refine bodyPost_ret (results_cell_row (p := 2) (ty := 25) Tryd.results31 _ _ w.heap.size 25 #[.int .i64 8, .int .i64 (numFV l 34), .int .i64 (numFV l 52), .bool (getB l 43), .int .i64 (0), .int .i64 (0), .bool (false), .string ⟨#[]⟩, .string ⟨#[]⟩, .string ⟨#[]⟩, .string ⟨#[]⟩, .string ⟨#[]⟩, .string ⟨#[]⟩, .int .i64 0, .bool false, .int .i64 0, .int .i64 0, .int .i64 0] (0, 0) _ rfl HI8.out.bx Tryd.underlying25 rfl infoM) rfl ?_
    exact FIN.out _ _ _ (by rw [HX.out]; rfl) HI8.out
end Go.Proofs.YtcfpchcbiknehaaDoorR
