/-
  Layer 5, msg: the document's own way: an execution's fields are taken.
-/
import Derived.Test.YtioagepalfiioaaDoorMsgTake
import Derived.Deep.DeepCutAuto
import Derived.Deep.MidRow
namespace Go.Proofs.YtioagepalfiioaaDoor
open Go.RowKit

/-- A taker, and what else lies in memory. -/
structure XI (W0 w0 : World) (g : Nat) (A : Option Addr) (n c : Nat) (l : List Fld) (s : Tk) (bs : List (Nat × TypeId × Array Value)) (W : World) : Prop where
  tk : TkI w0 g A n c l s W
  box : ∀ b ∈ bs, Box W b.1 b.2.1 b.2.2
  new : ∀ b ∈ bs, W0.heap.size ≤ b.1 ∧ b.1 ≠ g ∧ w0.heap.size ≤ b.1
  nd : (bs.map (·.1)).Nodup
  grown : W0.grownBy W (some g)
variable {W0 w0 : World} {g : Nat} {A : Option Addr} {n c : Nat} {l : List Fld} {s : Tk} {bs : List (Nat × TypeId × Array Value)} {W : World}
theorem XI.bx {gx : Nat} {t : TypeId} {cs : Array Value} (h : XI W0 w0 g A n c l s ((gx, t, cs) :: bs) W) : Box W gx t cs := h.box _ (List.mem_cons_self ..)
theorem XI.call {s' : Tk} {v : Value} {e : Ending} {W' : World} (h : XI W0 w0 g A n c l s bs W) (hp : TkPost w0 g A n c l v s' W e W') : XI W0 w0 g A n c l s' bs W' :=
  ⟨hp.2.1, fun b hb => (h.box b hb).grownBy hp.2.2 (h.new b hb).2.1, h.new, h.nd, grown_trans h.grown hp.2.2⟩
theorem XI.sets {gx : Nat} {t : TypeId} {cs : Array Value} (h : XI W0 w0 g A n c l s ((gx, t, cs) :: bs) W) (o : Nat) (vs : List Value) : XI W0 w0 g A n c l s ((gx, t, setAll cs o vs) :: bs) (W.setCells gx o vs) := by
  have hn := h.new _ (List.mem_cons_self ..)
  have hnd := List.nodup_cons.1 (show (gx :: bs.map (·.1)).Nodup from h.nd)
  refine ⟨?_, fun b hb => ?_, fun b hb => ?_, h.nd, grown_sets gx hn.1 vs o h.grown⟩
  · obtain ⟨⟨p, b, hb, h1, h2⟩, h3, h4⟩ := h.tk
    exact ⟨⟨p, b, (block_sets gx vs W o g (Ne.symm hn.2.1)).trans hb, h1, h2⟩, h3, below_sets hn.2.2 vs o h4⟩
  · rcases List.mem_cons.1 hb with rfl | hb
    · exact h.bx.sets vs o
    · have hne : b.1 ≠ gx := fun e => hnd.1 (List.mem_map.2 ⟨b, hb, e⟩)
      exact (block_sets gx vs W o b.1 hne).trans (h.box b (List.mem_cons_of_mem _ hb))
  · rcases List.mem_cons.1 hb with rfl | hb
    · exact hn
    · exact h.new b (List.mem_cons_of_mem _ hb)
theorem XI.set {gx : Nat} {t : TypeId} {cs : Array Value} (h : XI W0 w0 g A n c l s ((gx, t, cs) :: bs) W) (o : Nat) (v : Value) : XI W0 w0 g A n c l s ((gx, t, cs.setIfInBounds o v) :: bs) (W.setCell ⟨gx, o, none⟩ v) := h.sets o [v]
theorem XI.swap {b b' : Nat × TypeId × Array Value} (h : XI W0 w0 g A n c l s (b :: b' :: bs) W) : XI W0 w0 g A n c l s (b' :: b :: bs) W := by
  have hm : ∀ x, x ∈ b' :: b :: bs → x ∈ b :: b' :: bs := fun x hx => by
    simp only [List.mem_cons] at hx ⊢
    rcases hx with h1 | h1 | h1
    · exact .inr (.inl h1)
    · exact .inl h1
    · exact .inr (.inr h1)
  refine ⟨h.tk, fun x hx => h.box x (hm x hx), fun x hx => h.new x (hm x hx), ?_, h.grown⟩
  have := h.nd
  simp only [List.map_cons, List.nodup_cons, List.mem_cons, not_or] at this ⊢
  exact ⟨⟨fun e => this.1.1 e.symm, this.2.1⟩, this.1.2, this.2.2⟩
theorem XI.bad (h : XI W0 w0 g A n c l s bs W) : ∃ (p : Nat) (b : Bool), Box W g 45 #[.slice A n c, .int .i64 (p : Nat), .bool b] ∧ XI W0 w0 g A n c l (s.bad true) bs (W.setCell ⟨g, 2, none⟩ (.bool true)) := by
  obtain ⟨⟨p, b, hb, h1, h2⟩, h3, h4⟩ := h.tk
  refine ⟨p, b, hb, ?_⟩
  have hbad : (s.bad true) = ⟨l.drop p, !true⟩ := by rw [h2]; simp [Tk.bad]
  have ht : TkI w0 g A n c l (s.bad true) (W.setCell ⟨g, 2, none⟩ (.bool true)) := ⟨⟨p, true, hb.set 2 _, h1, hbad⟩, h3, grown_from h4 h4.size h3 (grown_set W g 2 _)⟩
  exact ⟨ht, fun x hx => (h.box x hx).grownBy (grown_set W g 2 _) (h.new x hx).2.1, h.new, h.nd, grown_trans h.grown (grown_set W g 2 _)⟩
theorem Tk.bad_false (s : Tk) : s.bad false = s := by unfold Tk.bad; simp
theorem XI.start (hI : TkI w0 g A n c l s W) : XI W w0 g A n c l s [] W := ⟨hI, (fun b hb => by cases hb), (fun b hb => by cases hb), List.nodup_nil, ⟨rfl, rfl, rfl, Nat.le_refl _, fun _ _ _ => rfl⟩⟩
theorem XI.lt (h : XI W0 w0 g A n c l s bs W) : g < W.heap.size := by obtain ⟨⟨p, b, hb, _, _⟩, _, _⟩ := h.tk; exact hb.lt
theorem XI.alloc (h : XI W0 w0 g A n c l s bs W) (t : TypeId) (cs : Array Value) : XI W0 w0 g A n c l s ((W.heap.size, t, cs) :: bs) (W.alloc (.cells cs t)) := by
  have hb : Below W.heap.size W (W.alloc (.cells cs t)) := (Below.refl _ _).alloc (Nat.le_refl _) _
  have hlt := h.lt
  refine ⟨?_, fun b hm => ?_, fun b hm => ?_, ?_, grown_trans h.grown (grown_below hb)⟩
  · obtain ⟨⟨p, b, hx, h1, h2⟩, h3, h4⟩ := h.tk
    exact ⟨⟨p, b, hx.on hb, h1, h2⟩, h3, h4.trans (hb.mono h4.size)⟩
  · rcases List.mem_cons.1 hm with rfl | hm
    · exact Box.new _ _ _
    · exact (h.box b hm).on hb
  · rcases List.mem_cons.1 hm with rfl | hm
    · exact ⟨h.grown.size, by show W.heap.size ≠ g; omega, h.tk.below.size⟩
    · exact h.new b hm
  · refine List.nodup_cons.2 ⟨fun hm => ?_, h.nd⟩
    obtain ⟨b, hb', e⟩ := List.mem_map.1 hm
    have := (h.box b hb').lt
    have e : b.1 = W.heap.size := e
    omega
theorem XI.post {W' : World} (h : XI W w0 g A n c l s bs W') {v : Value} {e : Ending} (he : e = .returned v) : TkPost w0 g A n c l v s W e W' := ⟨he, h.tk, h.grown⟩
/-- A whole struct is stored: what is known of the world behind it. -/
theorem list_store {ops : Array Oper} {rest : List Oper} {op : Oper} {a : Act} {Q : Exit → Act → World → Prop} (hgd : op.guard = none) (ty : TypeId) (x y : Operand) (ho : op.op = .store ty x y)
    {gx off : Nat} {t : TypeId} {cs : Array Value} (vs : Array Value) (hx : a.eval x = .pointer (some ⟨gx, off, none⟩)) (hy : a.eval y = .agg vs) (h : XI W0 w0 g A n c l s ((gx, t, cs) :: bs) W) (hsz : off + vs.size ≤ cs.size)
    (hi : (Tryd.prog.info? ty).map (·.size) = some vs.size) (h1 : vs.all (·.oneCell') = true)
    (hk : ∀ w', XI W0 w0 g A n c l s ((gx, t, setAll cs off vs.toList) :: bs) w' → wpList Tryd.prog ops Q rest (a.put op.dst undef) w') : wpList Tryd.prog ops Q (op :: rest) a W :=
  wpList_store_mid hgd ty x y ho gx off vs hx hy (there_box h.bx off vs.size hsz) hi h1 (hk _ (h.sets off vs.toList))
theorem str_lit (s : ByteArray) (d : UInt8) : (s.toList == [d]) = decide (s = ⟨#[d]⟩) := by
  have h := str_dec s ⟨#[d]⟩
  rw [← h]
  simp [ByteArray.toList_eq]
set_option maxRecDepth 100000 in
set_option maxHeartbeats 2000000 in
theorem tk_exec (w0 : World) (g : Nat) (A : Option Addr) (n c : Nat) (l : List Fld) (s : Tk) (W : World) (hl : Sl w0 A n c 2 (fcells l)) (hn : l.length = n) (hn1 : n ≤ 1000000) (hv : ∀ f ∈ l, f.val.size ≤ 1000000) (hI : TkI w0 g A n c l s W) :
    Calls Tryd.prog 16 #[.pointer (some ⟨g, 0, none⟩)] W (TkPost w0 g A n c l (exRead s).1.val (exRead s).2 W) := by
  have X := ((XI.start hI).alloc 25 #[.string ⟨#[]⟩, .string ⟨#[]⟩, .string ⟨#[]⟩, .string ⟨#[]⟩, .string ⟨#[]⟩, .int .i64 0, .bool false, .int .i64 0, .int .i64 0, .int .i64 0]).alloc 25 #[.string ⟨#[]⟩, .string ⟨#[]⟩, .string ⟨#[]⟩, .string ⟨#[]⟩, .string ⟨#[]⟩, .int .i64 0, .bool false, .int .i64 0, .int .i64 0, .int .i64 0]
  rw [World.size_alloc] at X
  clear hI
  have HT := fun (s : Tk) (t : Int) (W' : World) (h : TkI w0 g A n c l s W') => tk_take w0 g A n c l s t W' hl hn hn1 h
  have HM := fun (s : Tk) (t : Int) (W' : World) (h : TkI w0 g A n c l s W') => tk_maybe w0 g A n c l s t W' hl hn hn1 h
  have HN := fun (s : Tk) (t : Int) (W' : World) (h : TkI w0 g A n c l s W') => tk_number w0 g A n c l s t W' hl hn hn1 hv h
  replace HT := Lib.hid HT
  replace HM := Lib.hid HM
  replace HN := Lib.hid HN
  clear hl hv
  have HX := Lib.hid X
  clear X
  go_enter Tryd.func16, Tryd.ntmps16
  go_wp2_with fail
  refine (HT.out _ _ _ HX.out.tk).mono ?_
  rintro e w1 hp
  obtain ⟨s1, hs1⟩ : ∃ s1, s1 = s.take 17 := ⟨_, rfl⟩
  rw [← hs1] at hp
  replace hs1 := Lib.hid hs1
  have X := HX.out.call hp
  obtain ⟨rfl, _, _⟩ := hp
  have f := X.bx.free 0
  have q := X.bx.cell 0
  simp at q
  replace HX := Lib.hid (X.set 0 (.string (tkV 17 s.l)))
  simp at HX
  clear X
  go_wp2_with fail
  refine (HM.out _ _ _ HX.out.tk).mono ?_
  rintro e w2 hp
  obtain ⟨s2, hs2⟩ : ∃ s2, s2 = s1.may 19 := ⟨_, rfl⟩
  rw [← hs2] at hp
  replace hs2 := Lib.hid hs2
  have X := HX.out.call hp
  obtain ⟨rfl, _, _⟩ := hp
  have f := X.bx.free 1
  have q := X.bx.cell 1
  simp at q
  replace HX := Lib.hid (X.set 1 (.string (tkV 19 s1.l)))
  simp at HX
  clear X
  go_wp2_with fail
  refine (HT.out _ _ _ HX.out.tk).mono ?_
  rintro e w3 hp
  obtain ⟨s3, hs3⟩ : ∃ s3, s3 = s2.take 11 := ⟨_, rfl⟩
  rw [← hs3] at hp
  replace hs3 := Lib.hid hs3
  have X := HX.out.call hp
  obtain ⟨rfl, _, _⟩ := hp
  have f := X.bx.free 2
  have q := X.bx.cell 2
  simp at q
  replace HX := Lib.hid (X.set 2 (.string (tkV 11 s2.l)))
  simp at HX
  clear X
  go_wp2_with fail
  refine (HT.out _ _ _ HX.out.tk).mono ?_
  rintro e w4 hp
  obtain ⟨s4, hs4⟩ : ∃ s4, s4 = s3.take 1 := ⟨_, rfl⟩
  rw [← hs4] at hp
  replace hs4 := Lib.hid hs4
  have X := HX.out.call hp
  obtain ⟨rfl, _, _⟩ := hp
  have f := X.bx.free 3
  have q := X.bx.cell 3
  simp at q
  replace HX := Lib.hid (X.set 3 (.string (tkV 1 s3.l)))
  simp at HX
  clear X
  go_wp2_with fail
  refine (HT.out _ _ _ HX.out.tk).mono ?_
  rintro e w5 hp
  obtain ⟨s5, hs5⟩ : ∃ s5, s5 = s4.take 55 := ⟨_, rfl⟩
  rw [← hs5] at hp
  replace hs5 := Lib.hid hs5
  have X := HX.out.call hp
  obtain ⟨rfl, _, _⟩ := hp
  have f := X.bx.free 4
  have q := X.bx.cell 4
  simp at q
  replace HX := Lib.hid (X.set 4 (.string (tkV 55 s4.l)))
  simp at HX
  clear X
  go_wp2_with fail
  refine (HT.out _ _ _ HX.out.tk).mono ?_
  rintro e w6 hp
  obtain ⟨s6, hs6⟩ : ∃ s6, s6 = s5.take 54 := ⟨_, rfl⟩
  rw [← hs6] at hp
  replace hs6 := Lib.hid hs6
  have X := HX.out.call hp
  obtain ⟨rfl, _, _⟩ := hp
  replace HX := Lib.hid X
  clear X
  obtain ⟨sv, hsv⟩ : ∃ sv, sv = tkV 54 s5.l := ⟨_, rfl⟩
  rw [← hsv]
  replace hsv := Lib.hid hsv
  have f := HX.out.bx.free 6
  have q := HX.out.bx.cell 6
  simp at q
  have hd1 := str_lit sv 49
  have hd2 := str_lit sv 50
  go_upto_region 9 with fail
  replace HX := Lib.hid (HX.out.set 6 (.bool (decide (sv = ⟨#[49]⟩))))
  simp at HX
  clear f q
  go_cut [31] (fun s31 wx => s31 = .bool (!decide (sv = ⟨#[49]⟩) && !decide (sv = ⟨#[50]⟩)) ∧ XI W w0 g A n c l (s6) [(W.heap.size + 1, 25, #[.string (tkV 17 s.l), .string (tkV 19 s1.l), .string (tkV 11 s2.l), .string (tkV 1 s3.l), .string (tkV 55 s4.l), .int .i64 0, .bool (decide (sv = ⟨#[49]⟩)), .int .i64 0, .int .i64 0, .int .i64 0]), (W.heap.size, 25, #[.string ⟨#[]⟩, .string ⟨#[]⟩, .string ⟨#[]⟩, .string ⟨#[]⟩, .string ⟨#[]⟩, .int .i64 0, .bool false, .int .i64 0, .int .i64 0, .int .i64 0])] wx)
  case first =>
    obtain ⟨d1, hd1'⟩ : ∃ d1, d1 = decide (sv = ⟨#[49]⟩) := ⟨_, rfl⟩
    obtain ⟨d2, hd2'⟩ : ∃ d2, d2 = decide (sv = ⟨#[50]⟩) := ⟨_, rfl⟩
    rw [← hd1'] at hd1
    rw [← hd2'] at hd2
    replace hd1' := Lib.hid hd1'
    replace hd2' := Lib.hid hd2'
    rcases d1 with _ | _
    · rcases d2 with _ | _
      all_goals
        go_wp2
        go_meet
        case rel => exact ⟨by rw [← hd1'.out, ← hd2'.out]; rfl, HX.out⟩
    · go_wp2
      go_meet
      case rel => exact ⟨by rw [← hd1'.out]; rfl, HX.out⟩
  case rest =>
    obtain ⟨rfl, hcut⟩ := hcut
    clear HX
    obtain ⟨cb, hcb⟩ : ∃ cb, cb = (!decide (sv = ⟨#[49]⟩) && !decide (sv = ⟨#[50]⟩)) := ⟨_, rfl⟩
    rw [← hcb]
    replace hcb := Lib.hid hcb
    have HX := Lib.hid hcut
    clear hcut hd1 hd2
    go_upto_if 31 with fail
    go_cut [31] (fun _ wx => XI W w0 g A n c l (s6.bad (!decide (sv = ⟨#[49]⟩) && !decide (sv = ⟨#[50]⟩))) [(W.heap.size + 1, 25, #[.string (tkV 17 s.l), .string (tkV 19 s1.l), .string (tkV 11 s2.l), .string (tkV 1 s3.l), .string (tkV 55 s4.l), .int .i64 0, .bool (decide (sv = ⟨#[49]⟩)), .int .i64 0, .int .i64 0, .int .i64 0]), (W.heap.size, 25, #[.string ⟨#[]⟩, .string ⟨#[]⟩, .string ⟨#[]⟩, .string ⟨#[]⟩, .string ⟨#[]⟩, .int .i64 0, .bool false, .int .i64 0, .int .i64 0, .int .i64 0])] wx)
    case first =>
      rcases cb with _ | _
      · go_wp2
        go_meet
        case rel => rw [← hcb.out, Tk.bad_false]; exact HX.out
      · obtain ⟨pb, bb, hbb, X⟩ := HX.out.bad
        have fb := hbb.free 2
        have qb := hbb.cell 2
        simp at qb
        replace HX := Lib.hid X
        clear X hbb
        go_wp2
        go_meet
        case rel => rw [← hcb.out]; exact HX.out
    case rest =>
      obtain ⟨t6, ht6⟩ : ∃ t6, t6 = s6.bad (!decide (sv = ⟨#[49]⟩) && !decide (sv = ⟨#[50]⟩)) := ⟨_, rfl⟩
      rw [← ht6] at hcut
      replace ht6 := Lib.hid ht6
      replace HX := Lib.hid hcut
      clear hcut hcb
      go_wp2_with fail
      refine (HN.out _ _ _ HX.out.tk).mono ?_
      rintro e w7 hp
      obtain ⟨s7, hs7⟩ : ∃ s7, s7 = t6.num 150 := ⟨_, rfl⟩
      rw [← hs7] at hp
      replace hs7 := Lib.hid hs7
      have X := HX.out.call hp
      obtain ⟨rfl, _, _⟩ := hp
      replace HX := Lib.hid X
      clear X
      obtain ⟨kv, hkv⟩ : ∃ kv, kv = t6.numV 150 := ⟨_, rfl⟩
      rw [← hkv]
      replace hkv := Lib.hid hkv
      go_upto_region 12 with fail
      go_cut [42] (fun s42 wx => s42 = .bool (decide (kv < 1) || decide (8 < kv)) ∧ XI W w0 g A n c l (s7) [(W.heap.size + 1, 25, #[.string (tkV 17 s.l), .string (tkV 19 s1.l), .string (tkV 11 s2.l), .string (tkV 1 s3.l), .string (tkV 55 s4.l), .int .i64 0, .bool (decide (sv = ⟨#[49]⟩)), .int .i64 0, .int .i64 0, .int .i64 0]), (W.heap.size, 25, #[.string ⟨#[]⟩, .string ⟨#[]⟩, .string ⟨#[]⟩, .string ⟨#[]⟩, .string ⟨#[]⟩, .int .i64 0, .bool false, .int .i64 0, .int .i64 0, .int .i64 0])] wx)
      case first =>
        rcases (show kv < 1 ∨ (1 ≤ kv ∧ 8 < kv) ∨ (1 ≤ kv ∧ kv ≤ 8) by omega) with h | ⟨h, h'⟩ | ⟨h, h'⟩
        · go_wp2
          go_meet
          case rel => exact ⟨by rw [decide_eq_true h]; simp, HX.out⟩
        · go_wp2
          go_meet
          case rel => exact ⟨by rw [decide_eq_true h', Bool.or_true], HX.out⟩
        · go_wp2
          go_meet
          case rel => exact ⟨by rw [decide_eq_false (show ¬ kv < 1 by omega), decide_eq_false (show ¬ 8 < kv by omega)], HX.out⟩
      case rest =>
        obtain ⟨rfl, hcut⟩ := hcut
        obtain ⟨cb, hcb⟩ : ∃ cb, cb = (decide (kv < 1) || decide (8 < kv)) := ⟨_, rfl⟩
        rw [← hcb]
        replace hcb := Lib.hid hcb
        replace HX := Lib.hid hcut
        clear hcut
        go_upto_if 42 with fail
        go_cut [5, 42] (fun s5 _ wx => s5 = .int .i64 (if kv < 1 ∨ 8 < kv then 0 else kv) ∧ XI W w0 g A n c l (s7.bad (decide (kv < 1) || decide (8 < kv))) [(W.heap.size + 1, 25, #[.string (tkV 17 s.l), .string (tkV 19 s1.l), .string (tkV 11 s2.l), .string (tkV 1 s3.l), .string (tkV 55 s4.l), .int .i64 0, .bool (decide (sv = ⟨#[49]⟩)), .int .i64 0, .int .i64 0, .int .i64 0]), (W.heap.size, 25, #[.string ⟨#[]⟩, .string ⟨#[]⟩, .string ⟨#[]⟩, .string ⟨#[]⟩, .string ⟨#[]⟩, .int .i64 0, .bool false, .int .i64 0, .int .i64 0, .int .i64 0])] wx)
        case first =>
          have hki : (cb = true ↔ (kv < 1 ∨ 8 < kv)) := by rw [hcb.out]; simp
          replace hki := Lib.hid hki
          rcases cb with _ | _
          · go_wp2
            go_meet
            case rel => rw [← hcb.out, Tk.bad_false]; exact ⟨by rw [if_neg (fun h => by have := hki.out.2 h; cases this)], HX.out⟩
          · obtain ⟨pb, bb, hbb, X⟩ := HX.out.bad
            have fb := hbb.free 2
            have qb := hbb.cell 2
            simp at qb
            replace HX := Lib.hid X
            clear X hbb
            go_wp2
            go_meet
            case rel => rw [← hcb.out]; exact ⟨by rw [if_pos (hki.out.1 (by first | rfl | trivial))], HX.out⟩
        case rest =>
          obtain ⟨rfl, hcut⟩ := hcut
          obtain ⟨t7, ht7⟩ : ∃ t7, t7 = s7.bad (decide (kv < 1) || decide (8 < kv)) := ⟨_, rfl⟩
          rw [← ht7] at hcut
          replace ht7 := Lib.hid ht7
          obtain ⟨kx, hkx⟩ : ∃ kx : Int, kx = (if kv < 1 ∨ 8 < kv then 0 else kv) := ⟨_, rfl⟩
          rw [← hkx]
          replace hkx := Lib.hid hkx
          have f := hcut.bx.free 5
          have q := hcut.bx.cell 5
          simp at q
          replace HX := Lib.hid (hcut.set 5 (.int .i64 kx))
          simp at HX
          clear hcut hcb
          go_wp2_with fail
          refine (HN.out _ _ _ HX.out.tk).mono ?_
          rintro e ws8 hp
          obtain ⟨s8, hs8⟩ : ∃ s8, s8 = t7.num 32 := ⟨_, rfl⟩
          rw [← hs8] at hp
          replace hs8 := Lib.hid hs8
          have X := HX.out.call hp
          obtain ⟨rfl, _, _⟩ := hp
          have f := X.bx.free 7
          have q := X.bx.cell 7
          simp at q
          replace HX := Lib.hid (X.set 7 (.int .i64 (t7.numV 32)))
          simp at HX
          clear X
          go_wp2_with fail
          refine (HN.out _ _ _ HX.out.tk).mono ?_
          rintro e ws9 hp
          obtain ⟨s9, hs9⟩ : ∃ s9, s9 = s8.num 31 := ⟨_, rfl⟩
          rw [← hs9] at hp
          replace hs9 := Lib.hid hs9
          have X := HX.out.call hp
          obtain ⟨rfl, _, _⟩ := hp
          have f := X.bx.free 8
          have q := X.bx.cell 8
          simp at q
          replace HX := Lib.hid (X.set 8 (.int .i64 (s8.numV 31)))
          simp at HX
          clear X
          go_wp2_with fail
          refine (HN.out _ _ _ HX.out.tk).mono ?_
          rintro e ws10 hp
          obtain ⟨s10, hs10⟩ : ∃ s10, s10 = s9.num 60 := ⟨_, rfl⟩
          rw [← hs10] at hp
          replace hs10 := Lib.hid hs10
          have X := HX.out.call hp
          obtain ⟨rfl, _, _⟩ := hp
          have f := X.bx.free 9
          have q := X.bx.cell 9
          simp at q
          replace HX := Lib.hid (X.set 9 (.int .i64 (s9.numV 60)))
          simp at HX
          clear X
          have HY := Lib.hid HX.out.swap
          have HL := Lib.hid (HX.out.bx)
          have H1 := Lib.hid (show (#[.string (tkV 17 s.l), .string (tkV 19 s1.l), .string (tkV 11 s2.l), .string (tkV 1 s3.l), .string (tkV 55 s4.l), .int .i64 kx, .bool (decide (sv = ⟨#[49]⟩)), .int .i64 (t7.numV 32), .int .i64 (s8.numV 31), .int .i64 (s9.numV 60)] : Array Value).all (·.oneCell') = true by simp [Value.oneCell'])
          go_wp2_with (first | (refine wpList_load_row rfl 25 (.tmp 3) rfl (W.heap.size + 1) rfl 25 #[.string (tkV 17 s.l), .string (tkV 19 s1.l), .string (tkV 11 s2.l), .string (tkV 1 s3.l), .string (tkV 55 s4.l), .int .i64 kx, .bool (decide (sv = ⟨#[49]⟩)), .int .i64 (t7.numV 32), .int .i64 (s8.numV 31), .int .i64 (s9.numV 60)] (0, 0) _ HL.out Tryd.underlying25 rfl infoX ?_) | (refine list_store rfl 25 (.tmp 2) (.tmp 57) rfl #[.string (tkV 17 s.l), .string (tkV 19 s1.l), .string (tkV 11 s2.l), .string (tkV 1 s3.l), .string (tkV 55 s4.l), .int .i64 kx, .bool (decide (sv = ⟨#[49]⟩)), .int .i64 (t7.numV 32), .int .i64 (s8.numV 31), .int .i64 (s9.numV 60)] rfl rfl HY.out (Nat.le_refl 10) infoX H1.out ?_; intro wz HZ))
          simp [setAll] at HZ
          have hE : exRead s = (⟨tkV 17 s.l, tkV 19 s1.l, tkV 11 s2.l, tkV 1 s3.l, tkV 55 s4.l, kx, decide (sv = ⟨#[49]⟩), t7.numV 32, s8.numV 31, s9.numV 60⟩, s10) := by
            unfold exRead
            dsimp only
            rw [← hs1.out, ← hs2.out, ← hs3.out, ← hs4.out, ← hs5.out, ← hsv.out, ← hs6.out, ← ht6.out, ← hkv.out, ← hs7.out, ← ht7.out, ← hs8.out, ← hs9.out, ← hs10.out, ← hkx.out]
          refine bodyPost_ret (results_cell_row (p := 2) (ty := 25) Tryd.results16 _ _ W.heap.size 25 #[.string (tkV 17 s.l), .string (tkV 19 s1.l), .string (tkV 11 s2.l), .string (tkV 1 s3.l), .string (tkV 55 s4.l), .int .i64 kx, .bool (decide (sv = ⟨#[49]⟩)), .int .i64 (t7.numV 32), .int .i64 (s8.numV 31), .int .i64 (s9.numV 60)] (0, 0) _ rfl HZ.bx Tryd.underlying25 rfl infoX) rfl ?_
          rw [hE]
          exact HZ.post rfl
end Go.Proofs.YtioagepalfiioaaDoor
