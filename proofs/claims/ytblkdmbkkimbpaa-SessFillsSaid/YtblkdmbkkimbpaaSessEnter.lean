/-
  Layer 7: the program's own way: a message is put in line: its contract.
-/
import Derived.Test.YtblkdmbkkimbpaaSessAsk
import Derived.Test.YtblkdmbkkimbpaaSessBuild
namespace Go.Proofs.Ytblkdmbkkimbpaa
open Go.RowKit

/-- What 'enter' answers, and leaves behind. -/
def EnterPost (w : World) (g : Nat) (s : Ses) (m : Mg) (now : Int) (v : Value) (L : List Mg) (W : World) (e : Ending) (W' : World) : Prop :=
  ∃ A' n' c' B k d, e = .returned (.slice B k d) ∧ (tellS (comeR s.ln (itemM m)).2.1).length = k ∧ Sl W' B k d 18 (mcells (tellS (comeR s.ln (itemM m)).2.1)) ∧ Fr W.heap.size B ∧ Fr W.heap.size A' ∧ n' ≤ 64 ∧ TI w g (lineS s m) A' n' c' now v v L W'
/-- Behind reseq.Come: its line in a variable, what is told. -/
def EntR (W : World) (r : Ln × List Itm × Int) (s6 s7 s8 : Value) (V : World) : Prop :=
  ∃ N A1 n1 c1 A2 n2 c2 bs, s6 = .pointer (some ⟨N, 0, none⟩) ∧ s7 = .slice A2 n2 c2 ∧ s8 = .int .i64 r.2.2 ∧ RI W ((N, 27, #[.int .i64 r.1.next, .slice A1 n1 c1]) :: bs) V ∧ r.1.held.length = n1 ∧ r.2.1.length = n2 ∧ Sl V A1 n1 c1 20 (icells r.1.held) ∧ Sl V A2 n2 c2 20 (icells r.2.1) ∧ Fr W.heap.size A1
theorem line_one (k : Int) (A : Option Addr) (n c : Nat) : (#[Value.int .i64 k, Value.slice A n c] : Array Value).all (·.oneCell') = true := by simp [Value.oneCell']
/-- A line is stored in the talk. -/
theorem ti_line {w W : World} {g : Nat} {s : Ses} {A : Option Addr} {n c : Nat} {now : Int} {u v : Value} {L : List Mg} {ops : Array Oper} {rest : List Oper} {o : Oper} {a : Act} {Q : Exit → Act → World → Prop} (hgd : o.guard = none) (x y : Operand) (ho : o.op = .store 27 x y)
    (k : Int) (A1 : Option Addr) (n1 c1 : Nat) (l1 : List Itm) (hx : a.eval x = .pointer (some ⟨g, 1, none⟩)) (hy : a.eval y = .agg #[.int .i64 k, .slice A1 n1 c1]) (h : TI w g s A n c now u v L W) (hn : l1.length = n1) (hsl : Sl W A1 n1 c1 20 (icells l1)) (hap : ∀ a, A1 = some a → a.block ≠ g ∧ v.ownBlock ≠ some a.block)
    (hk : ∀ w', TI w g { s with ln := ⟨k, l1⟩ } A1 n1 c1 now u v L w' → (∀ u, Kept g u W w') → wpList Try.prog ops Q rest (a.put o.dst undef) w') : wpList Try.prog ops Q (o :: rest) a W := by
  refine wpList_store_mid hgd 27 x y ho g 1 #[.int .i64 k, .slice A1 n1 c1] hx hy (there_box h.box 1 2 (by show 1 + 2 ≤ 12; decide)) infoL (line_one _ _ _ _) ?_
  have hw : ∀ j, j ≠ g → (W.setCells g 1 [.int .i64 k, .slice A1 n1 c1]).heap[j]? = W.heap[j]? := fun j hne => block_sets g _ W 1 j hne
  have hz : W.heap.size ≤ (W.setCells g 1 [.int .i64 k, .slice A1 n1 c1]).heap.size := Nat.le_of_eq (size_sets g _ W 1).symm
  exact hk _ (h.put hw (h.mj.ri.sets 1 [.int .i64 k, .slice A1 n1 c1]) hn hsl (.inr hap) hz) fun _ => Kept.put hz hw
/-- A message is appended to a list of the call's own. -/
theorem mj_append {w W : World} {bs : List (Nat × TypeId × Array Value)} {v : Value} {L : List Mg} {ops : Array Oper} {rest : List Oper} {o : Oper} {a : Act} {Q : Exit → Act → World → Prop} (hgd : o.guard = none) (s x : Operand) (ho : o.op = .call { callee := .builtin .append, args := #[s, x], argTypes := #[33, 33] })
    (hs : a.eval s = v) (m : Mg) (h : MJ w bs v L W) {N cp : Nat} (hx : a.eval x = .slice (some ⟨N, 0, none⟩) 1 cp) (hN : Box W N 41 m.arr) (hl : L.length ≤ 1000)
    (hk : ∀ v' w', MJ w bs v' (L ++ [m]) w' → wpList Try.prog ops Q rest (a.put o.dst v') w') : wpList Try.prog ops Q (o :: rest) a W := by
  obtain ⟨i0, hi, iz0, iz1, iz2⟩ := info_parts infoM3
  refine wpList_append_own W hgd s x 33 ho w.heap.size 41 i0 _ 18 192 Try.underlying33 hi iz0 iz1 iz2 rfl (by decide) v L.length (mcells L) hs h.own ⟨N, 0, none⟩ 1 cp m.arr.toList hx (by rw [Mg.arr_len]) (fun j u hu => by rw [addr_at, Nat.zero_add, hN.cell]; simpa using hu) (fun u hu => by have := arr_one m; rw [Array.all_eq_true'] at this; exact this u (by simpa using hu)) (by unfold maxLen; omega) (by omega) h.ri.below.size ?_
  intro v' w' hown hg _
  exact hk _ _ ⟨h.ri.grown hg h.own h.ty, own_cast hown (by rw [mcells_app]; simp [mcells]) (by simp), h.ty⟩
theorem Sl.neI {w : World} {A : Option Addr} {n c g : Nat} {t : TypeId} {cs : Array Value} {l : List Itm} (h : Sl w A n c 20 (icells l)) (hb : Box w g t cs) (hs : cs.size ≤ 19) : icells l = [] ∨ ∀ a, A = some a → a.block ≠ g ∧ (Value.slice none 0 0).ownBlock ≠ some a.block := by
  cases l with
  | nil => exact .inl rfl
  | cons y r =>
    right
    intro a he
    rcases h.row with h0 | ⟨b, off, rfl, hc⟩
    · exact absurd h0 (by show y.cells ++ icells r ≠ []; unfold Itm.cells; simp)
    · injection he with he
      subst he
      refine ⟨fun e => ?_, fun h => by cases h⟩
      have h2 := hc 19 (.int .i64 y.m.ex.time) rfl
      have e : b = g := e
      subst e
      rw [hb.cell, Array.getElem?_eq_none (by omega)] at h2
      cases h2
theorem itm_msg {W : World} {g : Nat} {t : TypeId} {y : Itm} (h : Box W g t y.arr) : W.rangeAt g 2 y.m.arr.toList := fun j u hu => by
  rw [h.cell]
  show y.arr[2 + j]? = some u
  unfold Itm.arr Itm.cells
  rw [List.getElem?_toArray, show 2 + j = j + 1 + 1 by omega, List.getElem?_cons_succ, List.getElem?_cons_succ]
  exact hu
theorem infoM18 : (Try.prog.info? 41).map (·.size) = some 18 := by kernel_rfl
theorem tellS_take {l : List Itm} {i : Nat} (h : i < l.length) : tellS (l.take (i + 1)) = tellS (l.take i) ++ (if l[i].m.kind = 7 then [l[i].m] else []) := by
  unfold tellS
  rw [List.take_succ_eq_append_getElem h, List.filter_append, List.map_append]
  congr 1
  by_cases h7 : l[i].m.kind = 7
  · rw [if_pos h7, List.filter_cons_of_pos (by simpa using h7)]; rfl
  · rw [if_neg h7, List.filter_cons_of_neg (by simpa using h7)]; rfl
theorem come_len {l : Ln} (h : l.rightB = true) (x : Itm) : (comeR l x).2.1.length ≤ 65 := by
  have h64 := (right_len (k := l.next) (l := l.held) h).1
  have hd : ∀ (l : List Itm) (n : Int), (drain n l).1.length ≤ l.length := by
    intro l
    induction l with
    | nil => intro n; exact Nat.le_refl _
    | cons y r ih =>
      intro n
      unfold drain
      split
      · split
        · have := ih y.till; simp; omega
        · have := ih n; simp; omega
      · simp
  unfold comeR
  split
  · simp
  · split
    · simp
    · split
      · have := hd l.held x.till
        simp; omega
      · split
        · simp
        · split <;> simp
theorem tellS_len (l : List Itm) : (tellS l).length ≤ l.length := by
  unfold tellS
  rw [List.length_map]
  exact List.length_filter_le ..
theorem infoI1 : (Try.prog.info? 58).map (·.size) = some 20 := by kernel_rfl
theorem itm_one (x : Itm) : x.arr.all (·.oneCell') = true := by
  unfold Itm.arr Itm.cells
  simp [Value.oneCell', Mg.arr]
set_option maxRecDepth 100000 in
set_option maxHeartbeats 600000 in
theorem own_enter (w : World) (g : Nat) (s : Ses) (A : Option Addr) (n c : Nat) (now : Int) (v : Value) (L : List Mg) (W : World) (m : Mg) (hT : TI w g s A n c now v v L W) (hR : s.R) (hm : MsgR m) :
    Calls Try.prog 20 #[.pointer (some ⟨g, 0, none⟩), .agg m.arr] W (EnterPost w g s m now v L W) := by
  have HI := Lib.hid ((RI.start W).add 41 m.arr)
  have HT := Lib.hid hT
  have hgl := hT.lt
  have hsq := hm.seq
  have c0 := (HI.out.cell 0).trans (show _ = some (Value.int .i64 m.kind) from rfl)
  have c1 := (HI.out.cell 1).trans (show _ = some (Value.int .i64 m.seq) from rfl)
  have hw1 : IntKind.i64.wrap (m.seq + 1) = m.seq + 1 := by rw [IntKind.wrap_i64]; omega
  have hms : m.arr.size = 18 := rfl
  clear hT
  go_enter Try.func20, Try.ntmps20
  go_upto_region 1 with (fail)
  go_upto_region 2 with (first | (refine wpList_load_row rfl 41 (.tmp 3) rfl _ rfl 41 m.arr (0, 0) _ HI.out.bx Try.underlying41 rfl infoM ?_) | (refine wpList_build_itm rfl (.tmp 13) (.tmp 16) (.tmp 17) rfl m.seq (m.seq + 1) m rfl rfl rfl ?_) | (refine ri_put rfl 58 (.tmp 5) (.tmp 18) rfl (Itm.mk m.seq (m.seq + 1) m).arr rfl rfl (HI.out.addAt 58 _ (W.heap.size + 1) (by simp)) rfl infoI1 (itm_one _) ?_; intro w2 hI2 _; have HI2 := Lib.hid hI2; clear hI2))
  clear HI c0 c1
  have d1 := (HI2.out.cell 1).trans (show _ = some (Value.int .i64 (m.seq + 1)) from rfl)
  have d4 := (HI2.out.swap.cell 4).trans (show _ = some (Value.int .i64 m.a) from rfl)
  have d0 := (HI2.out.swap.cell 0).trans (show _ = some (Value.int .i64 m.kind) from rfl)
  go_upto_if 21 with fail
  go_cut [21] (fun s21 wx => s21 = .bool (m.kind == 5) ∧ Hid (RI W [(W.heap.size + 1, 58, (itemM m).arr), (W.heap.size, 41, m.arr)] wx))
  case first =>
    by_cases h5 : m.kind = 5
    · have hit : itemM m = ⟨m.seq, max (m.seq + 1) m.a, m⟩ := by
        unfold itemM
        by_cases h : m.seq + 1 < m.a
        · rw [if_pos ⟨h5, h⟩, Int.max_eq_right (by omega)]
        · rw [if_neg (fun hc => h hc.2), Int.max_eq_left (by omega)]
      have h5b : (m.kind == 5) = true := by rw [beq_iff_eq]; exact h5
      rw [h5] at d0
      clear h5
      go_wp2_with (first | (refine ri_put1 rfl 2 (.tmp 27) (.tmp 26) rfl 1 (.int .i64 (max (m.seq + 1) m.a)) rfl rfl rfl HI2.out (by show 1 < 20; decide) (by kernel_rfl) ?_; intro w3 hI3 _; have HI3 := Lib.hid hI3; clear hI3))
      go_meet
      case rel => exact ⟨by rw [h5b], by rw [hit]; exact HI3⟩
    · have hit : itemM m = ⟨m.seq, m.seq + 1, m⟩ := by unfold itemM; rw [if_neg (fun hc => h5 hc.1)]
      have h5b : (m.kind == 5) = false := by rw [beq_eq_false_iff_ne]; exact h5
      clear h5
      go_wp2_with fail
      go_meet
      case rel => exact ⟨by rw [h5b], by rw [hit]; exact HI2⟩
  case rest =>
    obtain ⟨rfl, HI3⟩ := hcut
    clear HI2 d1 d4 d0
    have hn64 := (right_len (k := s.ln.next) (l := s.ln.held) hR.ln).1
    obtain ⟨r, hr⟩ : ∃ r, comeR s.ln (itemM m) = r := ⟨_, rfl⟩
    have HCo := Lib.hid (fun (V : World) (h : Below W.heap.size W V) => (show Calls Try.prog 31 #[.agg #[.int .i64 s.ln.next, .slice A n c], .agg (itemM m).arr] V (ComePost r V) from by
      have hT := HT.out.on h
      have hc := own_Come s.ln.next A n c s.ln.held hT.hn (itemM m) V hT.sl (by have := hT.hn; omega)
      rw [show (⟨s.ln.next, s.ln.held⟩ : Ln) = s.ln from rfl, hr] at hc
      exact hc))
    obtain ⟨yx, hyx⟩ : ∃ y : Itm, y = itemM m := ⟨_, rfl⟩
    rw [← hyx] at HCo HI3
    have HB0 := Lib.hid HI3.out
    have HYX := Lib.hid hyx
    have HRr := Lib.hid hr
    clear hyx hr HI3
    have hra : ∀ V, Below W.heap.size W V → V.rangeAt g 1 [.int .i64 s.ln.next, .slice A n c] := fun V h => line_at (HT.out.on h)
    go_upto_region 4 with (fail)
    go_cut [6, 7, 8] (fun s6 s7 s8 wx => Hid (EntR W r s6 s7 s8 wx))
    case first =>
      have hB0 := HB0.out.on (Below.refl _ _).drew
      refine wp_region_held_drew (S := fun V => RI W [(W.heap.size + 1, 58, yx.arr), (W.heap.size, 41, m.arr)] V) (by kernel_rfl) hB0 (fun hHeld => ?_)
      refine wpAnyH_take (i := 0) (v := .pointer (some ⟨g, 0, none⟩)) (at_place rfl) (by kernel_rfl) (by kernel_rfl) (by kernel_rfl) (fun _ _ _ h => h) (Or.inl ⟨by rfl, fun V hV => by go_simp⟩) hHeld ?_; try simp only [Act.put, List.setIfInBounds_toArray, List.set_cons_zero, List.set_cons_succ]
      refine wpAnyH_take (i := 1) (v := .pointer (some ⟨g, 0, none⟩)) (at_place rfl) (by kernel_rfl) (by kernel_rfl) (by kernel_rfl) (fun _ _ _ h => h) (Or.inl ⟨by rfl, fun V hV => by go_simp⟩) hHeld ?_; try simp only [Act.put, List.setIfInBounds_toArray, List.set_cons_zero, List.set_cons_succ]
      refine wpAnyH_take (i := 2) (v := .pointer (some ⟨g, 0, none⟩)) (at_place rfl) (by kernel_rfl) (by kernel_rfl) (by kernel_rfl) (fun _ _ _ h => h) (Or.inl ⟨by rfl, fun V hV => by go_simp⟩) hHeld ?_; try simp only [Act.put, List.setIfInBounds_toArray, List.set_cons_zero, List.set_cons_succ]
      refine wpAnyH_take (i := 3) (v := .pointer (some ⟨g, 1, none⟩)) (at_place rfl) (by kernel_rfl) (by kernel_rfl) (by kernel_rfl) (fun _ _ _ h => h) (Or.inl ⟨by rfl, fun V hV => by go_simp⟩) hHeld ?_; try simp only [Act.put, List.setIfInBounds_toArray, List.set_cons_zero, List.set_cons_succ]
      refine wpAnyH_take (i := 4) (v := .agg #[.int .i64 s.ln.next, .slice A n c]) (at_place rfl) (by kernel_rfl) (by kernel_rfl) (by kernel_rfl) (fun _ _ _ h => h) (y_mid [.int .i64 s.ln.next, .slice A n c] rfl (fun V hV => hra V hV.below) 27 (.tmp 32) rfl rfl _ Try.underlying27 rfl infoL) hHeld ?_; try simp only [Act.put, List.setIfInBounds_toArray, List.set_cons_zero, List.set_cons_succ]
      refine wpAnyH_take (i := 5) (v := .agg yx.arr) (at_place rfl) (by kernel_rfl) (by kernel_rfl) (by kernel_rfl) (fun _ _ _ h => h) (y_load rfl (fun V hV => hV.bx) 58 (.tmp 5) rfl rfl _ Try.underlying58 rfl infoI1) hHeld ?_; try simp only [Act.put, List.setIfInBounds_toArray, List.set_cons_zero, List.set_cons_succ]
      refine wpAnyH_ready (rs := [6, 11]) (by kernel_rfl) (by simp) ?_
      refine AllReadyH.cons (at_place rfl) (fun K hK => ?_) (AllReadyH.cons (at_place rfl) (fun K hK => ?_) AllReadyH.nil)
      · go_simp
        refine (HCo.out _ hHeld.below).mono ?_
        rintro e w3 ⟨A1, n1, c1', A2, n2, c2, hfr0, rfl, hl1, hl2, hs1, hs2, hb3⟩
        go_wp2_with fail
        have hfr : Fr W.heap.size A1 := fun a e => Nat.le_trans hHeld.below.size (hfr0 a e)
        have hS3 := hHeld.on hb3
        refine hK.out _ _ hS3 (fun hHeld => ?_)
        clear hK K
        try simp only [Act.put, List.setIfInBounds_toArray, List.set_cons_zero, List.set_cons_succ]
        refine wpAnyH_take (i := 7) (v := .tuple #[.agg #[.int .i64 r.1.next, .slice A1 n1 c1'], .slice A2 n2 c2, .int .i64 r.2.2]) (at_place rfl) (by kernel_rfl) (by kernel_rfl) (by kernel_rfl) (fun _ _ _ h => h) (Or.inl ⟨by rfl, fun V hV => by go_simp⟩) hHeld ?_; try simp only [Act.put, List.setIfInBounds_toArray, List.set_cons_zero, List.set_cons_succ]
        refine wpAnyH_take (i := 8) (v := .agg #[.int .i64 r.1.next, .slice A1 n1 c1']) (at_place rfl) (by kernel_rfl) (by kernel_rfl) (by kernel_rfl) (fun _ _ _ h => h) (Or.inl ⟨by rfl, fun V hV => by go_simp⟩) hHeld ?_; try simp only [Act.put, List.setIfInBounds_toArray, List.set_cons_zero, List.set_cons_succ]
        refine wpAnyH_take (i := 9) (v := .slice A2 n2 c2) (at_place rfl) (by kernel_rfl) (by kernel_rfl) (by kernel_rfl) (fun _ _ _ h => h) (Or.inl ⟨by rfl, fun V hV => by go_simp⟩) hHeld ?_; try simp only [Act.put, List.setIfInBounds_toArray, List.set_cons_zero, List.set_cons_succ]
        refine wpAnyH_take (i := 10) (v := .int .i64 r.2.2) (at_place rfl) (by kernel_rfl) (by kernel_rfl) (by kernel_rfl) (fun _ _ _ h => h) (Or.inl ⟨by rfl, fun V hV => by go_simp⟩) hHeld ?_; try simp only [Act.put, List.setIfInBounds_toArray, List.set_cons_zero, List.set_cons_succ]
        refine wpAnyH_ready (rs := [11]) (by kernel_rfl) (by simp) ?_
        refine AllReadyH.cons (at_place rfl) (fun K hK => ?_) AllReadyH.nil
        have hRz := hS3.add 27 #[.int .i64 0, .slice none 0 0]
        have hs1 := hs1.on ((Below.refl w3.heap.size w3).alloc (Nat.le_refl _) (.cells #[.int .i64 0, .slice none 0 0] 27))
        have hs2 := hs2.on ((Below.refl w3.heap.size w3).alloc (Nat.le_refl _) (.cells #[.int .i64 0, .slice none 0 0] 27))
        go_simp
        refine hK.out _ _ hRz.tail (fun hHeld => ?_)
        clear hK K
        try simp only [Act.put, List.setIfInBounds_toArray, List.set_cons_zero, List.set_cons_succ]
        refine wpAnyH_ready (rs := [12]) (by kernel_rfl) (by simp) ?_
        refine AllReadyH.cons (at_place rfl) (fun K hK => ?_) AllReadyH.nil
        refine step_put rfl 27 (.tmp 6) (.tmp 36) rfl #[.int .i64 r.1.next, .slice A1 n1 c1'] rfl rfl hRz rfl infoL (line_one _ _ _ _) ?_
        intro w5 hI5 hf5
        refine hK.out _ _ hI5.tail (fun hHeld => ?_)
        clear hK K
        try simp only [Act.put]
        refine wpAnyH_take (i := 13) (v := .slice A2 n2 c2) (at_place rfl) (by kernel_rfl) (by kernel_rfl) (by kernel_rfl) (fun _ _ _ h => h) (Or.inl ⟨by rfl, fun V hV => by go_simp⟩) hHeld ?_; try simp only [Act.put, List.setIfInBounds_toArray, List.set_cons_zero, List.set_cons_succ]
        refine wpAnyH_take (i := 14) (v := .int .i64 r.2.2) (at_place rfl) (by kernel_rfl) (by kernel_rfl) (by kernel_rfl) (fun _ _ _ h => h) (Or.inl ⟨by rfl, fun V hV => by go_simp⟩) hHeld ?_; try simp only [Act.put, List.setIfInBounds_toArray, List.set_cons_zero, List.set_cons_succ]
        refine wpAnyH_done (by kernel_rfl) ?_ _
        go_wp2_with fail
        go_meet
        case rel => exact Lib.hid ⟨_, A1, n1, c1', A2, n2, c2, _, rfl, rfl, rfl, hI5, hl1, hl2, hs1.far hRz.bx (Nat.le_refl 2) hf5, hs2.far hRz.bx (Nat.le_refl 2) hf5, hfr⟩
      · have hRz0 := hHeld.add 27 #[.int .i64 0, .slice none 0 0]
        go_simp
        refine hK.out _ _ hRz0.tail (fun hHeld => ?_)
        clear hK K
        try simp only [Act.put, List.setIfInBounds_toArray, List.set_cons_zero, List.set_cons_succ]
        refine wpAnyH_ready (rs := [6]) (by kernel_rfl) (by simp) ?_
        refine AllReadyH.cons (at_place rfl) (fun K hK => ?_) AllReadyH.nil
        go_simp
        refine (HCo.out _ hHeld.below).mono ?_
        rintro e w3 ⟨A1, n1, c1', A2, n2, c2, hfr0, rfl, hl1, hl2, hs1, hs2, hb3⟩
        go_wp2_with fail
        have hfr : Fr W.heap.size A1 := fun a e => Nat.le_trans hHeld.below.size (hfr0 a e)
        have hRz := hRz0.on hb3
        refine hK.out _ _ hRz.tail (fun hHeld => ?_)
        clear hK K
        try simp only [Act.put, List.setIfInBounds_toArray, List.set_cons_zero, List.set_cons_succ]
        refine wpAnyH_take (i := 7) (v := .tuple #[.agg #[.int .i64 r.1.next, .slice A1 n1 c1'], .slice A2 n2 c2, .int .i64 r.2.2]) (at_place rfl) (by kernel_rfl) (by kernel_rfl) (by kernel_rfl) (fun _ _ _ h => h) (Or.inl ⟨by rfl, fun V hV => by go_simp⟩) hHeld ?_; try simp only [Act.put, List.setIfInBounds_toArray, List.set_cons_zero, List.set_cons_succ]
        refine wpAnyH_take (i := 8) (v := .agg #[.int .i64 r.1.next, .slice A1 n1 c1']) (at_place rfl) (by kernel_rfl) (by kernel_rfl) (by kernel_rfl) (fun _ _ _ h => h) (Or.inl ⟨by rfl, fun V hV => by go_simp⟩) hHeld ?_; try simp only [Act.put, List.setIfInBounds_toArray, List.set_cons_zero, List.set_cons_succ]
        refine wpAnyH_take (i := 9) (v := .slice A2 n2 c2) (at_place rfl) (by kernel_rfl) (by kernel_rfl) (by kernel_rfl) (fun _ _ _ h => h) (Or.inl ⟨by rfl, fun V hV => by go_simp⟩) hHeld ?_; try simp only [Act.put, List.setIfInBounds_toArray, List.set_cons_zero, List.set_cons_succ]
        refine wpAnyH_take (i := 10) (v := .int .i64 r.2.2) (at_place rfl) (by kernel_rfl) (by kernel_rfl) (by kernel_rfl) (fun _ _ _ h => h) (Or.inl ⟨by rfl, fun V hV => by go_simp⟩) hHeld ?_; try simp only [Act.put, List.setIfInBounds_toArray, List.set_cons_zero, List.set_cons_succ]
        refine wpAnyH_ready (rs := [12]) (by kernel_rfl) (by simp) ?_
        refine AllReadyH.cons (at_place rfl) (fun K hK => ?_) AllReadyH.nil
        refine step_put rfl 27 (.tmp 6) (.tmp 36) rfl #[.int .i64 r.1.next, .slice A1 n1 c1'] rfl rfl hRz rfl infoL (line_one _ _ _ _) ?_
        intro w5 hI5 hf5
        refine hK.out _ _ hI5.tail (fun hHeld => ?_)
        clear hK K
        try simp only [Act.put]
        refine wpAnyH_take (i := 13) (v := .slice A2 n2 c2) (at_place rfl) (by kernel_rfl) (by kernel_rfl) (by kernel_rfl) (fun _ _ _ h => h) (Or.inl ⟨by rfl, fun V hV => by go_simp⟩) hHeld ?_; try simp only [Act.put, List.setIfInBounds_toArray, List.set_cons_zero, List.set_cons_succ]
        refine wpAnyH_take (i := 14) (v := .int .i64 r.2.2) (at_place rfl) (by kernel_rfl) (by kernel_rfl) (by kernel_rfl) (fun _ _ _ h => h) (Or.inl ⟨by rfl, fun V hV => by go_simp⟩) hHeld ?_; try simp only [Act.put, List.setIfInBounds_toArray, List.set_cons_zero, List.set_cons_succ]
        refine wpAnyH_done (by kernel_rfl) ?_ _
        go_wp2_with fail
        go_meet
        case rel => exact Lib.hid ⟨_, A1, n1, c1', A2, n2, c2, _, rfl, rfl, rfl, hI5, hl1, hl2, hs1.far hRz.bx (Nat.le_refl 2) hf5, hs2.far hRz.bx (Nat.le_refl 2) hf5, hfr⟩
    case rest =>
      clear HCo HB0 hra
      obtain ⟨N, A1, n1, c1', A2, n2, c2, bs, rfl, rfl, rfl, hI, hl1, hl2, hs1, hs2, hfr⟩ := hcut
      have HT1 := Lib.hid (HT.out.on hI.below)
      have hap := HT.out.fresh hfr
      have HFr := Lib.hid hfr
      have HI := Lib.hid hI
      have HS1 := Lib.hid hs1
      have HS2 := Lib.hid hs2
      have HL1 := Lib.hid hl1
      have HL2 := Lib.hid hl2
      clear hI hs1 hs2 hl1 hl2 hfr HT
      go_upto_region 6 with (first | (refine wpList_load_row rfl 27 (.tmp 6) rfl _ rfl 27 #[.int .i64 r.1.next, .slice A1 n1 c1'] (0, 0) _ HI.out.bx Try.underlying27 rfl infoL ?_) | (refine ti_line rfl (.tmp 43) (.tmp 40) rfl r.1.next A1 n1 c1' r.1.held rfl rfl HT1.out HL1.out HS1.out hap ?_; intro w5 hT5 hK5; have HT5 := Lib.hid hT5; have HK5 := Lib.hid (hK5 (.slice none 0 0)); clear hT5 hK5))
      have HS3 := Lib.hid (HK5.out.sl HS2.out (HS2.out.neI HT1.out.box (by show 12 ≤ 19; decide)))
      have HSA := Lib.hid (show Fr W.heap.size A1 ∧ n1 ≤ 64 ∧ W.heap.size ≤ w5.heap.size from ⟨HFr.out, by
        have h1 := comeR_right hR.ln (itemM m)
        rw [HRr.out] at h1
        have h2 := (right_len (k := r.1.next) (l := r.1.held) h1).1
        have := HL1.out
        omega, Nat.le_trans HI.out.below.size HK5.out.size⟩)
      have hn2 : n2 ≤ 1000 := by
        have h1 := HS2.out.len
        have h2 := come_len hR.ln (itemM m)
        rw [HRr.out] at h2
        have := HL2.out
        omega
      have hcap2 : c2 ≤ 9223372036854775807 := by have := HS2.out.cap; unfold maxLen at this; omega
      have hnc2 := HS2.out.le
      clear HT1 hap HFr HI HS1 HS2 HL1 HK5 hR hm hsq hw1 hms hn64 HYX
      go_wp2
      go_loopw [9, 46] (fun s9 s46 wr => ∃ (i : Nat) (v9 : Value), i ≤ n2 ∧ s46 = .int .i64 i ∧ s9 = v9 ∧ Hid (MJ w5 [] v9 (tellS (r.2.1.take i)) wr)) (fun _ s46 _ => n2 - (intOf s46).toNat)
      case atStart => exact ⟨0, .slice none 0 0, Nat.zero_le _, rfl, rfl, Lib.hid ⟨RI.start w5, ⟨rfl, .inl ⟨rfl, rfl⟩⟩, fun b hb => by cases hb⟩⟩
      case round =>
        obtain ⟨i, v9, hi, rfl, rfl, HM⟩ := hrel
        by_cases hlt : i < n2
        · have hil : i < r.2.1.length := by rw [HL2.out]; exact hlt
          obtain ⟨b, off, rfl, hra, -, -⟩ := (HS3.out.on HM.out.ri.below).row.itm hil
          have HRa := Lib.hid hra
          have HTk := Lib.hid (tellS_take hil)
          have HLe := Lib.hid (Nat.le_trans (tellS_len (r.2.1.take i)) (by rw [List.length_take]; omega : (r.2.1.take i).length ≤ 1000))
          clear hra
          generalize r.2.1[i] = y at *
          generalize hk7 : y.m.kind = k7 at *
          have HK7 := Lib.hid hk7
          have hbm := build_msg y.m
          have hms : y.m.arr.size = 18 := rfl
          clear hk7
          rcases hb7 : (k7 == 7) with _ | _
          · have h7 : ¬ k7 = 7 := by rw [beq_eq_false_iff_ne] at hb7; exact hb7
            have HE := Lib.hid (show tellS (r.2.1.take (i + 1)) = tellS (r.2.1.take i) from by rw [HTk.out, if_neg h7, List.append_nil])
            clear h7 HTk
            go_wp2_with (first | (refine wpList_load_mid rfl 58 _ rfl b (off + i * 20) rfl y.cells _ HRa.out Try.underlying58 rfl infoI ?_) | (refine ri_put rfl 58 (.tmp 11) (.tmp 49) rfl y.arr rfl rfl (HM.out.add 58 _ (by decide)).ri rfl infoI1 (itm_one _) ?_; intro w3 hI3 hf3; have HM3 := Lib.hid ((HM.out.add 58 _ (by decide)).put hI3 hf3); have f2 := (HM3.out.ri.cell 2).trans (show y.arr[2]? = some (.int .i64 k7) from congrArg (fun z => some (Value.int .i64 z)) HK7.out); have HMb := Lib.hid (HM3.out.on ((Below.refl _ _).alloc (Nat.le_refl _) (.cells y.m.arr 41))); have HNb := Lib.hid (Box.new w3 y.m.arr 41); clear hI3 hf3))
            go_roundw
            case rel => exact ⟨i + 1, _, by omega, by go_num, rfl, by rw [HE.out]; exact Lib.hid HM3.out.tail⟩
            case measure => simp [intOf]; omega
          · have h7 : k7 = 7 := by rw [beq_iff_eq] at hb7; exact hb7
            have HE := Lib.hid (show tellS (r.2.1.take (i + 1)) = tellS (r.2.1.take i) ++ [y.m] from by rw [HTk.out, if_pos h7])
            clear h7 HTk
            go_wp2_with (first | (refine wpList_load_mid rfl 58 _ rfl b (off + i * 20) rfl y.cells _ HRa.out Try.underlying58 rfl infoI ?_) | (refine ri_put rfl 58 (.tmp 11) (.tmp 49) rfl y.arr rfl rfl (HM.out.add 58 _ (by decide)).ri rfl infoI1 (itm_one _) ?_; intro w3 hI3 hf3; have HM3 := Lib.hid ((HM.out.add 58 _ (by decide)).put hI3 hf3); have f2 := (HM3.out.ri.cell 2).trans (show y.arr[2]? = some (.int .i64 k7) from congrArg (fun z => some (Value.int .i64 z)) HK7.out); have HMb := Lib.hid (HM3.out.on ((Below.refl _ _).alloc (Nat.le_refl _) (.cells y.m.arr 41))); have HNb := Lib.hid (Box.new w3 y.m.arr 41); clear hI3 hf3) | (refine wpList_load_mid rfl 41 (.tmp 55) rfl wr.heap.size 2 rfl y.m.arr.toList _ (itm_msg HM3.out.ri.bx) Try.underlying41 rfl infoM18 ?_) | (refine mj_append rfl (.tmp 54) (.tmp 57) rfl rfl y.m HMb.out rfl HNb.out HLe.out ?_; intro v' w4 hM4; have HM4 := Lib.hid hM4; clear hM4))
            go_roundw
            case rel => exact ⟨i + 1, _, by omega, by go_num, rfl, by rw [HE.out]; exact Lib.hid HM4.out.tail⟩
            case measure => simp [intOf]; omega
        · obtain rfl : i = n2 := by omega
          have HF := Lib.hid (show MJ w5 [] u9 (tellS r.2.1) wr from by have := HM.out; rwa [List.take_of_length_le (Nat.le_of_eq HL2.out)] at this)
          obtain ⟨A9, c9, h9, hs9, -⟩ := Sl.of_own HF.out.own
          subst h9
          have HS9 := Lib.hid hs9
          clear hs9
          go_wp2
          go_ret
          refine ⟨A1, n1, c1', A9, _, c9, rfl, by rw [HRr.out], by rw [HRr.out]; exact HS9.out, fun a e => Nat.le_trans HSA.out.2.2 (Fr.own HF.out.own a e), HSA.out.1, HSA.out.2.1, ?_⟩
          unfold lineS
          rw [HRr.out]
          exact HT5.out.on HF.out.ri.below
end Go.Proofs.Ytblkdmbkkimbpaa
