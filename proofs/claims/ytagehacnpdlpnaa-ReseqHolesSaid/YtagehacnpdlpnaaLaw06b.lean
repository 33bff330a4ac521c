/-
  Layer 6's laws: ReseqHoles.
-/
import Derived.Test.YtagehacnpdlpnaaLaw06
import Derived.Deep.RegionHeld3
import Derived.Deep.CutBlock
namespace Go.Proofs.Ytagehacnpdlpnaa
open Go.RowKit

theorem op_put {w W : World} {bs : List (Nat × TypeId × Array Value)} {gx : Nat} {t : TypeId} {cs : Array Value} {o : Oper} {a : Act} {K : Act → World → Prop} {Q : Exit → Act → World → Prop} (ty : TypeId) (x y : Operand) (ho : o.op = .store ty x y)
    (vs : Array Value) (hx : a.eval x = .pointer (some ⟨gx, 0, none⟩)) (hy : a.eval y = .agg vs) (h : RI w ((gx, t, cs) :: bs) W) (hsz : cs.size = vs.size)
    (hi : (Try.prog.info? ty).map (·.size) = some vs.size) (h1 : vs.all (·.oneCell') = true)
    (hk : ∀ w', RI w ((gx, t, vs) :: bs) w' → (∀ k, k ≠ gx → w'.heap[k]? = W.heap[k]?) → K (a.put o.dst undef) w') : o.wp Try.prog a W K Q :=
  wp_store_mid ty x y ho gx 0 vs hx hy (there_box h.bx 0 vs.size (by omega)) hi h1 (hk _ (by have h' := h.sets 0 vs.toList; rw [setAll_whole cs vs hsz] at h'; exact h') fun k hne => block_sets gx vs.toList W 0 k hne)
theorem step_put {w W : World} {bs : List (Nat × TypeId × Array Value)} {gx : Nat} {t : TypeId} {cs : Array Value} {ops : Array Oper} {o : Oper} {a : Act} {K : Act → World → Prop} {Q : Exit → Act → World → Prop} {E : Prop} (hgd : o.guard = none) (ty : TypeId) (x y : Operand) (ho : o.op = .store ty x y)
    (vs : Array Value) (hx : a.eval x = .pointer (some ⟨gx, 0, none⟩)) (hy : a.eval y = .agg vs) (h : RI w ((gx, t, cs) :: bs) W) (hsz : cs.size = vs.size)
    (hi : (Try.prog.info? ty).map (·.size) = some vs.size) (h1 : vs.all (·.oneCell') = true)
    (hk : ∀ w', RI w ((gx, t, vs) :: bs) w' → (∀ k, k ≠ gx → w'.heap[k]? = W.heap[k]?) → K (a.put o.dst undef) w') : if Region.wanted o (yielded ops a.tmps) = true then Oper.wp Try.prog o a W K Q else E := by
  have hw : Region.wanted o (yielded ops a.tmps) = true := by simp [Region.wanted, hgd]
  rw [if_pos hw]
  exact op_put ty x y ho vs hx hy h hsz hi h1 hk
def zH : Array Value := #[.int .i64 0, .slice none 0 0]
/-- What stands behind the region in which an item comes. -/
structure HoleR (W : World) (kx : Int) (A : Option Addr) (n c : Nat) (lx : List Itm) (r : Ln × List Itm × Int) (s7 s8 s9 : Value) (wx : World) : Prop where
  ex : ∃ g7 A2 n2 c2 A3 n3 c3, s7 = .pointer (some ⟨g7, 0, none⟩) ∧ s8 = .slice A3 n3 c3 ∧ s9 = .int .i64 r.2.2 ∧ r.1.held.length = n2 ∧ r.2.1.length = n3 ∧
    RI W [(g7, 26, #[.int .i64 r.1.next, .slice A2 n2 c2]), (W.heap.size, 26, #[.int .i64 kx, .slice A n c])] wx ∧ Sl wx A2 n2 c2 20 (icells r.1.held) ∧ Sl wx A3 n3 c3 20 (icells r.2.1) ∧ Sl wx A n c 20 (icells lx)
theorem op_itm {o : Oper} {a : Act} {W : World} {K : Act → World → Prop} {Q : Exit → Act → World → Prop} (x : Operand) (ho : o.op = .load 35 x) (b off : Nat) (hx : a.eval x = .pointer (some ⟨b, off, none⟩)) (y : Itm) (hc : W.rangeAt b off y.cells) (hk : K (a.put o.dst (.agg y.arr)) W) : o.wp Try.prog a W K Q :=
  wp_load_mid 35 x ho b off hx y.cells _ hc Try.underlying35 rfl infoI hk
theorem chain_cons {q n' : Int} {l : List Itm} {j : Nat} (hj : j < l.length) (h : Chain q (l.drop j) n') : l[j].fr ≤ q ∧ q < l[j].till ∧ Chain l[j].till (l.drop (j + 1)) n' := by
  rw [List.drop_eq_getElem_cons hj] at h
  exact h
theorem y_load {P : Program} {ops : Array Oper} {S : World → Prop} {o : Oper} {a : Act} {g : Nat} {t : TypeId} {cs : Array Value} (hw : Region.wanted o (yielded ops a.tmps) = true) (hS : ∀ w, S w → Box w g t cs) (ty : TypeId) (x : Operand) (ho : o.op = .load ty x) (hx : a.eval x = .pointer (some ⟨g, 0, none⟩)) (d : TypeDesc)
    (hu : P.underlying ty = some d) (hd : (match d with | .struct _ | .array _ _ => true | _ => false) = true) (hi : (P.info? ty).map (·.size) = some cs.size) : YieldsIf P ops S o (.agg cs) a :=
  .inl ⟨hw, fun w hc => by unfold execOp; simp only [ho, hx, Instr.loadAt, Instr.sureAddr, Sem.run_bind, Sem.run_pure, Result.andThen_ok, run_loadVar_row w g t ty cs (0, 0) d (hS w hc) hu hd hi]⟩
theorem y_itm {ops : Array Oper} {S : World → Prop} {o : Oper} {a : Act} {g off : Nat} (hw : Region.wanted o (yielded ops a.tmps) = true) (x : Operand) (ho : o.op = .load 35 x) (hx : a.eval x = .pointer (some ⟨g, off, none⟩)) (y : Itm) (hS : ∀ w, S w → w.rangeAt g off y.cells) : YieldsIf Try.prog ops S o (.agg y.arr) a :=
  yieldsIf_load_mid hw 35 x ho g off hx y.cells _ hS Try.underlying35 rfl infoI
theorem y_move {P : Program} {ops : Array Oper} {S : World → Prop} {o : Oper} {a : Act} (hw : Region.wanted o (yielded ops a.tmps) = true) (x : Operand) (ho : o.op = .move x ∨ o.op = .assign x) (v : Value) (hx : a.eval x = v) : YieldsIf P ops S o v a :=
  .inl ⟨hw, fun w _ => by rcases ho with ho | ho <;> (unfold execOp; simp only [ho, hx, Sem.run_pure])⟩
set_option maxRecDepth 100000 in
set_option maxHeartbeats 4000000 in
theorem walk_ReseqHoles (k0 : Int) (A0 : Option Addr) (n0 c0 : Nat) (l0 : List Itm) (ln0 : l0.length = n0) (A1 : Option Addr) (n1 c1 : Nat) (l1 : List Itm) (ln1 : l1.length = n1) (W : World)
    (s0 : Sl W A0 n0 c0 20 (icells l0)) (s1 : Sl W A1 n1 c1 20 (icells l1)) (_ : True) :
    Calls Try.prog 4 #[.agg #[.int .i64 k0, .slice A0 n0 c0], .slice A1 n1 c1] W fun e W' => e = .returned (.bool true) ∧ Below W.heap.size W W' := by
  have HI := Lib.hid ((RI.start W).add 26 #[.int .i64 k0, .slice A0 n0 c0])
  have HA := Lib.hid (awake06 (W.alloc (.cells #[.int .i64 k0, .slice A0 n0 c0] 26)))
  have HRi := Lib.hid (fun (kx : Int) (A : Option Addr) (n c : Nat) (lx : List Itm) (hl : lx.length = n) (V : World) (h : Sl V A n c 20 (icells lx)) => own_Right kx A n c lx hl V h)
  have HL0 := Lib.hid ln0
  have HL1 := Lib.hid ln1
  have HS := Lib.hid (s0.on HI.out.below)
  have HT := Lib.hid s1
  have hc0 : c0 ≤ 9223372036854775807 := by have := s0.cap; unfold maxLen at this; omega
  have hn0 := s0.le
  have hc1 : c1 ≤ 9223372036854775807 := by have := s1.cap; unfold maxLen at this; omega
  have hn1 := s1.le
  clear s0 s1 ln0 ln1
  have hf1 := (HI.out.cell 1).trans (show _ = some (.slice A0 n0 c0) from rfl)
  by_cases hbig : 80 < n0
  · have hbigI : (80 : Int) < (n0 : Int) := by omega
    clear HRi hbig
    go_enter Try.func4, Try.ntmps4
    go_wp2_with fail
    refine HA.out.mono ?_
    rintro e w1 ⟨rfl, hb1⟩
    have HI1 := Lib.hid (HI.out.on hb1)
    have hf1 := (HI1.out.cell 1).trans (show _ = some (.slice A0 n0 c0) from rfl)
    clear hb1
    go_wp2
    go_ret
    exact ⟨rfl, HI1.out.below⟩
  · have hbigI : decide ((80 : Int) < (n0 : Int)) = false := decide_eq_false (by omega)
    clear hbig
    have hr0 := HRi.out k0 A0 n0 c0 l0 HL0.out
    generalize hR : Ln.rightB ⟨k0, l0⟩ = R at *
    have HR := Lib.hid hR
    have HR0 := Lib.hid hr0
    clear hR hr0 hf1
    rcases R with _ | _
    · go_enter Try.func4, Try.ntmps4
      go_wp2_with fail
      refine HA.out.mono ?_
      rintro e w1 ⟨rfl, hb1⟩
      have HS := Lib.hid (HS.out.on hb1)
      have HI := Lib.hid (HI.out.on hb1)
      have hf1 := (HI.out.cell 1).trans (show _ = some (.slice A0 n0 c0) from rfl)
      clear hb1 HA
      go_wp2_with (first | (go_guarded; refine box_load HI.out.bx 26 (.tmp 2) rfl rfl _ Try.underlying26 rfl infoL ?_; try simp only [Act.put, List.setIfInBounds_toArray, List.set_cons_zero, List.set_cons_succ]) | (go_at_call 8; refine (HR0.out _ HS.out).mono ?_; rintro e w2 ⟨rfl, hb2⟩))
      go_ret
      exact ⟨rfl, HI.out.below.trans (hb2.mono HI.out.below.size)⟩
    · go_enter Try.func4, Try.ntmps4
      go_wp2_with fail
      refine HA.out.mono ?_
      rintro e w1 ⟨rfl, hb1⟩
      have HS := Lib.hid (HS.out.on hb1)
      have HI := Lib.hid (HI.out.on hb1)
      have hf1 := (HI.out.cell 1).trans (show _ = some (.slice A0 n0 c0) from rfl)
      clear hb1 HA
      go_upto_region 5 with (first | (go_guarded; refine box_load HI.out.bx 26 (.tmp 2) rfl rfl _ Try.underlying26 rfl infoL ?_; try simp only [Act.put, List.setIfInBounds_toArray, List.set_cons_zero, List.set_cons_succ]) | (go_at_call 8; refine (HR0.out _ HS.out).mono ?_; rintro e w2 ⟨rfl, hb2⟩; have HI := Lib.hid (HI.out.on hb2); have HS := Lib.hid (HS.out.on hb2); clear hb2))
      have hf0 := (HI.out.cell 0).trans (show _ = some (.int .i64 k0) from rfl)
      clear HR0 hf1
      go_wp2_with fail
      go_loopw [5, 6] (fun s5 s6 wr => ∃ (i : Nat) (kx : Int) (A : Option Addr) (n c : Nat) (lx : List Itm), i ≤ n1 ∧ i ≤ 200 ∧ s6 = .int .i64 (i : Nat) ∧ s5 = .int .i64 kx ∧ n ≤ 64 ∧ Hid (lx.length = n) ∧ Hid (Ln.rightB ⟨kx, lx⟩ = true) ∧ Hid (RI W [(W.heap.size, 26, #[.int .i64 kx, .slice A n c])] wr) ∧ Hid (Sl wr A n c 20 (icells lx))) (fun _ s6 _ => 200 - (intOf s6).toNat)
      case atStart => exact ⟨0, k0, A0, n0, c0, l0, Nat.zero_le _, Nat.zero_le _, rfl, rfl, by have := (right_len HR.out).1; rw [HL0.out] at this; exact this, HL0, HR, HI, HS⟩
      case round =>
        clear HI HS HR
        obtain ⟨i, kx, A, n, c, lx, hi1, hi2, rfl, rfl, hn64, HL, HR, HI, HS⟩ := hrel
        by_cases hlt : i < n1
        · by_cases hlt2 : i < 200
          · go_upto_region 9 with (fail)
            have hil : i < l1.length := by rw [HL1.out]; exact hlt
            obtain ⟨b, off, rfl, hra, -, -⟩ := HT.out.row.itm hil
            have hco := fun (V : World) (h : Sl V A n c 20 (icells lx)) => own_Come kx A n c lx HL.out l1[i] V h (by omega)
            have HRa := Lib.hid hra
            clear hra
            generalize l1[i] = y at *
            generalize hr : comeR ⟨kx, lx⟩ y = r at *
            have Hr := Lib.hid hr
            have HCo := Lib.hid hco
            clear hr hco
            have hId := HI.out.on (Below.refl _ _).drew
            have hSd := HS.out.on (Below.refl _ _).drew
            go_cut [7, 8, 9] (fun s7 s8 s9 wx => Hid (HoleR W kx A n c lx r s7 s8 s9 wx))
            case first =>
              refine wp_region_held_drew (S := fun V => RI W [(W.heap.size, 26, #[.int .i64 kx, .slice A n c])] V ∧ Sl V A n c 20 (icells lx)) (by kernel_rfl) ⟨hId, hSd⟩ (fun hHeld => ?_)
              have HCo := Lib.hid (fun (V : World) (hI : RI W [(W.heap.size, 26, #[.int .i64 kx, .slice A n c])] V) (h : Sl V A n c 20 (icells lx)) => (show Calls Try.prog 7 #[.agg #[.int .i64 kx, .slice A n c], .agg y.arr] V (fun e w' => ∃ A2 n2 c2 A3 n3 c3, e = .returned (.tuple #[.agg #[.int .i64 r.1.next, .slice A2 n2 c2], .slice A3 n3 c3, .int .i64 r.2.2]) ∧ r.1.held.length = n2 ∧ r.2.1.length = n3 ∧ Sl w' A2 n2 c2 20 (icells r.1.held) ∧ Sl w' A3 n3 c3 20 (icells r.2.1) ∧ RI W [(W.heap.size, 26, #[.int .i64 kx, .slice A n c])] w' ∧ Sl w' A n c 20 (icells lx) ∧ Below V.heap.size V w') from (HCo.out V h).mono fun e w' ⟨A2, n2, c2, A3, n3, c3, he, h1, h2, h3, h4, h5⟩ => ⟨A2, n2, c2, A3, n3, c3, he, h1, h2, h3, h4, hI.on h5, h.on h5, h5⟩))
              refine wpAnyH_take (i := 0) rfl (by kernel_rfl) (by kernel_rfl) (by kernel_rfl) (fun _ _ _ h => h) (y_load rfl (fun V h => h.1.bx) 26 (.tmp 2) rfl rfl _ Try.underlying26 rfl infoL) hHeld ?_
              try simp only [Act.put]
              refine wpAnyH_take (i := 1) rfl (by kernel_rfl) (by kernel_rfl) (by kernel_rfl) (fun _ _ _ h => h) (y_move rfl (.tmp 1) (.inl rfl) (.slice (some ⟨b, off, none⟩) n1 c1) rfl) hHeld ?_
              try simp only [Act.put]
              refine wpAnyH_take (i := 2) rfl (by kernel_rfl) (by kernel_rfl) (by kernel_rfl) (fun _ _ _ h => h) (y_move rfl (.tmp 6) (.inl rfl) (.int .i64 (i : Nat)) rfl) hHeld ?_
              try simp only [Act.put]
              refine wpAnyH_take (i := 3) (v := (.pointer (some ⟨b, off + i * 20, none⟩))) rfl (by kernel_rfl) (by kernel_rfl) (by kernel_rfl) (fun _ _ _ h => h) (Or.inl ⟨by rfl, fun V hV => by go_simp⟩) hHeld ?_
              try simp only [Act.put]
              refine wpAnyH_take (i := 4) rfl (by kernel_rfl) (by kernel_rfl) (by kernel_rfl) (fun _ _ _ h => h) (y_itm rfl (.tmp 38) rfl rfl y (fun V h => range_on h.1.below HRa.out)) hHeld ?_
              try simp only [Act.put]
              refine wpAnyH_ready (rs := [5, 10]) (by kernel_rfl) (by simp) ?_
              refine AllReadyH.cons rfl (fun K hK => ?_) ?_
              · go_simp
                refine (HCo.out _ hHeld.1 hHeld.2).mono ?_
                rintro e w3 ⟨A2, n2, c2, A3, n3, c3, rfl, hl2, hl3, hs2, hs3, hI3, hS3, hb3⟩
                go_wp2_with fail
                refine hK.out _ _ ⟨hI3, hS3⟩ (fun hHeld => ?_)
                clear hK K
                try simp only [Act.put]
                refine wpAnyH_take (i := 6) rfl (by kernel_rfl) (by kernel_rfl) (by kernel_rfl) (fun _ _ _ h => h) (y_move rfl (.tmp 40) (.inl rfl) (.tuple #[.agg #[.int .i64 r.1.next, .slice A2 n2 c2], .slice A3 n3 c3, .int .i64 r.2.2]) rfl) hHeld ?_
                try simp only [Act.put]
                refine wpAnyH_take (i := 7) (v := (.agg #[.int .i64 r.1.next, .slice A2 n2 c2])) rfl (by kernel_rfl) (by kernel_rfl) (by kernel_rfl) (fun _ _ _ h => h) (Or.inl ⟨by rfl, fun V hV => by go_simp⟩) hHeld ?_
                try simp only [Act.put]
                refine wpAnyH_take (i := 8) (v := (.slice A3 n3 c3)) rfl (by kernel_rfl) (by kernel_rfl) (by kernel_rfl) (fun _ _ _ h => h) (Or.inl ⟨by rfl, fun V hV => by go_simp⟩) hHeld ?_
                try simp only [Act.put]
                refine wpAnyH_take (i := 9) (v := (.int .i64 r.2.2)) rfl (by kernel_rfl) (by kernel_rfl) (by kernel_rfl) (fun _ _ _ h => h) (Or.inl ⟨by rfl, fun V hV => by go_simp⟩) hHeld ?_
                try simp only [Act.put]
                refine wpAnyH_ready (rs := [10]) (by kernel_rfl) (by simp) ?_
                refine AllReadyH.cons rfl (fun K hK => ?_) AllReadyH.nil
                have hbz := (Below.refl w3.heap.size w3).alloc (Nat.le_refl _) (.cells zH 26)
                go_simp
                refine hK.out _ _ ⟨hHeld.1.on ((Below.refl _ _).alloc (Nat.le_refl _) _), hHeld.2.on ((Below.refl _ _).alloc (Nat.le_refl _) _)⟩ (fun hHeld => ?_)
                clear hK K
                try simp only [Act.put]
                refine wpAnyH_ready (rs := [11]) (by kernel_rfl) (by simp) ?_
                refine AllReadyH.cons rfl (fun K hK => ?_) AllReadyH.nil
                refine step_put rfl 26 (.tmp 7) (.tmp 41) rfl #[.int .i64 r.1.next, .slice A2 n2 c2] rfl rfl (hI3.add 26 zH) rfl infoL (by simp [Value.oneCell']) ?_
                intro w5 hI5 hf5
                refine hK.out _ _ ⟨hI5.tail, hHeld.2.far (hI3.add 26 zH).bx (Nat.le_refl 2) hf5⟩ (fun hHeld => ?_)
                clear hK K
                try simp only [Act.put]
                refine wpAnyH_ready (rs := [12]) (by kernel_rfl) (by simp) ?_
                refine AllReadyH.cons rfl (fun K hK => ?_) AllReadyH.nil
                go_simp
                refine hK.out _ _ hHeld (fun hHeld => ?_)
                clear hK K
                try simp only [Act.put]
                refine wpAnyH_ready (rs := [13]) (by kernel_rfl) (by simp) ?_
                refine AllReadyH.cons rfl (fun K hK => ?_) AllReadyH.nil
                go_simp
                refine hK.out _ _ hHeld (fun hHeld => ?_)
                clear hK K
                try simp only [Act.put]
                refine wpAnyH_done (by kernel_rfl) ?_ _
                go_wp2
                go_meet
                case rel => exact Lib.hid ⟨_, A2, n2, c2, A3, n3, c3, rfl, rfl, rfl, hl2, hl3, hI5, (hs2.on hbz).far (hI3.add 26 zH).bx (Nat.le_refl 2) hf5, (hs3.on hbz).far (hI3.add 26 zH).bx (Nat.le_refl 2) hf5, hHeld.2⟩
              · refine AllReadyH.cons rfl (fun K hK => ?_) AllReadyH.nil
                have hIz := hHeld.1.add 26 zH
                go_simp
                refine hK.out _ _ ⟨hHeld.1.on ((Below.refl _ _).alloc (Nat.le_refl _) _), hHeld.2.on ((Below.refl _ _).alloc (Nat.le_refl _) _)⟩ (fun hHeld => ?_)
                clear hK K
                try simp only [Act.put]
                refine wpAnyH_ready (rs := [5]) (by kernel_rfl) (by simp) ?_
                refine AllReadyH.cons rfl (fun K hK => ?_) AllReadyH.nil
                go_simp
                refine (HCo.out _ hHeld.1 hHeld.2).mono ?_
                rintro e w3 ⟨A2, n2, c2, A3, n3, c3, rfl, hl2, hl3, hs2, hs3, hI3, hS3, hb3⟩
                go_wp2_with fail
                refine hK.out _ _ ⟨hI3, hS3⟩ (fun hHeld => ?_)
                clear hK K
                try simp only [Act.put]
                refine wpAnyH_take (i := 6) rfl (by kernel_rfl) (by kernel_rfl) (by kernel_rfl) (fun _ _ _ h => h) (y_move rfl (.tmp 40) (.inl rfl) (.tuple #[.agg #[.int .i64 r.1.next, .slice A2 n2 c2], .slice A3 n3 c3, .int .i64 r.2.2]) rfl) hHeld ?_
                try simp only [Act.put]
                refine wpAnyH_take (i := 7) (v := (.agg #[.int .i64 r.1.next, .slice A2 n2 c2])) rfl (by kernel_rfl) (by kernel_rfl) (by kernel_rfl) (fun _ _ _ h => h) (Or.inl ⟨by rfl, fun V hV => by go_simp⟩) hHeld ?_
                try simp only [Act.put]
                refine wpAnyH_take (i := 8) (v := (.slice A3 n3 c3)) rfl (by kernel_rfl) (by kernel_rfl) (by kernel_rfl) (fun _ _ _ h => h) (Or.inl ⟨by rfl, fun V hV => by go_simp⟩) hHeld ?_
                try simp only [Act.put]
                refine wpAnyH_take (i := 9) (v := (.int .i64 r.2.2)) rfl (by kernel_rfl) (by kernel_rfl) (by kernel_rfl) (fun _ _ _ h => h) (Or.inl ⟨by rfl, fun V hV => by go_simp⟩) hHeld ?_
                try simp only [Act.put]
                refine wpAnyH_ready (rs := [11]) (by kernel_rfl) (by simp) ?_
                refine AllReadyH.cons rfl (fun K hK => ?_) AllReadyH.nil
                refine step_put rfl 26 (.tmp 7) (.tmp 41) rfl #[.int .i64 r.1.next, .slice A2 n2 c2] rfl rfl (hIz.on hb3) rfl infoL (by simp [Value.oneCell']) ?_
                intro w5 hI5 hf5
                refine hK.out _ _ ⟨hI5.tail, hHeld.2.far (hIz.on hb3).bx (Nat.le_refl 2) hf5⟩ (fun hHeld => ?_)
                clear hK K
                try simp only [Act.put]
                refine wpAnyH_ready (rs := [12]) (by kernel_rfl) (by simp) ?_
                refine AllReadyH.cons rfl (fun K hK => ?_) AllReadyH.nil
                go_simp
                refine hK.out _ _ hHeld (fun hHeld => ?_)
                clear hK K
                try simp only [Act.put]
                refine wpAnyH_ready (rs := [13]) (by kernel_rfl) (by simp) ?_
                refine AllReadyH.cons rfl (fun K hK => ?_) AllReadyH.nil
                go_simp
                refine hK.out _ _ hHeld (fun hHeld => ?_)
                clear hK K
                try simp only [Act.put]
                refine wpAnyH_done (by kernel_rfl) ?_ _
                go_wp2
                go_meet
                case rel => exact Lib.hid ⟨_, A2, n2, c2, A3, n3, c3, rfl, rfl, rfl, hl2, hl3, hI5, hs2.far (hIz.on hb3).bx (Nat.le_refl 2) hf5, hs3.far (hIz.on hb3).bx (Nat.le_refl 2) hf5, hHeld.2⟩
            case rest =>
              obtain ⟨⟨nx, l2⟩, told, kw⟩ := r
              obtain ⟨g7, A2, n2, c2, A3, n3, c3, rfl, rfl, rfl, hl2, hl3, hI2, hs2, hs3, hso⟩ := hcut.out.ex
              clear hcut hId hSd HI HS
              dsimp only at hl2 hl3 hI2 hs2 hs3
              have HJ := Lib.hid hI2
              have HS2 := Lib.hid hs2
              have HS3 := Lib.hid hs3
              have HSo := Lib.hid hso
              have hn3 := hs3.le
              have hc3 : c3 ≤ 9223372036854775807 := by have := hs3.cap; unfold maxLen at this; omega
              have HL2 := Lib.hid hl2
              have HL3 := Lib.hid hl3
              clear hI2 hs2 hs3 hso hl2 hl3 HCo
              have hfin : Ln.rightB ⟨nx, l2⟩ = true ∧ Chain kx told nx := by
                rcases hmb : y.mayB with _ | _
                · have h := Hr.out
                  rw [come_no (by rw [HR.out, hmb]; rfl)] at h
                  simp only [Prod.mk.injEq, Ln.mk.injEq] at h
                  obtain ⟨⟨rfl, rfl⟩, rfl, rfl⟩ := h
                  exact ⟨HR.out, rfl⟩
                · have h := come_spec HR.out hmb
                  rw [Hr.out] at h
                  exact ⟨h.1, h.2.1⟩
              have HF := Lib.hid hfin
              clear hfin
              have HRr := Lib.hid (fun (V : World) (h : Sl V A2 n2 c2 20 (icells l2)) => HRi.out nx A2 n2 c2 l2 HL2.out V h)
              rw [HF.out.1] at HRr
              have HMa := Lib.hid (fun V : World => own_May y V)
              go_upto_region 10 with (fail)
              go_cut [79] (fun s79 wx => s79 = .bool false ∧ Hid (RI W [(g7, 26, #[.int .i64 nx, .slice A2 n2 c2]), (W.heap.size, 26, #[.int .i64 kx, .slice A n c])] wx ∧ Sl wx A2 n2 c2 20 (icells l2) ∧ Sl wx A3 n3 c3 20 (icells told)))
              case first =>
                rcases hmb : y.mayB with _ | _
                · have h := Hr.out
                  rw [come_no (by rw [HR.out, hmb]; rfl)] at h
                  simp only [Prod.mk.injEq, Ln.mk.injEq] at h
                  obtain ⟨⟨rfl, rfl⟩, rfl, rfl⟩ := h
                  obtain rfl : n3 = 0 := HL3.out.symm
                  obtain rfl : n2 = n := HL2.out.symm.trans HL.out
                  rw [hmb] at HMa
                  have HSm := Lib.hid (fun (V : World) (h1 : Sl V A2 n2 c2 20 (icells lx)) (h2 : Sl V A n2 c 20 (icells lx)) => ref_Same6 kx A2 n2 c2 A c lx HL.out V h1 h2)
                  clear hmb HF Hr HRi
                  go_wp2_with (first | (refine wpList_load_row rfl 26 (.tmp 7) rfl _ rfl 26 _ (0, 0) _ HJ.out.bx Try.underlying26 rfl infoL ?_) | (go_at_call 8; refine (HRr.out _ HS2.out).mono ?_; rintro e w4 ⟨rfl, hb4⟩; have HJ := Lib.hid (HJ.out.on hb4); have HS2 := Lib.hid (HS2.out.on hb4); have HS3 := Lib.hid (HS3.out.on hb4); have HSo := Lib.hid (HSo.out.on hb4); clear hb4; have f0 := (HJ.out.cell 0).trans (show _ = some (Value.int .i64 _) from rfl); have f2 := (HJ.out.swap.cell 0).trans (show _ = some (Value.int .i64 _) from rfl)) | (go_guarded; refine op_itm (.tmp 53) rfl b (off + i * 20) rfl y (range_on HJ.out.below HRa.out) ?_; try simp only [Act.put, List.setIfInBounds_toArray, List.set_cons_zero, List.set_cons_succ]) | (go_at_call 9; refine (HMa.out _).mono ?_; rintro e w5 ⟨rfl, hb5⟩; have HJ := Lib.hid (HJ.out.on hb5); have HS2 := Lib.hid (HS2.out.on hb5); have HS3 := Lib.hid (HS3.out.on hb5); have HSo := Lib.hid (HSo.out.on hb5); clear hb5; have f0 := (HJ.out.cell 0).trans (show _ = some (Value.int .i64 _) from rfl); have f2 := (HJ.out.swap.cell 0).trans (show _ = some (Value.int .i64 _) from rfl)) | (go_guarded; refine box_load HJ.out.bx 26 (.tmp 7) rfl rfl _ Try.underlying26 rfl infoL ?_; try simp only [Act.put, List.setIfInBounds_toArray, List.set_cons_zero, List.set_cons_succ]) | (go_guarded; refine box_load HJ.out.swap.bx 26 (.tmp 2) rfl rfl _ Try.underlying26 rfl infoL ?_; try simp only [Act.put, List.setIfInBounds_toArray, List.set_cons_zero, List.set_cons_succ]) | (go_at_call 10; refine (HSm.out _ HS2.out HSo.out).mono ?_; rintro e w6 ⟨rfl, hb6⟩; have HJ := Lib.hid (HJ.out.on hb6); have HS2 := Lib.hid (HS2.out.on hb6); have HS3 := Lib.hid (HS3.out.on hb6); have HSo := Lib.hid (HSo.out.on hb6); clear hb6; have f0 := (HJ.out.cell 0).trans (show _ = some (Value.int .i64 _) from rfl); have f2 := (HJ.out.swap.cell 0).trans (show _ = some (Value.int .i64 _) from rfl)))
                  go_meet
                  case rel => exact ⟨rfl, Lib.hid ⟨HJ.out, HS2.out, HS3.out⟩⟩
                · have h := come_spec HR.out hmb
                  rw [Hr.out] at h
                  dsimp only at h
                  have H := Lib.hid h
                  clear h hmb HRi
                  by_cases hk1 : kw = 1
                  · have e0 : (kw == 0) = false := by simp [hk1]
                    have e1 : (kw != 1) = false := by simp [hk1]
                    clear hk1 H
                    go_wp2_with (first | (refine wpList_load_row rfl 26 (.tmp 7) rfl _ rfl 26 _ (0, 0) _ HJ.out.bx Try.underlying26 rfl infoL ?_) | (go_at_call 8; refine (HRr.out _ HS2.out).mono ?_; rintro e w4 ⟨rfl, hb4⟩; have HJ := Lib.hid (HJ.out.on hb4); have HS2 := Lib.hid (HS2.out.on hb4); have HS3 := Lib.hid (HS3.out.on hb4); have HSo := Lib.hid (HSo.out.on hb4); clear hb4; have f0 := (HJ.out.cell 0).trans (show _ = some (Value.int .i64 _) from rfl); have f2 := (HJ.out.swap.cell 0).trans (show _ = some (Value.int .i64 _) from rfl)))
                    go_meet
                    case rel => exact ⟨rfl, Lib.hid ⟨HJ.out, HS2.out, HS3.out⟩⟩
                  · have e0 : (kw == 0) = false := by simp [H.out.2.2.2.1]
                    have e1 : (kw != 1) = true := by simp [hk1]
                    have hto := H.out.2.2.1 hk1
                    obtain ⟨rfl, rfl⟩ := hto
                    obtain rfl : n3 = 0 := HL3.out.symm
                    clear hk1 H
                    go_wp2_with (first | (refine wpList_load_row rfl 26 (.tmp 7) rfl _ rfl 26 _ (0, 0) _ HJ.out.bx Try.underlying26 rfl infoL ?_) | (go_at_call 8; refine (HRr.out _ HS2.out).mono ?_; rintro e w4 ⟨rfl, hb4⟩; have HJ := Lib.hid (HJ.out.on hb4); have HS2 := Lib.hid (HS2.out.on hb4); have HS3 := Lib.hid (HS3.out.on hb4); have HSo := Lib.hid (HSo.out.on hb4); clear hb4; have f0 := (HJ.out.cell 0).trans (show _ = some (Value.int .i64 _) from rfl); have f2 := (HJ.out.swap.cell 0).trans (show _ = some (Value.int .i64 _) from rfl)))
                    go_meet
                    case rel => exact ⟨rfl, Lib.hid ⟨HJ.out, HS2.out, HS3.out⟩⟩
              case rest =>
                obtain ⟨rfl, hq⟩ := hcut
                clear HJ HS2 HS3 HSo HRr HMa Hr HRa
                have HJ := Lib.hid hq.out.1
                have HS2 := Lib.hid hq.out.2.1
                have HS3 := Lib.hid hq.out.2.2
                clear hq
                have hcn := HF.out.2
                have hn64 := (right_len HF.out.1).1
                rw [HL2.out] at hn64
                have HRn := Lib.hid HF.out.1
                have HCh := Lib.hid hcn
                clear hcn HF
                go_upto_region 12 with (fail)
                go_wp2_with fail
                go_loop [5, 10] (fun s5 s10 => ∃ (j : Nat) (q : Int), j ≤ n3 ∧ s10 = .int .i64 (j : Nat) ∧ s5 = .int .i64 q ∧ Hid (Chain q (told.drop j) nx)) (fun _ s10 => n3 - (intOf s10).toNat)
                case atStart => exact ⟨0, kx, Nat.zero_le _, rfl, rfl, HCh⟩
                case round =>
                  clear HCh
                  obtain ⟨j, q, hj, rfl, rfl, HC⟩ := hrel
                  by_cases hlj : j < n3
                  · have hjl : j < told.length := by rw [HL3.out]; exact hlj
                    obtain ⟨b3, off3, rfl, -, h0, h1⟩ := HS3.out.row.itm hjl
                    have hcc := chain_cons hjl HC.out
                    generalize told[j] = z at *
                    generalize z.fr = fz at *
                    generalize z.till = tz at *
                    have hq1 := hcc.1
                    have hq2 := hcc.2.1
                    have HN := Lib.hid hcc.2.2
                    clear hcc HC
                    go_wp2
                    go_round
                    case rel => exact ⟨j + 1, tz, by omega, by go_num, rfl, HN⟩
                    case measure => simp [intOf]; omega
                  · obtain rfl : j = n3 := by omega
                    obtain rfl : nx = q := by have h := HC.out; rw [List.drop_eq_nil_of_le (by rw [HL3.out]; exact Nat.le_refl _)] at h; exact h
                    clear HC
                    have f0 := (HJ.out.cell 0).trans (show _ = some (Value.int .i64 nx) from rfl)
                    go_upto_region 20 with (fail)
                    go_wp2_with (first | (refine wpList_load_row rfl 26 (.tmp 7) rfl _ rfl 26 _ (0, 0) _ HJ.out.bx Try.underlying26 rfl infoL ?_) | (refine ri_put rfl 26 (.tmp 2) (.tmp 111) rfl #[.int .i64 nx, .slice A2 n2 c2] rfl rfl HJ.out.swap rfl infoL (by simp [Value.oneCell']) ?_; intro w8 hI8 hf8; have HI8 := Lib.hid hI8.swap.tail; have HS8 := Lib.hid (HS2.out.far HJ.out.swap.bx (Nat.le_refl 2) hf8); clear hI8 hf8))
                    go_roundw
                    case rel => exact ⟨i + 1, nx, A2, n2, c2, l2, by omega, by omega, by go_num, rfl, hn64, HL2, HRn, HI8, HS8⟩
                    case measure => simp [intOf]; omega
          · obtain rfl : i = 200 := by omega
            go_wp2
            go_ret
            exact ⟨rfl, HI.out.below⟩
        · obtain rfl : i = n1 := by omega
          go_wp2
          go_ret
          exact ⟨rfl, HI.out.below⟩
end Go.Proofs.Ytagehacnpdlpnaa
