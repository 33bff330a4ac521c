/-
  Layer 7: the program's own way: Come, where it goes on: its contract.
-/
import Derived.Test.YtblkdmbkkimbpaaSessConn
import Derived.Test.YtblkdmbkkimbpaaSessEnter
import Derived.Test.YtblkdmbkkimbpaaMsgOwnRight
namespace Go.Proofs.Ytblkdmbkkimbpaa
open Go.RowKit

theorem Sl.neM {w : World} {A : Option Addr} {n c g : Nat} {t : TypeId} {cs : Array Value} {l : List Mg} (h : Sl w A n c 18 (mcells l)) (hb : Box w g t cs) (hs : cs.size ≤ 17) : mcells l = [] ∨ ∀ a, A = some a → a.block ≠ g ∧ (Value.slice none 0 0).ownBlock ≠ some a.block := by
  cases l with
  | nil => exact .inl rfl
  | cons y r =>
    right
    intro a he
    rcases h.row with h0 | ⟨b, off, rfl, hc⟩
    · exact absurd h0 (by show y.arr.toList ++ mcells r ≠ []; unfold Mg.arr; simp)
    · injection he with he
      subst he
      refine ⟨fun e => ?_, fun h => by cases h⟩
      have h2 := hc 17 (.int .i64 y.ex.time) rfl
      have e : b = g := e
      subst e
      rw [hb.cell, Array.getElem?_eq_none (by omega)] at h2
      cases h2
theorem Fr.le {B : Nat} {W : World} {A : Option Addr} (h : Fr B A) (hB : W.heap.size ≤ B) : Fr W.heap.size A := fun a e => Nat.le_trans hB (h a e)
theorem heed_no {s : Ses} (hR : s.R) {m : Mg} : heedB s m = false ↔ (s.st = 0 ∨ s.st = 1 ∧ m.kind ≠ 1) := by
  have := hR.st
  unfold heedB
  simp only [Bool.or_eq_false_iff, Bool.and_eq_false_iff, decide_eq_false_iff_not]
  omega
theorem hear_R {s : Ses} (h : s.R) {now : Int} (hn : 0 ≤ now ∧ now ≤ 4611686018427387904) : (hearS s now).R := ⟨(show (0 : Int) ≤ 2 ∧ (2 : Int) ≤ 2 by decide), h.ln, h.out, h.every, hn, h.said, h.asked, h.at_⟩
theorem reply_R {s : Ses} (h : s.R) (m : Mg) {now : Int} (hn : 0 ≤ now ∧ now ≤ 4611686018427387904) : (replyS s m now).1.R ∧ (replyS s m now).1.st = s.st ∧ (replyS s m now).2.length ≤ 1 := by
  unfold replyS
  split
  · exact ⟨sayS_R h _ hn, (sayS_len _ _ _).2.1, (sayS_len _ _ _).1⟩
  · split
    · exact ⟨h, rfl, Nat.le_refl _⟩
    · exact ⟨h, rfl, Nat.zero_le _⟩
theorem line_R {s : Ses} (h : s.R) (m : Mg) : (lineS s m).R := ⟨h.st, comeR_right h.ln _, h.out, h.every, h.heard, h.said, h.asked, h.at_⟩
set_option maxRecDepth 100000 in
set_option maxHeartbeats 2000000 in
theorem own_ComeF (s : Ses) (A : Option Addr) (n c : Nat) (m : Mg) (now : Int) (W : World) (hl : s.ln.held.length = n) (hn : n ≤ 100000) (h : Sl W A n c 20 (icells s.ln.held)) (hm : m.In) (hg : s.rightB = true ∧ msgB m = true ∧ tmB now = true) (hhb : heedB s m = true) (h5 : ¬ (m.kind = 5 ∧ m.gap = false)) :
    Calls Try.prog 9 #[.agg (sesArr s A n c), .agg m.arr, .int .i64 now] W (ComeAPost (comeS s m now) W) := by
  have HI := Lib.hid ((((RI.start W).add 29 (sesArr s A n c)).addAt 41 m.arr (W.heap.size + 1) (by simp)).addAt 29 #[.int .i64 0, .int .i64 0, .slice none 0 0, .int .i64 0, .int .i64 0, .int .i64 0, .int .i64 0, .int .i64 0, .int .i64 0, .bool false] (W.heap.size + 1 + 1) (by simp))
  have HS := Lib.hid (h.on HI.out.below)
  have HR := Lib.hid (own_Right7 s A n c _ hl HS.out)
  have HC := Lib.hid (fun (w : World) (h : Sl w A n c 20 (icells s.ln.held)) => own_copied s A n c hl hn w h)
  have HL := Lib.hid hl
  have HTm := Lib.hid (fun w : World => own_isTime7 now w)
  have HM := Lib.hid (fun w : World => (show Calls Try.prog 17 #[.agg m.arr] w (fun e w' => e = .returned (.bool (msgB m)) ∧ Below w.heap.size w w') from own_Right5 m hm w))
  clear h hl hm
  have hbad : ¬ (s.rightB && (msgB m && tmB now)) = false := by rw [hg.1, hg.2.1, hg.2.2]; decide
  have hRR := Ses.right_iff.1 hg.1
  have hmR := msgB_iff.1 hg.2.1
  have hnow : 0 ≤ now ∧ now ≤ 4611686018427387904 := by have := hg.2.2; simpa [tmB] using this
  rw [hg.1] at HR
  rw [hg.2.1] at HM
  rw [hg.2.2] at HTm
  have HHd := Lib.hid (fun V : World => own_heeds s A n c m V)
  rw [hhb] at HHd
  have hh : ¬ (s.st = 0 ∨ s.st = 1 ∧ m.kind ≠ 1) := fun h => by rw [(heed_no hRR (m := m)).2 h] at hhb; cases hhb
  clear hg hhb
  have HFc := Lib.hid (show comeS s m now = (if m.kind = 6 then { (askS (lineS (replyS (hearS s now) m now).1 m) now).1 with st := 0 } else (askS (lineS (replyS (hearS s now) m now).1 m) now).1, (replyS (hearS s now) m now).2 ++ (askS (lineS (replyS (hearS s now) m now).1 m) now).2, tellS (comeR (replyS (hearS s now) m now).1.ln (itemM m)).2.1, false, 0) from (if_neg hbad).trans ((if_neg hh).trans (if_neg h5)))
  have H5 := Lib.hid h5
  have HR1 := Lib.hid (hear_R hRR hnow)
  have HR2 := Lib.hid (reply_R HR1.out m hnow)
  have HR3 := Lib.hid (line_R HR2.out.1 m)
  have HmR := Lib.hid hmR
  clear hbad h5 hh hRR hmR
  go_enter Try.func9, Try.ntmps9
  go_upto_region 1 with (fail)
  go_upto_region 3 with (first | (refine wpList_load_row rfl 29 (.tmp 3) rfl _ rfl 29 (sesArr s A n c) (0, 0) _ HI.out.rot3.bx Try.underlying29 rfl infoS ?_) | (go_at_call 11; refine HR.out.mono ?_; rintro e w2 ⟨rfl, hb2⟩; have HI := Lib.hid (HI.out.on hb2); have HS := Lib.hid (HS.out.on hb2); clear hb2) | (go_guarded; refine box_load HI.out.swap.bx 41 (.tmp 4) rfl rfl _ Try.underlying41 rfl infoM ?_; try simp only [Act.put, List.setIfInBounds_toArray, List.set_cons_zero, List.set_cons_succ]) | (go_at_call 17; refine (HM.out _).mono ?_; rintro e w2b ⟨rfl, hb2⟩; have HI := Lib.hid (HI.out.on hb2); have HS := Lib.hid (HS.out.on hb2); clear hb2) | (go_at_call 14; refine (HTm.out _).mono ?_; rintro e w' ⟨rfl, rfl⟩))
  clear HR HM HTm
  go_upto_region 5 with (first | (refine wpList_load_row rfl 29 (.tmp 3) rfl _ rfl 29 (sesArr s A n c) (0, 0) _ HI.out.rot3.bx Try.underlying29 rfl infoS ?_) | (refine wpList_load_row rfl 41 (.tmp 4) rfl _ rfl 41 m.arr (0, 0) _ HI.out.swap.bx Try.underlying41 rfl infoM ?_) | (go_at_call 18; refine (HHd.out _).mono ?_; rintro e w3a ⟨rfl, hb3⟩; have HI := Lib.hid (HI.out.on hb3); have HS := Lib.hid (HS.out.on hb3); clear hb3))
  clear HHd
  go_upto_region 6 with (first | (refine wpList_load_row rfl 29 (.tmp 3) rfl _ rfl 29 (sesArr s A n c) (0, 0) _ HI.out.rot3.bx Try.underlying29 rfl infoS ?_) | (go_at_call 15; refine (HC.out _ HS.out).mono ?_; rintro e w3 ⟨A3, c3, rfl, hs3, hf3, hb3⟩; have HF3 := Lib.hid (Fr.le hf3 HI.out.below.size); have HI3 := Lib.hid (HI.out.on hb3); have HS3 := Lib.hid hs3; clear hs3 hb3 hf3) | (refine wpList_build_tk rfl (.tmp 36) (.tmp 37) rfl s A3 n c3 now rfl rfl ?_) | (refine ri_put rfl 49 (.tmp 11) (.tmp 38) rfl (tkArr s A3 n c3 now (.slice none 0 0)) rfl rfl ((RI.start w3).add 49 _) rfl infoTk (tk_one _ _ _ _ _) ?_; intro w4 hI4 _; have HT := Lib.hid (TI.mk0 hI4 HL.out HS3.out); clear hI4))
  clear HC HS HI
  go_upto_region 7 with (first | (refine ti_put1 rfl 3 (.tmp 41) (.const (.int .i64 2)) rfl 0 (.int .i64 2) { s with st := 2 } now (.slice none 0 0) rfl rfl rfl HT.out (by decide) (by kernel_rfl) rfl rfl ?_; intro w5 hT5 _; have HTa := Lib.hid hT5; clear hT5) | (refine ti_put1 rfl 2 (.tmp 43) (.tmp 39) rfl 5 (.int .i64 now) { s with st := 2, heard := now } now (.slice none 0 0) rfl rfl rfl HTa.out (by decide) (by kernel_rfl) rfl rfl ?_; intro w6 hT6 _; have HTb := Lib.hid hT6; clear hT6) | (refine ti_put1 rfl 4 (.tmp 45) (.const (.bool false)) rfl 9 (.bool false) (hearS s now) now (.slice none 0 0) rfl rfl rfl HTb.out (by decide) (by kernel_rfl) rfl rfl ?_; intro w7 hT7 _; have HTc := Lib.hid hT7; clear hT7))
  clear HT HTa HTb
  have HIc := Lib.hid (HI3.out.on HTc.out.below)
  have d0 := (HIc.out.swap.cell 0).trans (show _ = some (Value.int .i64 m.kind) from rfl)
  have d6 := (HIc.out.swap.cell 6).trans (show _ = some (Value.bool m.gap) from rfl)
  try simp only [Act.put]
  go_cut [53] (fun s53 wx => s53 = .bool false ∧ Hid (TI w3 w3.heap.size (hearS s now) A3 n c3 now (.slice none 0 0) (.slice none 0 0) [] wx))
  case first =>
    by_cases h5 : m.kind = 5
    · have hgp : m.gap = true := by cases h : m.gap; exact absurd ⟨h5, h⟩ H5.out; rfl
      rw [h5] at d0
      rw [hgp] at d6
      clear h5 hgp
      go_wp2_with fail
      go_meet
      case rel => exact ⟨rfl, HTc⟩
    · have h5b : (m.kind == 5) = false := by rw [beq_eq_false_iff_ne]; exact h5
      clear h5
      go_wp2_with fail
      go_meet
      case rel => exact ⟨rfl, HTc⟩
  case rest =>
  obtain ⟨rfl, HTd⟩ := hcut
  clear HTc HIc d0 d6
  have HTc := HTd
  have HIc := Lib.hid (HI3.out.on HTc.out.below)
  clear HTd
  go_upto_region 11 with (first | (refine wpList_load_row rfl 41 (.tmp 4) rfl _ rfl 41 m.arr (0, 0) _ HIc.out.swap.bx Try.underlying41 rfl infoM ?_) | (go_at_call 19; refine (own_answer _ _ _ _ _ _ _ _ _ _ m HTc.out (Nat.zero_le _) HR1.out.out).mono ?_; rintro e w8 ⟨⟨x8, rfl⟩, v8, hT8, -⟩; rw [List.nil_append] at hT8; have HT8 := Lib.hid hT8; have HI8 := Lib.hid (HI3.out.on hT8.below); clear hT8))
  clear HTc HIc
  obtain ⟨p, hp⟩ : ∃ p, replyS (hearS s now) m now = p := ⟨_, rfl⟩
  rw [hp] at HFc HT8 HR2 HR3
  clear hp
  go_upto_region 12 with (first | (refine wpList_load_row rfl 41 (.tmp 4) rfl _ rfl 41 m.arr (0, 0) _ HI8.out.swap.bx Try.underlying41 rfl infoM ?_) | (go_at_call 20; refine (own_enter _ _ _ _ _ _ _ _ _ _ m HT8.out HR2.out.1 HmR.out).mono ?_; rintro e w9 ⟨A4, n4, c4, Bt, nt, dt, rfl, hlt, hsBt, hfBt, hfA4, hn4, hT9⟩; have HTn := Lib.hid hT9; have HLt := Lib.hid hlt; have HsBt := Lib.hid (And.intro hsBt (HT8.out.fresh hfBt)); have HFr4 := Lib.hid (Fr.le hfA4 (Nat.le_trans HI3.out.below.size HT8.out.below.size)); clear hT9 hlt hsBt hfBt hfA4))
  clear HT8 HI8
  go_upto_region 13 with (first | (go_at_call 21; refine (own_ask _ _ _ _ _ _ _ _ _ _ HTn.out (by have := HR2.out.2.2; omega) HR3.out HR2.out.2.1).mono ?_; rintro e w10 ⟨⟨x10, rfl⟩, v10, hT10, hK10⟩; have HTa := Lib.hid hT10; have HBt := Lib.hid (hK10.sl HsBt.out.1 (.inr HsBt.out.2)); have HIa := Lib.hid (HI3.out.on hT10.below); clear hT10 hK10))
  clear HTn HsBt
  obtain ⟨k, hk⟩ : ∃ k, askS (lineS p.1 m) now = k := ⟨_, rfl⟩
  rw [hk] at HFc HTa
  obtain ⟨q, hq⟩ : ∃ q : Ses × List Mg, q = (if m.kind = 6 then { k.1 with st := 0 } else k.1, p.2 ++ k.2) := ⟨_, rfl⟩
  have HF := Lib.hid (show comeS s m now = (q.1, q.2, tellS (comeR p.1.ln (itemM m)).2.1, false, 0) from by rw [hq]; exact HFc.out)
  have HQ := Lib.hid hq
  clear hk hq HFc
  have d0 := (HIa.out.swap.cell 0).trans (show _ = some (Value.int .i64 m.kind) from rfl)
  go_upto_if 65 with fail
  go_cut [65] (fun s65 wx => s65 = .bool (m.kind == 6) ∧ Hid (TI w3 w3.heap.size q.1 A4 n4 c4 now v10 v10 q.2 wx) ∧ Hid (Sl wx Bt nt dt 18 (mcells (tellS (comeR p.1.ln (itemM m)).2.1))))
  case first =>
    by_cases h6 : m.kind = 6
    · have h6b : (m.kind == 6) = true := by rw [beq_iff_eq]; exact h6
      have HQ6 := Lib.hid (show q = ({ k.1 with st := 0 }, p.2 ++ k.2) from by rw [HQ.out, if_pos h6])
      clear h6
      go_wp2_with (first | (refine ti_put1 rfl 3 (.tmp 67) (.const (.int .i64 0)) rfl 0 (.int .i64 0) { k.1 with st := 0 } now v10 rfl rfl rfl HTa.out (by decide) (by kernel_rfl) rfl rfl ?_; intro w11 hT11 hK11; have HTb := Lib.hid hT11; have HBb := Lib.hid ((hK11 (.slice none 0 0)).sl HBt.out (HBt.out.neM HTa.out.box (by show 12 ≤ 17; decide))); clear hT11 hK11))
      go_meet
      case rel => exact ⟨by rw [h6b], by rw [HQ6.out]; exact HTb, HBb⟩
    · have h6b : (m.kind == 6) = false := by rw [beq_eq_false_iff_ne]; exact h6
      have HQ6 := Lib.hid (show q = (k.1, p.2 ++ k.2) from by rw [HQ.out, if_neg h6])
      clear h6
      go_wp2_with fail
      go_meet
      case rel => exact ⟨by rw [h6b], by rw [HQ6.out]; exact HTa, HBt⟩
  case rest =>
  obtain ⟨rfl, HT9, HBt2⟩ := hcut
  clear HTa HBt HIa HQ d0
  have HBt := HBt2
  have HI9 := Lib.hid (HI3.out.on HT9.out.below)
  clear HBt2
  go_upto_region 15 with (fail)
  obtain ⟨B9, d9, rfl, hsB, -⟩ := Sl.of_own HT9.out.mj.own
  have hTd := HT9.out.on (Below.refl _ _).drew
  have hId := HI9.out.on (Below.refl _ _).drew
  have hBt := HBt.out.on (Below.refl _ _).drew
  refine wp_region_held_drew (S := fun V => Box V w3.heap.size 49 (tkArr q.1 A4 n4 c4 now (.slice B9 q.2.length d9))) (by kernel_rfl) hTd.box (fun hHeld => ?_)
  refine wpAnyH_take (i := 0) (v := .pointer (some ⟨w3.heap.size, 0, none⟩)) (at_place rfl) (by kernel_rfl) (by kernel_rfl) (by kernel_rfl) (fun _ _ _ h => h) (Or.inl ⟨by rfl, fun V hV => by go_simp⟩) hHeld ?_; try simp only [Act.put, List.setIfInBounds_toArray, List.set_cons_zero, List.set_cons_succ]
  refine wpAnyH_take (i := 1) (v := .agg (sesArr q.1 A4 n4 c4)) (at_place rfl) (by kernel_rfl) (by kernel_rfl) (by kernel_rfl) (fun _ _ _ h => h) (y_mid _ rfl (fun V hV => tk_mid hV) 29 _ rfl rfl _ Try.underlying29 rfl infoS) hHeld ?_; try simp only [Act.put, List.setIfInBounds_toArray, List.set_cons_zero, List.set_cons_succ]
  refine wpAnyH_take (i := 2) (v := .pointer (some ⟨w3.heap.size, 11, none⟩)) (at_place rfl) (by kernel_rfl) (by kernel_rfl) (by kernel_rfl) (fun _ _ _ h => h) (Or.inl ⟨by rfl, fun V hV => by go_simp⟩) hHeld ?_; try simp only [Act.put, List.setIfInBounds_toArray, List.set_cons_zero, List.set_cons_succ]
  refine wpAnyH_take (i := 3) (v := .slice B9 q.2.length d9) (at_place rfl) (by kernel_rfl) (by kernel_rfl) (by kernel_rfl) (fun _ _ _ h => h) (Or.inl ⟨by rfl, fun V hV => by have c11 := (hV.cell 11).trans (show _ = some (Value.slice B9 q.2.length d9) from rfl); go_simp⟩) hHeld ?_; try simp only [Act.put, List.setIfInBounds_toArray, List.set_cons_zero, List.set_cons_succ]
  refine wpAnyH_take (i := 4) (v := .slice Bt nt dt) (at_place rfl) (by kernel_rfl) (by kernel_rfl) (by kernel_rfl) (fun _ _ _ h => h) (Or.inl ⟨by rfl, fun V hV => by go_simp⟩) hHeld ?_; try simp only [Act.put, List.setIfInBounds_toArray, List.set_cons_zero, List.set_cons_succ]
  refine wpAnyH_ready (rs := [5]) (by kernel_rfl) (by simp) ?_
  refine AllReadyH.cons (at_place rfl) (fun K hK => ?_) AllReadyH.nil
  refine step_put rfl 29 (.tmp 6) _ rfl (sesArr q.1 A4 n4 c4) rfl rfl hId rfl infoS (ses_one _ _ _ _) ?_
  intro w5 hI5 hf5
  have hne : w3.heap.size ≠ W.heap.size + 1 + 1 := by have := HI3.out.bx.lt; omega
  refine hK.out _ _ ((show w5.heap[w3.heap.size]? = _ from hf5 _ hne).trans hTd.box) (fun hHeld => ?_)
  clear hK K
  try simp only [Act.put]
  refine wpAnyH_take (i := 6) (v := .slice B9 q.2.length d9) (at_place rfl) (by kernel_rfl) (by kernel_rfl) (by kernel_rfl) (fun _ _ _ h => h) (Or.inl ⟨by rfl, fun V hV => by go_simp⟩) hHeld ?_; try simp only [Act.put, List.setIfInBounds_toArray, List.set_cons_zero, List.set_cons_succ]
  refine wpAnyH_take (i := 7) (v := .slice Bt nt dt) (at_place rfl) (by kernel_rfl) (by kernel_rfl) (by kernel_rfl) (fun _ _ _ h => h) (Or.inl ⟨by rfl, fun V hV => by go_simp⟩) hHeld ?_; try simp only [Act.put, List.setIfInBounds_toArray, List.set_cons_zero, List.set_cons_succ]
  refine wpAnyH_take (i := 8) (v := .bool false) (at_place rfl) (by kernel_rfl) (by kernel_rfl) (by kernel_rfl) (fun _ _ _ h => h) (Or.inl ⟨by rfl, fun V hV => by go_simp⟩) hHeld ?_; try simp only [Act.put, List.setIfInBounds_toArray, List.set_cons_zero, List.set_cons_succ]
  refine wpAnyH_take (i := 9) (v := .int .i64 0) (at_place rfl) (by kernel_rfl) (by kernel_rfl) (by kernel_rfl) (fun _ _ _ h => h) (Or.inl ⟨by rfl, fun V hV => by go_simp⟩) hHeld ?_; try simp only [Act.put, List.setIfInBounds_toArray, List.set_cons_zero, List.set_cons_succ]
  refine wpAnyH_done (by kernel_rfl) ?_ _
  go_wp2_with fail
  refine bodyPost_ret (results_cell_tmp4 Try.results9 _ _ _ _ _ (0, 0) _ rfl hI5.bx Try.underlying29 rfl infoS) rfl ?_
  unfold ComeAPost
  rw [HF.out]
  exact ⟨A4, n4, c4, B9, _, d9, Bt, nt, dt, HFr4.out, rfl, hTd.hn, rfl, HLt.out, hTd.sl.farI hId.bx (Nat.le_refl 10) hf5, (hsB.on (Below.refl _ _).drew).farM hId.bx (Nat.le_refl 10) hf5, hBt.farM hId.bx (Nat.le_refl 10) hf5, hI5.below⟩
end Go.Proofs.Ytblkdmbkkimbpaa
