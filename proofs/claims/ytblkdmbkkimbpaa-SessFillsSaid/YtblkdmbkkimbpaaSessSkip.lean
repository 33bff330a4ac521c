/-
  Layer 7: the program's own way: what it skips, what it answers: its contracts.
-/
import Derived.Test.YtblkdmbkkimbpaaSessSay
namespace Go.Proofs.Ytblkdmbkkimbpaa
open Go.RowKit

/-- What answers a Resend. -/
def skipS (s : Ses) (fr now : Int) : Ses × List Mg := if fr < s.out then (s, [resetM fr s.out now]) else (s, [])
set_option maxRecDepth 100000 in
set_option maxHeartbeats 2000000 in
theorem own_skip (w : World) (g : Nat) (s : Ses) (A : Option Addr) (n c : Nat) (now : Int) (v : Value) (L : List Mg) (W : World) (fr : Int) (hT : TI w g s A n c now v v L W) (hl : L.length ≤ 1000) :
    Calls Try.prog 30 #[.pointer (some ⟨g, 0, none⟩), .int .i64 fr] W (TkPost7 w g (skipS s fr now) A n c now v L W) := by
  have c3 := (hT.cell 3).trans (show _ = some (Value.int .i64 s.out) from rfl)
  have HT := Lib.hid hT
  clear hT
  by_cases hc : fr < s.out
  · have HF := Lib.hid (show skipS s fr now = (s, [resetM fr s.out now]) from if_pos hc)
    have hcb : decide (fr < s.out) = true := decide_eq_true hc
    clear hc
    go_enter Try.func30, Try.ntmps30
    go_upto_region 1 with (fail)
    have hTd := HT.out.on (Below.refl _ _).drew
    have c10 := (hTd.cell 10).trans (show _ = some (Value.int .i64 now) from rfl)
    have c3 := (hTd.cell 3).trans (show _ = some (Value.int .i64 s.out) from rfl)
    have c11 := (hTd.cell 11).trans (show _ = some v from rfl)
    have hb1 : Below W.heap.size W ((W.alloc (.cells (resetM fr s.out now).arr 41)).drew) := ((Below.refl W.heap.size W).alloc (Nat.le_refl _) _).drew
    have hT1 := HT.out.on hb1
    have hB1 : Box ((W.alloc (.cells (resetM fr s.out now).arr 41)).drew) W.heap.size 41 (resetM fr s.out now).arr := Box.new W (resetM fr s.out now).arr 41
    refine wp_region_held_drew (S := fun V => V.cell? ⟨g, 10, none⟩ = some (.int .i64 now) ∧ V.cell? ⟨g, 3, none⟩ = some (.int .i64 s.out)) (by kernel_rfl) ⟨c10, c3⟩ (fun hHeld => ?_)
    refine wpAnyH_take (i := 0) (v := .pointer (some ⟨g, 0, none⟩)) (at_place rfl) (by kernel_rfl) (by kernel_rfl) (by kernel_rfl) (fun _ _ _ h => h) (Or.inl ⟨by rfl, fun V hV => by go_simp⟩) hHeld ?_; try simp only [Act.put, List.setIfInBounds_toArray, List.set_cons_zero, List.set_cons_succ]
    refine wpAnyH_take (i := 1) (v := .pointer (some ⟨g, 0, none⟩)) (at_place rfl) (by kernel_rfl) (by kernel_rfl) (by kernel_rfl) (fun _ _ _ h => h) (Or.inl ⟨by rfl, fun V hV => by go_simp⟩) hHeld ?_; try simp only [Act.put, List.setIfInBounds_toArray, List.set_cons_zero, List.set_cons_succ]
    refine wpAnyH_take (i := 2) (v := .pointer (some ⟨g, 0, none⟩)) (at_place rfl) (by kernel_rfl) (by kernel_rfl) (by kernel_rfl) (fun _ _ _ h => h) (Or.inl ⟨by rfl, fun V hV => by go_simp⟩) hHeld ?_; try simp only [Act.put, List.setIfInBounds_toArray, List.set_cons_zero, List.set_cons_succ]
    refine wpAnyH_take (i := 3) (v := .pointer (some ⟨g, 11, none⟩)) (at_place rfl) (by kernel_rfl) (by kernel_rfl) (by kernel_rfl) (fun _ _ _ h => h) (Or.inl ⟨by rfl, fun V hV => by go_simp⟩) hHeld ?_; try simp only [Act.put, List.setIfInBounds_toArray, List.set_cons_zero, List.set_cons_succ]
    refine wpAnyH_take (i := 5) (v := .int .i64 fr) (at_place rfl) (by kernel_rfl) (by kernel_rfl) (by kernel_rfl) (fun _ _ _ h => h) (Or.inl ⟨by rfl, fun V hV => by go_simp⟩) hHeld ?_; try simp only [Act.put, List.setIfInBounds_toArray, List.set_cons_zero, List.set_cons_succ]
    refine wpAnyH_take (i := 6) (v := .pointer (some ⟨g, 0, none⟩)) (at_place rfl) (by kernel_rfl) (by kernel_rfl) (by kernel_rfl) (fun _ _ _ h => h) (Or.inl ⟨by rfl, fun V hV => by go_simp⟩) hHeld ?_; try simp only [Act.put, List.setIfInBounds_toArray, List.set_cons_zero, List.set_cons_succ]
    refine wpAnyH_take (i := 7) (v := .pointer (some ⟨g, 0, none⟩)) (at_place rfl) (by kernel_rfl) (by kernel_rfl) (by kernel_rfl) (fun _ _ _ h => h) (Or.inl ⟨by rfl, fun V hV => by go_simp⟩) hHeld ?_; try simp only [Act.put, List.setIfInBounds_toArray, List.set_cons_zero, List.set_cons_succ]
    refine wpAnyH_take (i := 8) (v := .pointer (some ⟨g, 10, none⟩)) (at_place rfl) (by kernel_rfl) (by kernel_rfl) (by kernel_rfl) (fun _ _ _ h => h) (Or.inl ⟨by rfl, fun V hV => by go_simp⟩) hHeld ?_; try simp only [Act.put, List.setIfInBounds_toArray, List.set_cons_zero, List.set_cons_succ]
    refine wpAnyH_take (i := 9) (v := .int .i64 now) (at_place rfl) (by kernel_rfl) (by kernel_rfl) (by kernel_rfl) (fun _ _ _ h => h) (Or.inl ⟨by rfl, fun V hV => by obtain ⟨h1, h2⟩ := hV; go_simp⟩) hHeld ?_; try simp only [Act.put, List.setIfInBounds_toArray, List.set_cons_zero, List.set_cons_succ]
    refine wpAnyH_take (i := 10) (v := .pointer (some ⟨g, 0, none⟩)) (at_place rfl) (by kernel_rfl) (by kernel_rfl) (by kernel_rfl) (fun _ _ _ h => h) (Or.inl ⟨by rfl, fun V hV => by go_simp⟩) hHeld ?_; try simp only [Act.put, List.setIfInBounds_toArray, List.set_cons_zero, List.set_cons_succ]
    refine wpAnyH_take (i := 11) (v := .pointer (some ⟨g, 0, none⟩)) (at_place rfl) (by kernel_rfl) (by kernel_rfl) (by kernel_rfl) (fun _ _ _ h => h) (Or.inl ⟨by rfl, fun V hV => by go_simp⟩) hHeld ?_; try simp only [Act.put, List.setIfInBounds_toArray, List.set_cons_zero, List.set_cons_succ]
    refine wpAnyH_take (i := 12) (v := .pointer (some ⟨g, 0, none⟩)) (at_place rfl) (by kernel_rfl) (by kernel_rfl) (by kernel_rfl) (fun _ _ _ h => h) (Or.inl ⟨by rfl, fun V hV => by go_simp⟩) hHeld ?_; try simp only [Act.put, List.setIfInBounds_toArray, List.set_cons_zero, List.set_cons_succ]
    refine wpAnyH_take (i := 13) (v := .pointer (some ⟨g, 3, none⟩)) (at_place rfl) (by kernel_rfl) (by kernel_rfl) (by kernel_rfl) (fun _ _ _ h => h) (Or.inl ⟨by rfl, fun V hV => by go_simp⟩) hHeld ?_; try simp only [Act.put, List.setIfInBounds_toArray, List.set_cons_zero, List.set_cons_succ]
    refine wpAnyH_take (i := 14) (v := .int .i64 s.out) (at_place rfl) (by kernel_rfl) (by kernel_rfl) (by kernel_rfl) (fun _ _ _ h => h) (Or.inl ⟨by rfl, fun V hV => by obtain ⟨h1, h2⟩ := hV; go_simp⟩) hHeld ?_; try simp only [Act.put, List.setIfInBounds_toArray, List.set_cons_zero, List.set_cons_succ]
    refine wpAnyH_take (i := 15) (v := .agg (resetM fr s.out now).arr) (at_place rfl) (by kernel_rfl) (by kernel_rfl) (by kernel_rfl) (fun _ _ _ h => h) (Or.inl ⟨by rfl, fun V hV => by first | (go_simp; done) | (go_simp; rfl)⟩) hHeld ?_; try simp only [Act.put, List.setIfInBounds_toArray, List.set_cons_zero, List.set_cons_succ]
    generalize resetM fr s.out now = m2 at *
    have hbm := build_msg m2
    have hms : m2.arr.size = 18 := rfl
    refine wpAnyH_ready (rs := [4, 16]) (by kernel_rfl) (by simp) ?_
    refine AllReadyH.cons (at_place rfl) (fun K hK => ?_) (AllReadyH.cons (at_place rfl) (fun K hK => ?_) AllReadyH.nil)
    · go_simp
      refine hK.out _ _ hHeld (fun hHeld => ?_)
      clear hK K
      try simp only [Act.put, List.setIfInBounds_toArray, List.set_cons_zero, List.set_cons_succ]
      refine wpAnyH_ready (rs := [16]) (by kernel_rfl) (by simp) ?_
      refine AllReadyH.cons (at_place rfl) (fun K hK => ?_) AllReadyH.nil
      go_simp
      refine hK.out _ _ ⟨(hT1.cell 10).trans rfl, (hT1.cell 3).trans rfl⟩ (fun hHeld => ?_)
      clear hK K
      try simp only [Act.put, List.setIfInBounds_toArray, List.set_cons_zero, List.set_cons_succ]
      refine wpAnyH_ready (rs := [17]) (by kernel_rfl) (by simp) ?_
      refine AllReadyH.cons (at_place rfl) (fun K hK => ?_) AllReadyH.nil
      refine step_say rfl (.tmp 15) (.tmp 27) rfl rfl hT1 m2 rfl hB1 hl ?_
      intro v' w2 hT2 hK2
      obtain ⟨A2, c2, rfl, -, -⟩ := Sl.of_own hT2.mj.own
      refine hK.out _ _ ⟨(hT2.cell 10).trans rfl, (hT2.cell 3).trans rfl⟩ (fun hHeld => ?_)
      clear hK K
      try simp only [Act.put, List.setIfInBounds_toArray, List.set_cons_zero, List.set_cons_succ]
      refine wpAnyH_take (i := 18) (v := .pointer (some ⟨g, 0, none⟩)) (at_place rfl) (by kernel_rfl) (by kernel_rfl) (by kernel_rfl) (fun _ _ _ h => h) (Or.inl ⟨by rfl, fun V hV => by go_simp⟩) hHeld ?_; try simp only [Act.put, List.setIfInBounds_toArray, List.set_cons_zero, List.set_cons_succ]
      refine wpAnyH_take (i := 19) (v := .pointer (some ⟨g, 11, none⟩)) (at_place rfl) (by kernel_rfl) (by kernel_rfl) (by kernel_rfl) (fun _ _ _ h => h) (Or.inl ⟨by rfl, fun V hV => by go_simp⟩) hHeld ?_; try simp only [Act.put, List.setIfInBounds_toArray, List.set_cons_zero, List.set_cons_succ]
      refine wpAnyH_ready (rs := [20]) (by kernel_rfl) (by simp) ?_
      refine AllReadyH.cons (at_place rfl) (fun K hK => ?_) AllReadyH.nil
      refine step_ti1 rfl 33 (.tmp 30) (.tmp 28) rfl 11 _ s now _ rfl rfl rfl hT2 (by decide) (by kernel_rfl) rfl rfl ?_
      intro w3 hT3 hK3
      refine hK.out _ _ ⟨(hT3.cell 10).trans rfl, (hT3.cell 3).trans rfl⟩ (fun hHeld => ?_)
      clear hK K
      try simp only [Act.put]
      refine wpAnyH_done (by kernel_rfl) ?_ _
      go_wp2_with fail
      refine bodyPost_ret (results_none Try.results30 _ _ _) rfl ?_
      refine ⟨⟨_, rfl⟩, .slice A2 (L ++ [m2]).length c2, ?_, ((Kept.of hb1).trans hK2).trans (hK3 v)⟩
      rw [HF.out]
      exact hT3
    · go_simp
      refine hK.out _ _ ⟨(hT1.cell 10).trans rfl, (hT1.cell 3).trans rfl⟩ (fun hHeld => ?_)
      clear hK K
      try simp only [Act.put, List.setIfInBounds_toArray, List.set_cons_zero, List.set_cons_succ]
      have c11 := (hT1.cell 11).trans (show _ = some v from rfl)
      refine wpAnyH_ready (rs := [4]) (by kernel_rfl) (by simp) ?_
      refine AllReadyH.cons (at_place rfl) (fun K hK => ?_) AllReadyH.nil
      go_simp
      refine hK.out _ _ ⟨(hT1.cell 10).trans rfl, (hT1.cell 3).trans rfl⟩ (fun hHeld => ?_)
      clear hK K
      try simp only [Act.put, List.setIfInBounds_toArray, List.set_cons_zero, List.set_cons_succ]
      refine wpAnyH_ready (rs := [17]) (by kernel_rfl) (by simp) ?_
      refine AllReadyH.cons (at_place rfl) (fun K hK => ?_) AllReadyH.nil
      refine step_say rfl (.tmp 15) (.tmp 27) rfl rfl hT1 m2 rfl hB1 hl ?_
      intro v' w2 hT2 hK2
      obtain ⟨A2, c2, rfl, -, -⟩ := Sl.of_own hT2.mj.own
      refine hK.out _ _ ⟨(hT2.cell 10).trans rfl, (hT2.cell 3).trans rfl⟩ (fun hHeld => ?_)
      clear hK K
      try simp only [Act.put, List.setIfInBounds_toArray, List.set_cons_zero, List.set_cons_succ]
      refine wpAnyH_take (i := 18) (v := .pointer (some ⟨g, 0, none⟩)) (at_place rfl) (by kernel_rfl) (by kernel_rfl) (by kernel_rfl) (fun _ _ _ h => h) (Or.inl ⟨by rfl, fun V hV => by go_simp⟩) hHeld ?_; try simp only [Act.put, List.setIfInBounds_toArray, List.set_cons_zero, List.set_cons_succ]
      refine wpAnyH_take (i := 19) (v := .pointer (some ⟨g, 11, none⟩)) (at_place rfl) (by kernel_rfl) (by kernel_rfl) (by kernel_rfl) (fun _ _ _ h => h) (Or.inl ⟨by rfl, fun V hV => by go_simp⟩) hHeld ?_; try simp only [Act.put, List.setIfInBounds_toArray, List.set_cons_zero, List.set_cons_succ]
      refine wpAnyH_ready (rs := [20]) (by kernel_rfl) (by simp) ?_
      refine AllReadyH.cons (at_place rfl) (fun K hK => ?_) AllReadyH.nil
      refine step_ti1 rfl 33 (.tmp 30) (.tmp 28) rfl 11 _ s now _ rfl rfl rfl hT2 (by decide) (by kernel_rfl) rfl rfl ?_
      intro w3 hT3 hK3
      refine hK.out _ _ ⟨(hT3.cell 10).trans rfl, (hT3.cell 3).trans rfl⟩ (fun hHeld => ?_)
      clear hK K
      try simp only [Act.put]
      refine wpAnyH_done (by kernel_rfl) ?_ _
      go_wp2_with fail
      refine bodyPost_ret (results_none Try.results30 _ _ _) rfl ?_
      refine ⟨⟨_, rfl⟩, .slice A2 (L ++ [m2]).length c2, ?_, ((Kept.of hb1).trans hK2).trans (hK3 v)⟩
      rw [HF.out]
      exact hT3
  · have HF := Lib.hid (show skipS s fr now = (s, []) from if_neg hc)
    have hcb : decide (fr < s.out) = false := decide_eq_false hc
    clear hc
    go_enter Try.func30, Try.ntmps30
    go_wp2
    refine bodyPost_ret (results_none Try.results30 _ _ _) rfl ?_
    refine ⟨⟨_, rfl⟩, v, ?_, Kept.refl _ _ _⟩
    rw [HF.out, List.append_nil]
    exact HT.out
/-- What a message asks for at once. -/
theorem own_answer (w : World) (g : Nat) (s : Ses) (A : Option Addr) (n c : Nat) (now : Int) (v : Value) (L : List Mg) (W : World) (m : Mg) (hT : TI w g s A n c now v v L W) (hl : L.length ≤ 1000) (ho : 1 ≤ s.out ∧ s.out ≤ 1099511627776) :
    Calls Try.prog 19 #[.pointer (some ⟨g, 0, none⟩), .agg m.arr] W (TkPost7 w g (replyS s m now) A n c now v L W) := by
  have HI := Lib.hid ((RI.start W).add 41 m.arr)
  have HT := Lib.hid (hT.on HI.out.below)
  have HKp := Lib.hid (Kept.of (g := g) (v := v) HI.out.below)
  have c0 := (HI.out.cell 0).trans (show _ = some (Value.int .i64 m.kind) from rfl)
  have c4 := (HI.out.cell 4).trans (show _ = some (Value.int .i64 m.a) from rfl)
  have c7 := (HI.out.cell 7).trans (show _ = some (Value.string m.text) from rfl)
  clear hT
  by_cases h3 : m.kind = 3
  · have HF := Lib.hid (show replyS s m now = sayS s (beatM m.text) now from if_pos h3)
    have HS := Lib.hid (own_say w g s A n c now v L _ (beatM m.text) HT.out hl ho)
    rw [h3] at c0
    clear h3
    go_enter Try.func19, Try.ntmps19
    go_wp2_with fail
    refine HS.out.mono ?_
    rintro e w2 ⟨⟨x, rfl⟩, v', hT2, hK2⟩
    have HT2 := Lib.hid hT2
    have HK2 := Lib.hid (HKp.out.trans hK2)
    clear hT2 hK2 HS
    go_wp2
    refine bodyPost_ret (results_none Try.results19 _ _ _) rfl ?_
    refine ⟨⟨_, rfl⟩, v', ?_, HK2.out⟩
    rw [HF.out]
    exact HT2.out
  · by_cases h4 : m.kind = 4
    · have HF := Lib.hid (show replyS s m now = skipS s m.a now from by
        unfold replyS skipS
        rw [if_neg h3]
        by_cases h : m.a < s.out
        · rw [if_pos ⟨h4, h⟩, if_pos h]
        · rw [if_neg (fun hc => h hc.2), if_neg h])
      have HS := Lib.hid (own_skip w g s A n c now v L _ m.a HT.out hl)
      rw [h4] at c0
      clear h3 h4
      go_enter Try.func19, Try.ntmps19
      go_wp2_with fail
      refine HS.out.mono ?_
      rintro e w2 ⟨⟨x, rfl⟩, v', hT2, hK2⟩
      have HT2 := Lib.hid hT2
      have HK2 := Lib.hid (HKp.out.trans hK2)
      clear hT2 hK2 HS
      go_wp2
      refine bodyPost_ret (results_none Try.results19 _ _ _) rfl ?_
      refine ⟨⟨_, rfl⟩, v', ?_, HK2.out⟩
      rw [HF.out]
      exact HT2.out
    · have HF := Lib.hid (show replyS s m now = (s, []) from by unfold replyS; rw [if_neg h3, if_neg (fun hc => h4 hc.1)])
      have k3 : (m.kind == 3) = false := by rw [beq_eq_false_iff_ne]; exact h3
      have k4 : (m.kind == 4) = false := by rw [beq_eq_false_iff_ne]; exact h4
      clear h3 h4
      go_enter Try.func19, Try.ntmps19
      go_wp2
      refine bodyPost_ret (results_none Try.results19 _ _ _) rfl ?_
      refine ⟨⟨_, rfl⟩, v, ?_, HKp.out⟩
      rw [HF.out, List.append_nil]
      exact HT.out
end Go.Proofs.Ytblkdmbkkimbpaa
