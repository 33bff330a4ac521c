/-
  Layer 7: the program's own way: what it says, what it skips: its contracts.
-/
import Derived.Test.YtblkdmbkkimbpaaSessOwn
namespace Go.Proofs.Ytblkdmbkkimbpaa
open Go.RowKit

/-- What a step of a talk leaves behind. -/
def TkPost7 (w : World) (g : Nat) (r : Ses × List Mg) (A : Option Addr) (n c : Nat) (now : Int) (v : Value) (L : List Mg) (W : World) (e : Ending) (W' : World) : Prop :=
  (∃ x, e = .returned x) ∧ ∃ v', TI w g r.1 A n c now v' v' (L ++ r.2) W' ∧ Kept g v W W'
set_option maxRecDepth 100000 in
set_option maxHeartbeats 2000000 in
theorem own_say (w : World) (g : Nat) (s : Ses) (A : Option Addr) (n c : Nat) (now : Int) (v : Value) (L : List Mg) (W : World) (m : Mg) (hT : TI w g s A n c now v v L W) (hl : L.length ≤ 1000) (ho : 1 ≤ s.out ∧ s.out ≤ 1099511627776) :
    Calls Try.prog 16 #[.pointer (some ⟨g, 0, none⟩), .agg m.arr] W (TkPost7 w g (sayS s m now) A n c now v L W) := by
  have HI := Lib.hid ((RI.start W).add 41 m.arr)
  have HT := Lib.hid (fun (V : World) (h : Below W.heap.size W V) => hT.on h)
  have c3 := ((HT.out _ HI.out.below).cell 3).trans (show _ = some (Value.int .i64 s.out) from rfl)
  have hgl := hT.lt
  have HVl := Lib.hid (fun (b : Nat) (hb : v.ownBlock = some b) => hT.own_lt hb)
  clear hT
  by_cases hc : s.out = 1099511627776
  · have HF := Lib.hid (show sayS s m now = (s, []) from if_pos (by omega))
    have hcb : (s.out == 1099511627776) = true := by simp [hc]
    clear hc
    go_enter Try.func16, Try.ntmps16
    go_wp2
    refine bodyPost_ret (results_none Try.results16 _ _ _) rfl ?_
    refine ⟨⟨_, rfl⟩, v, ?_, Kept.of HI.out.below⟩
    rw [HF.out, List.append_nil]
    exact HT.out _ HI.out.below
  · obtain ⟨m2, hm2⟩ : ∃ x : Mg, x = { m with seq := s.out, time := now } := ⟨_, rfl⟩
    have HF := Lib.hid (show sayS s m now = ({ s with out := s.out + 1, said := now }, [m2]) from hm2 ▸ if_neg (by omega))
    have HM2 := Lib.hid hm2
    have hbm := build_msg m2
    have hms : m2.arr.size = 18 := rfl
    clear hm2
    have hcb : (s.out == 1099511627776) = false := by simp [hc]
    have hwr : IntKind.i64.wrap (s.out + 1) = s.out + 1 := by rw [IntKind.wrap_i64]; omega
    clear hc
    go_enter Try.func16, Try.ntmps16
    go_upto_region 2 with (fail)
    have hId := HI.out.on (Below.refl _ _).drew
    go_cut [10] (fun s10 wx => s10 = .pointer (some ⟨g, 0, none⟩) ∧ Hid (RI W [(W.heap.size, 41, m2.arr)] wx))
    case first =>
      refine wp_region_held_drew (S := fun V => Below W.heap.size W V) (by kernel_rfl) hId.below (fun hHeld => ?_)
      refine wpAnyH_take (i := 0) (v := .pointer (some ⟨g, 0, none⟩)) (at_place rfl) (by kernel_rfl) (by kernel_rfl) (by kernel_rfl) (fun _ _ _ h => h) (Or.inl ⟨by rfl, fun V hV => by go_simp⟩) hHeld ?_; try simp only [Act.put, List.setIfInBounds_toArray, List.set_cons_zero, List.set_cons_succ]
      refine wpAnyH_take (i := 1) (v := .pointer (some ⟨g, 0, none⟩)) (at_place rfl) (by kernel_rfl) (by kernel_rfl) (by kernel_rfl) (fun _ _ _ h => h) (Or.inl ⟨by rfl, fun V hV => by go_simp⟩) hHeld ?_; try simp only [Act.put, List.setIfInBounds_toArray, List.set_cons_zero, List.set_cons_succ]
      refine wpAnyH_take (i := 2) (v := .pointer (some ⟨g, 0, none⟩)) (at_place rfl) (by kernel_rfl) (by kernel_rfl) (by kernel_rfl) (fun _ _ _ h => h) (Or.inl ⟨by rfl, fun V hV => by go_simp⟩) hHeld ?_; try simp only [Act.put, List.setIfInBounds_toArray, List.set_cons_zero, List.set_cons_succ]
      refine wpAnyH_take (i := 3) (v := .pointer (some ⟨g, 3, none⟩)) (at_place rfl) (by kernel_rfl) (by kernel_rfl) (by kernel_rfl) (fun _ _ _ h => h) (Or.inl ⟨by rfl, fun V hV => by go_simp⟩) hHeld ?_; try simp only [Act.put, List.setIfInBounds_toArray, List.set_cons_zero, List.set_cons_succ]
      refine wpAnyH_take (i := 4) (v := .int .i64 s.out) (at_place rfl) (by kernel_rfl) (by kernel_rfl) (by kernel_rfl) (fun _ _ _ h => h) (Or.inl ⟨by rfl, fun V hV => by have c3 := ((HT.out _ hV).cell 3).trans (show _ = some (Value.int .i64 s.out) from rfl); go_simp⟩) hHeld ?_; try simp only [Act.put, List.setIfInBounds_toArray, List.set_cons_zero, List.set_cons_succ]
      refine wpAnyH_take (i := 5) (v := .pointer (some ⟨g, 0, none⟩)) (at_place rfl) (by kernel_rfl) (by kernel_rfl) (by kernel_rfl) (fun _ _ _ h => h) (Or.inl ⟨by rfl, fun V hV => by go_simp⟩) hHeld ?_; try simp only [Act.put, List.setIfInBounds_toArray, List.set_cons_zero, List.set_cons_succ]
      refine wpAnyH_take (i := 6) (v := .pointer (some ⟨g, 0, none⟩)) (at_place rfl) (by kernel_rfl) (by kernel_rfl) (by kernel_rfl) (fun _ _ _ h => h) (Or.inl ⟨by rfl, fun V hV => by go_simp⟩) hHeld ?_; try simp only [Act.put, List.setIfInBounds_toArray, List.set_cons_zero, List.set_cons_succ]
      refine wpAnyH_take (i := 7) (v := .pointer (some ⟨g, 10, none⟩)) (at_place rfl) (by kernel_rfl) (by kernel_rfl) (by kernel_rfl) (fun _ _ _ h => h) (Or.inl ⟨by rfl, fun V hV => by go_simp⟩) hHeld ?_; try simp only [Act.put, List.setIfInBounds_toArray, List.set_cons_zero, List.set_cons_succ]
      refine wpAnyH_take (i := 8) (v := .int .i64 now) (at_place rfl) (by kernel_rfl) (by kernel_rfl) (by kernel_rfl) (fun _ _ _ h => h) (Or.inl ⟨by rfl, fun V hV => by have c3 := ((HT.out _ hV).cell 10).trans (show _ = some (Value.int .i64 now) from rfl); go_simp⟩) hHeld ?_; try simp only [Act.put, List.setIfInBounds_toArray, List.set_cons_zero, List.set_cons_succ]
      refine wpAnyH_take (i := 9) (v := .pointer (some ⟨W.heap.size, 1, none⟩)) (at_place rfl) (by kernel_rfl) (by kernel_rfl) (by kernel_rfl) (fun _ _ _ h => h) (Or.inl ⟨by rfl, fun V hV => by go_simp⟩) hHeld ?_; try simp only [Act.put, List.setIfInBounds_toArray, List.set_cons_zero, List.set_cons_succ]
      refine wpAnyH_ready (rs := [10]) (by kernel_rfl) (by simp) ?_
      refine AllReadyH.cons (at_place rfl) (fun K hK => ?_) AllReadyH.nil
      refine step_put1 rfl 2 (.tmp 19) (.tmp 14) rfl 1 (.int .i64 s.out) rfl rfl rfl hId (by show 1 < 18; decide) (by kernel_rfl) ?_
      intro w2 hI2 _
      refine hK.out _ _ hI2.below (fun hHeld => ?_)
      clear hK K
      try simp only [Act.put]
      refine wpAnyH_take (i := 11) (v := .pointer (some ⟨W.heap.size, 2, none⟩)) (at_place rfl) (by kernel_rfl) (by kernel_rfl) (by kernel_rfl) (fun _ _ _ h => h) (Or.inl ⟨by rfl, fun V hV => by go_simp⟩) hHeld ?_; try simp only [Act.put, List.setIfInBounds_toArray, List.set_cons_zero, List.set_cons_succ]
      refine wpAnyH_ready (rs := [12]) (by kernel_rfl) (by simp) ?_
      refine AllReadyH.cons (at_place rfl) (fun K hK => ?_) AllReadyH.nil
      refine step_put1 rfl 2 (.tmp 20) (.tmp 18) rfl 2 (.int .i64 now) rfl rfl rfl hI2 (by show 2 < 18; decide) (by kernel_rfl) ?_
      intro w3 hI3 _
      refine hK.out _ _ hI3.below (fun hHeld => ?_)
      clear hK K
      try simp only [Act.put]
      refine wpAnyH_done (by kernel_rfl) ?_ _
      go_wp2_with fail
      go_meet
      case rel => exact ⟨rfl, by rw [HM2.out]; exact hI3⟩
    case rest =>
      obtain ⟨rfl, HJ⟩ := hcut
      clear HI c3 hId hcb
      go_upto_region 3 with (fail)
      have hJd := HJ.out.on (Below.refl _ _).drew
      have c11 := ((HT.out _ hJd.below).cell 11).trans (show _ = some v from rfl)
      go_cut [21] (fun s21 wx => s21 = .pointer (some ⟨g, 0, none⟩) ∧ ∃ v', Hid (TI w g s A n c now v' v' (L ++ [m2]) wx ∧ Kept g v W wx))
      case first =>
        refine wp_region_held_drew (S := fun V => Box V W.heap.size 41 m2.arr) (by kernel_rfl) hJd.bx (fun hHeld => ?_)
        refine wpAnyH_take (i := 0) (v := .pointer (some ⟨g, 0, none⟩)) (at_place rfl) (by kernel_rfl) (by kernel_rfl) (by kernel_rfl) (fun _ _ _ h => h) (Or.inl ⟨by rfl, fun V hV => by go_simp⟩) hHeld ?_; try simp only [Act.put, List.setIfInBounds_toArray, List.set_cons_zero, List.set_cons_succ]
        refine wpAnyH_take (i := 1) (v := .pointer (some ⟨g, 0, none⟩)) (at_place rfl) (by kernel_rfl) (by kernel_rfl) (by kernel_rfl) (fun _ _ _ h => h) (Or.inl ⟨by rfl, fun V hV => by go_simp⟩) hHeld ?_; try simp only [Act.put, List.setIfInBounds_toArray, List.set_cons_zero, List.set_cons_succ]
        refine wpAnyH_take (i := 2) (v := .pointer (some ⟨g, 0, none⟩)) (at_place rfl) (by kernel_rfl) (by kernel_rfl) (by kernel_rfl) (fun _ _ _ h => h) (Or.inl ⟨by rfl, fun V hV => by go_simp⟩) hHeld ?_; try simp only [Act.put, List.setIfInBounds_toArray, List.set_cons_zero, List.set_cons_succ]
        refine wpAnyH_take (i := 3) (v := .pointer (some ⟨g, 11, none⟩)) (at_place rfl) (by kernel_rfl) (by kernel_rfl) (by kernel_rfl) (fun _ _ _ h => h) (Or.inl ⟨by rfl, fun V hV => by go_simp⟩) hHeld ?_; try simp only [Act.put, List.setIfInBounds_toArray, List.set_cons_zero, List.set_cons_succ]
        refine wpAnyH_take (i := 5) (v := .agg m2.arr) (at_place rfl) (by kernel_rfl) (by kernel_rfl) (by kernel_rfl) (fun _ _ _ h => h) (y_load rfl (fun V hV => hV) 41 (.tmp 3) rfl rfl _ Try.underlying41 rfl infoM) hHeld ?_; try simp only [Act.put, List.setIfInBounds_toArray, List.set_cons_zero, List.set_cons_succ]
        refine wpAnyH_ready (rs := [4, 6]) (by kernel_rfl) (by simp) ?_
        have hv2 : v.ownBlock ≠ some W.heap.size := fun h => Nat.lt_irrefl _ (HVl.out _ h)
        have hb1 : Below W.heap.size W ((wc.alloc (.cells m2.arr 41)).drew) := (HJ.out.below.trans ((Below.refl wc.heap.size wc).alloc (Nat.le_refl _) _ |>.mono HJ.out.below.size)).drew
        have hT1 := HT.out _ hb1
        have hB1 : Box ((wc.alloc (.cells m2.arr 41)).drew) wc.heap.size 41 m2.arr := Box.new wc m2.arr 41
        have hS1 : Box ((wc.alloc (.cells m2.arr 41)).drew) W.heap.size 41 m2.arr := HJ.out.bx.alloc _
        refine AllReadyH.cons (at_place rfl) (fun K hK => ?_) (AllReadyH.cons (at_place rfl) (fun K hK => ?_) AllReadyH.nil)
        · go_simp
          refine hK.out _ _ hHeld (fun hHeld => ?_)
          clear hK K
          try simp only [Act.put, List.setIfInBounds_toArray, List.set_cons_zero, List.set_cons_succ]
          refine wpAnyH_ready (rs := [6]) (by kernel_rfl) (by simp) ?_
          refine AllReadyH.cons (at_place rfl) (fun K hK => ?_) AllReadyH.nil
          go_simp
          refine hK.out _ _ hS1 (fun hHeld => ?_)
          clear hK K
          try simp only [Act.put, List.setIfInBounds_toArray, List.set_cons_zero, List.set_cons_succ]
          refine wpAnyH_ready (rs := [7]) (by kernel_rfl) (by simp) ?_
          refine AllReadyH.cons (at_place rfl) (fun K hK => ?_) AllReadyH.nil
          refine step_say rfl (.tmp 25) (.tmp 27) rfl rfl hT1 m2 rfl hB1 hl ?_
          intro v' w2 hT2 hK2
          obtain ⟨A2, c2, rfl, -, -⟩ := Sl.of_own hT2.mj.own
          have hS2 := hK2.box hS1 (by omega) hv2
          refine hK.out _ _ hS2 (fun hHeld => ?_)
          clear hK K
          try simp only [Act.put, List.setIfInBounds_toArray, List.set_cons_zero, List.set_cons_succ]
          refine wpAnyH_take (i := 8) (v := .pointer (some ⟨g, 0, none⟩)) (at_place rfl) (by kernel_rfl) (by kernel_rfl) (by kernel_rfl) (fun _ _ _ h => h) (Or.inl ⟨by rfl, fun V hV => by go_simp⟩) hHeld ?_; try simp only [Act.put, List.setIfInBounds_toArray, List.set_cons_zero, List.set_cons_succ]
          refine wpAnyH_take (i := 9) (v := .pointer (some ⟨g, 11, none⟩)) (at_place rfl) (by kernel_rfl) (by kernel_rfl) (by kernel_rfl) (fun _ _ _ h => h) (Or.inl ⟨by rfl, fun V hV => by go_simp⟩) hHeld ?_; try simp only [Act.put, List.setIfInBounds_toArray, List.set_cons_zero, List.set_cons_succ]
          refine wpAnyH_ready (rs := [10]) (by kernel_rfl) (by simp) ?_
          refine AllReadyH.cons (at_place rfl) (fun K hK => ?_) AllReadyH.nil
          refine step_ti1 rfl 33 (.tmp 30) (.tmp 28) rfl 11 _ s now _ rfl rfl rfl hT2 (by decide) (by kernel_rfl) rfl rfl ?_
          intro w3 hT3 hK3
          refine hK.out _ _ ((hK3 v).box hS2 (by omega) hv2) (fun hHeld => ?_)
          clear hK K
          try simp only [Act.put]
          refine wpAnyH_done (by kernel_rfl) ?_ _
          go_wp2_with fail
          go_meet
          case rel => exact ⟨rfl, _, Lib.hid ⟨hT3, ((Kept.of hb1).trans hK2).trans (hK3 v)⟩⟩
        · go_simp
          refine hK.out _ _ hS1 (fun hHeld => ?_)
          clear hK K
          try simp only [Act.put, List.setIfInBounds_toArray, List.set_cons_zero, List.set_cons_succ]
          have c11 := (hT1.cell 11).trans (show _ = some v from rfl)
          refine wpAnyH_ready (rs := [4]) (by kernel_rfl) (by simp) ?_
          refine AllReadyH.cons (at_place rfl) (fun K hK => ?_) AllReadyH.nil
          go_simp
          refine hK.out _ _ hS1 (fun hHeld => ?_)
          clear hK K
          try simp only [Act.put, List.setIfInBounds_toArray, List.set_cons_zero, List.set_cons_succ]
          refine wpAnyH_ready (rs := [7]) (by kernel_rfl) (by simp) ?_
          refine AllReadyH.cons (at_place rfl) (fun K hK => ?_) AllReadyH.nil
          refine step_say rfl (.tmp 25) (.tmp 27) rfl rfl hT1 m2 rfl hB1 hl ?_
          intro v' w2 hT2 hK2
          obtain ⟨A2, c2, rfl, -, -⟩ := Sl.of_own hT2.mj.own
          have hS2 := hK2.box hS1 (by omega) hv2
          refine hK.out _ _ hS2 (fun hHeld => ?_)
          clear hK K
          try simp only [Act.put, List.setIfInBounds_toArray, List.set_cons_zero, List.set_cons_succ]
          refine wpAnyH_take (i := 8) (v := .pointer (some ⟨g, 0, none⟩)) (at_place rfl) (by kernel_rfl) (by kernel_rfl) (by kernel_rfl) (fun _ _ _ h => h) (Or.inl ⟨by rfl, fun V hV => by go_simp⟩) hHeld ?_; try simp only [Act.put, List.setIfInBounds_toArray, List.set_cons_zero, List.set_cons_succ]
          refine wpAnyH_take (i := 9) (v := .pointer (some ⟨g, 11, none⟩)) (at_place rfl) (by kernel_rfl) (by kernel_rfl) (by kernel_rfl) (fun _ _ _ h => h) (Or.inl ⟨by rfl, fun V hV => by go_simp⟩) hHeld ?_; try simp only [Act.put, List.setIfInBounds_toArray, List.set_cons_zero, List.set_cons_succ]
          refine wpAnyH_ready (rs := [10]) (by kernel_rfl) (by simp) ?_
          refine AllReadyH.cons (at_place rfl) (fun K hK => ?_) AllReadyH.nil
          refine step_ti1 rfl 33 (.tmp 30) (.tmp 28) rfl 11 _ s now _ rfl rfl rfl hT2 (by decide) (by kernel_rfl) rfl rfl ?_
          intro w3 hT3 hK3
          refine hK.out _ _ ((hK3 v).box hS2 (by omega) hv2) (fun hHeld => ?_)
          clear hK K
          try simp only [Act.put]
          refine wpAnyH_done (by kernel_rfl) ?_ _
          go_wp2_with fail
          go_meet
          case rel => exact ⟨rfl, _, Lib.hid ⟨hT3, ((Kept.of hb1).trans hK2).trans (hK3 v)⟩⟩
      case rest =>
        obtain ⟨rfl, v', HT'⟩ := hcut
        clear HT HJ hJd c11 hbm hms HM2
        have c3 := (HT'.out.1.cell 3).trans (show _ = some (Value.int .i64 s.out) from rfl)
        go_upto_region 5 with (first | (refine ti_put1 rfl 2 (.tmp 39) (.tmp 36) rfl 3 (.int .i64 (s.out + 1)) { s with out := s.out + 1 } now v' rfl rfl rfl HT'.out.1 (by decide) (by kernel_rfl) rfl rfl ?_; intro w4 hT4 hK4; have HT4 := Lib.hid (And.intro hT4 (HT'.out.2.trans (hK4 v))); clear hT4 hK4))
        have c10 := (HT4.out.1.cell 10).trans (show _ = some (Value.int .i64 now) from rfl)
        go_wp2_with (first | (refine ti_put1 rfl 2 (.tmp 47) (.tmp 44) rfl 6 (.int .i64 now) { s with out := s.out + 1, said := now } now v' rfl rfl rfl HT4.out.1 (by decide) (by kernel_rfl) rfl rfl ?_; intro w5 hT5 hK5; have HT5 := Lib.hid (And.intro hT5 (HT4.out.2.trans (hK5 v))); clear hT5 hK5))
        refine bodyPost_ret (results_none Try.results16 _ _ _) rfl ?_
        refine ⟨⟨_, rfl⟩, v', ?_, HT5.out.2⟩
        rw [HF.out]
        exact HT5.out.1
end Go.Proofs.Ytblkdmbkkimbpaa
