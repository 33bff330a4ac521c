/-
  Layer 2's laws: the walk of FieldCuts.
-/
import Derived.Test.YtbkihakccojknaaDoorLaw02a
import Derived.Test.YtbkihakccojknaaDoorFieldOpen
namespace Go.Proofs.YtbkihakccojknaaDoor
open Go.RowKit

theorem cut_facts {l : List Fld} {k : Nat} (h : l.all Fld.right = true) (hl : l.length ≤ 50) (hk : k ≤ (putL l).length) :
    ((putL l).take k).count 1 ≤ l.length ∧ ((∃ hk : k - 1 < (putL l).length, 0 < k ∧ ¬ (putL l)[k - 1] = 1 ∧ parseF ((putL l).take k) = .error 2) ∨
      ((k = 0 ∨ ∃ hk : k - 1 < (putL l).length, 0 < k ∧ (putL l)[k - 1] = 1) ∧ parseF ((putL l).take k) = .ok (l.take (((putL l).take k).count 1)))) := by
  obtain ⟨j, p, hj, e, hp, hc⟩ := putL_cut h hk
  rw [hc]
  refine ⟨hj, ?_⟩
  have hr : (l.take j).all Fld.right = true := List.all_eq_true.2 fun x hx => List.all_eq_true.1 h x (List.mem_of_mem_take hx)
  have hlen := putL_len h
  have htl : ((putL l).take k).length = k := by simp; omega
  by_cases h0 : p = []
  · right
    subst h0
    rw [List.append_nil] at e
    refine ⟨?_, by rw [e]; exact parseF_put hr (by simp; omega)⟩
    by_cases hk0 : k = 0
    · exact .inl hk0
    · refine .inr ⟨by omega, by omega, ?_⟩
      have hj0 : 0 < j := by
        rcases Nat.eq_zero_or_pos j with h | h
        · subst h
          have := congrArg List.length e
          rw [htl] at this; simp [putL] at this; omega
        · exact h
      have hsplit : l.take j = l.take (j - 1) ++ [l[j - 1]'(by omega)] := by
        conv => lhs; rw [show j = (j - 1) + 1 by omega]
        exact List.take_succ_eq_append_getElem (by omega)
      rw [hsplit, putL_app] at e
      have e1 : ((putL l).take k)[k - 1]? = some 1 := by
        rw [e]
        have : putL [l[j - 1]'(by omega)] = (showL (l[j - 1]'(by omega)).tag ++ 61 :: (l[j - 1]'(by omega)).val.data.toList) ++ [1] := by simp [putL, fldB]
        rw [this, ← List.append_assoc] at e ⊢
        have hl2 := congrArg List.length e
        rw [htl, List.length_append, List.length_singleton] at hl2
        rw [List.getElem?_append_right (by omega), show k - 1 - (putL (l.take (j - 1)) ++ (showL (l[j - 1]'(by omega)).tag ++ 61 :: (l[j - 1]'(by omega)).val.data.toList)).length = 0 by omega]
        rfl
      rw [List.getElem?_take, if_pos (by omega), List.getElem?_eq_getElem (by omega)] at e1
      injection e1
  · left
    have hpl := List.length_pos_iff.2 h0
    have hl2 := congrArg List.length e
    rw [htl, List.length_append] at hl2
    refine ⟨by omega, by omega, ?_, ?_⟩
    · intro h1
      have e1 : ((putL l).take k)[k - 1]? = some 1 := by rw [List.getElem?_take, if_pos (by omega), List.getElem?_eq_getElem (by omega), h1]
      rw [e, List.getElem?_append_right (by omega)] at e1
      exact hp (List.mem_of_getElem? e1)
    · rw [e]
      exact parseF_part hr (by simp; omega) hp h0 (by rw [← e]; simp; omega)
theorem count_step (l : List UInt8) (k : Nat) (h : k < l.length) : (l.take (k + 1)).count 1 = (l.take k).count 1 + if l[k] = 1 then 1 else 0 := by
  rw [List.take_succ_eq_append_getElem h, List.count_append]
  by_cases h1 : l[k] = 1
  · simp [h1]
  · simp [h1]
set_option maxRecDepth 100000 in
set_option maxHeartbeats 2000000 in
theorem walk_FieldCuts (A : Option Addr) (n c : Nat) (l : List Fld) (hn : l.length = n) (cut : Int) (t0 : 0 ≤ cut) (t1 : cut ≤ 65535) (w : World) (h : Sl w A n c 2 (fcells l)) (hq : ∀ f ∈ l, FldIn f) (hctx : FCtx w) :
    Calls Tryd.prog 6 #[.slice A n c, .int .u16 cut] w fun e w' => e = .returned (.bool true) ∧ Below w.heap.size w w' := by
  have hcm := h.cap
  have hnc := h.le
  unfold maxLen at hcm
  have HR := Lib.hid h.row
  have HQ := Lib.hid hq
  have hshort : Hid (∀ W, Below w.heap.size w W → Calls Tryd.prog 8 #[.slice A n c] W fun e w' => e = .returned (.bool (shortB l)) ∧ W = w') := fun W hW => by
    have := ref_Short A c l W (HR.out.on hW) (by unfold maxLen; omega) (fun f hf => (HQ.out f hf).2)
    rwa [hn] at this
  clear h hq
  by_cases h50 : 50 < n
  · clear hshort
    go_enter Tryd.func6, Tryd.ntmps6
    go_wp2_with (first | (go_at_call 7; refine (awake02 _ hctx).mono ?_; rintro e w1 ⟨rfl, hb1⟩))
    go_ret
    exact ⟨rfl, hb1⟩
  rcases Bool.eq_false_or_eq_true (shortB l) with hs | hs
  · rw [hs] at hshort
    simp only [shortB, Bool.and_eq_true, decide_eq_true_eq, List.all_eq_true] at hs
    obtain ⟨hl, hv⟩ := hs
    have hput : Hid (∀ W, Below w.heap.size w W → Calls Tryd.prog 9 #[.slice A n c] W (PutPost l W)) := fun W hW => by
      have := field_Put A c l W (HR.out.on hW) (fun f hf => by have := hv f hf; omega) (by omega) (hctx.on hW)
      rwa [hn] at this
    rcases Bool.eq_false_or_eq_true (l.all Fld.right) with hr | hr
    · have ⟨e1, e2⟩ := putE_ok (l := l) (by omega) hr
      have hlen := putL_len hr
      have hcf : Hid (∀ k, k ≤ (putL l).length → _) := fun k hk => cut_facts hr (by omega) hk
      have hplen : (putL l).length ≤ 13100 := by omega
      clear hlen
      rw [show PutPost l = fun W e w' => ∃ A n c, e = .returned (.tuple #[.slice A n c, .int .i64 0]) ∧ Sl w' A n c 1 (bcells (putL l)) ∧ Below W.heap.size W w' ∧ Fm A from by
        funext W e w'; unfold PutPost; rw [e1, e2]] at hput
      clear e1 e2 hr
      generalize hq : putL l = q at *
      clear hq
      go_enter Tryd.func6, Tryd.ntmps6
      go_wp2_with (first | (go_at_call 7; refine (awake02 _ hctx).mono ?_; rintro e w1 ⟨rfl, hb1⟩) | (go_at_call 8; refine (hshort.out _ hb1).mono ?_; rintro e w' ⟨rfl, rfl⟩))
      refine (hput.out _ hb1).mono ?_
      rintro e w2 ⟨A2, n2, c2, rfl, hs2, hb2, fm2⟩
      have hB2 : Below w.heap.size w w2 := hb1.trans (hb2.mono hb1.size)
      have hn2 : n2 = q.length := by have := hs2.len; rw [bcells_len] at this; omega
      subst hn2
      have hle2 := hs2.le
      have hcap2 := hs2.cap
      unfold maxLen at hcap2
      have m0 : 0 ≤ cut % ((q.length : Int) + 1) := Int.emod_nonneg _ (by omega)
      have m1 : cut % ((q.length : Int) + 1) ≤ q.length := by have := Int.emod_lt_of_pos cut (show 0 < (q.length : Int) + 1 by omega); omega
      go_wp2_with fail
      have hkl : (cut % ((q.length : Int) + 1)).toNat ≤ q.length := by omega
      have pe : cut % ((q.length : Int) + 1) = (((cut % ((q.length : Int) + 1)).toNat : Nat) : Int) := by omega
      generalize (cut % ((q.length : Int) + 1)).toNat = k at *
      rw [pe]
      clear m0 m1 pe t0 t1
      have hsk := hs2.cutTo (m := k) rfl hkl
      have hkk : (q.take k).length = k := by simp; omega
      have hp := field_Parse A2 c2 (q.take k) w2 (by rw [hkk]; exact hsk) (by omega) (hctx.on hB2)
      rw [hkk] at hp
      refine hp.mono ?_
      rintro e w3 ⟨A3, n3, c3, rfl, hs3, hb3, _⟩
      have hB3 : Below w.heap.size w w3 := hB2.trans (hb3.mono hB2.size)
      have hcc := hcf.out k hkl
      have Hcc := Lib.hid hcc
      have hrow := hs2.row.on hb3
      have Hrow := Lib.hid hrow
      have Hs3 := Lib.hid hs3
      have hkc : ((q.take k).count 1) ≤ k := by have := List.count_le_length (a := (1 : UInt8)) (l := q.take k); omega
      clear hp hsk hkk hcf hs2 hs3 hrow hcc hshort hput hb1 hb2
      go_wp2
      go_loop [10, 11] (fun s t => ∃ i : Nat, i ≤ k ∧ t = .int .i64 i ∧ s = .int .i64 ((q.take i).count 1 : Nat) ∧ (q.take i).count 1 ≤ i) (fun _ t => k - (intOf t).toNat)
      case atStart => exact ⟨0, Nat.zero_le _, rfl, by simp, by simp⟩
      case round =>
        obtain ⟨i, hik, rfl, rfl, hci⟩ := hrel
        by_cases hlt : i < k
        · obtain ⟨b, off, rfl, hc⟩ := Hrow.out.byte (k := i) (by omega)
          have Hst := Lib.hid (count_step q i (by omega))
          rcases u8_beq (c := q[i]) (n := 1) (by omega) with ⟨d1, d2, d3⟩ | ⟨d1, d2, d3⟩
          · have Hst2 : Hid ((q.take (i + 1)).count 1 = (q.take i).count 1 + 1) := by rw [Hst.out]; simp [d3, Hid]
            replace hc : w3.cell? ⟨b, off + i, none⟩ = some (.int .u8 1) := by rw [hc, d3]; rfl
            clear Hst d1 d2 d3
            go_wp2
            go_round
            case rel => exact ⟨i + 1, by omega, by go_num, by rw [Hst2.out]; go_num, by rw [Hst2.out]; omega⟩
            case measure => simp [intOf]; omega
          · have Hst2 : Hid ((q.take (i + 1)).count 1 = (q.take i).count 1) := by
              rw [Hst.out]; have : ¬ q[i] = 1 := d3
              simp [this, Hid]
            have d1' : ((q[i].toNat : Int) == 1) = false := d1
            clear Hst d1 d2 d3
            generalize q[i].toNat = x at *
            go_wp2
            go_round
            case rel => exact ⟨i + 1, by omega, by go_num, by rw [Hst2.out], by rw [Hst2.out]; omega⟩
            case measure => simp [intOf]; omega
        · obtain rfl : i = k := by omega
          have ⟨hcn, hcase⟩ := Hcc.out
          rcases hcase with ⟨hk1, hk0, hq1, hpe⟩ | ⟨hkq, hpe⟩
          · obtain ⟨k', rfl⟩ : ∃ k', i = k' + 1 := ⟨i - 1, by omega⟩
            have hs3 := Hs3.out
            rw [hpe] at hs3 ⊢
            have hn3 : n3 = 0 := by have := hs3.len; simp [resL, fcells] at this; omega
            subst hn3
            obtain ⟨b, off, rfl, hc⟩ := Hrow.out.byte (k := k') (by omega)
            rw [show q[k' + 1 - 1] = q[k'] from rfl] at hq1
            rcases u8_beq (c := q[k']) (n := 1) (by omega) with ⟨d1, d2, d3⟩ | ⟨d1, d2, d3⟩
            · exact absurd d3 hq1
            · have d2' : ((q[k'].toNat : Int) != 1) = true := d2
              clear hs3 hpe hq1 d1 d2 d3 Hcc Hs3
              generalize q[k'].toNat = x at *
              go_wp2
              go_ret
              exact ⟨rfl, hB3⟩
          · have hs3 := Hs3.out
            rw [hpe] at hs3 ⊢
            have hn3 : n3 = (l.take ((q.take i).count 1)).length := by have := hs3.len; rw [show resL (.ok (l.take ((q.take i).count 1))) = l.take ((q.take i).count 1) from rfl, fcells_len] at this; omega
            have hlj : (l.take ((q.take i).count 1)).length = (q.take i).count 1 := by simp; omega
            have hsame := ref_Same A3 A c3 c (l.take ((q.take i).count 1)) w3 hs3.row (by rw [← fcells_take]; exact (HR.out.on hB3).take _) (by omega)
            rw [hlj] at hn3 hsame
            subst hn3
            have hcn' : (q.take i).count 1 ≤ c := by omega
            have hcn2 : ((q.take i).count 1 : Int) ≤ 13100 := by omega
            have Hsame := Lib.hid hsame
            clear hsame hs3 Hs3 Hcc hpe hlj
            rcases hkq with rfl | ⟨hk1, hk0, hq1⟩
            · rw [show (q.take 0).count 1 = 0 by simp] at *
              go_wp2_with (go_at_call 19; refine Hsame.out.mono ?_; rintro e w4 ⟨rfl, hb4⟩)
              go_ret
              exact ⟨rfl, hB3.trans (hb4.mono hB3.size)⟩
            · generalize (q.take i).count 1 = j at *
              obtain ⟨k', rfl⟩ : ∃ k', i = k' + 1 := ⟨i - 1, by omega⟩
              obtain ⟨b, off, rfl, hc⟩ := Hrow.out.byte (k := k') (by omega)
              replace hc : w3.cell? ⟨b, off + k', none⟩ = some (.int .u8 1) := by rw [hc, show q[k'] = 1 from hq1]; rfl
              clear hq1
              go_wp2_with (go_at_call 19; refine Hsame.out.mono ?_; rintro e w4 ⟨rfl, hb4⟩)
              go_ret
              exact ⟨rfl, hB3.trans (hb4.mono hB3.size)⟩
    · have ⟨e1, e2⟩ := putE_arg (l := l) (by omega) hr
      rw [show PutPost l = fun W e w' => ∃ A n c, e = .returned (.tuple #[.slice A n c, .int .i64 1]) ∧ Sl w' A n c 1 (bcells []) ∧ Below W.heap.size W w' ∧ Fm A from by
        funext W e w'; unfold PutPost; rw [e1, e2]] at hput
      clear e1 e2 hr hv
      go_enter Tryd.func6, Tryd.ntmps6
      go_wp2_with (first | (go_at_call 7; refine (awake02 _ hctx).mono ?_; rintro e w1 ⟨rfl, hb1⟩) | (go_at_call 8; refine (hshort.out _ hb1).mono ?_; rintro e w' ⟨rfl, rfl⟩))
      refine (hput.out _ hb1).mono ?_
      rintro e w2 ⟨A2, n2, c2, rfl, hs2, hb2, fm2⟩
      have hn2 : n2 = 0 := by have := hs2.len; simp [bcells] at this; omega
      subst hn2
      clear hs2
      go_wp2
      go_ret
      exact ⟨rfl, hb1.trans (hb2.mono hb1.size)⟩
  · rw [hs] at hshort
    clear hs
    go_enter Tryd.func6, Tryd.ntmps6
    go_wp2_with (first | (go_at_call 7; refine (awake02 _ hctx).mono ?_; rintro e w1 ⟨rfl, hb1⟩) | (go_at_call 8; refine (hshort.out _ hb1).mono ?_; rintro e w' ⟨rfl, rfl⟩))
    go_ret
    exact ⟨rfl, hb1⟩
end Go.Proofs.YtbkihakccojknaaDoor
