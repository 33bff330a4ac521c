/-
  The document's answer for layer 1's Sum comes to what the program's does.
-/
import Derived.Test.YtolcadlbhocboaaDoorRefNum
namespace Go.Proofs.YtolcadlbhocboaaDoor
open Go.RowKit

theorem tdiv60 (n : Int) (h0 : -9223372036854775808 ≤ n) (h1 : n ≤ 9223372036854775807) :
    n.tdiv 1152921504606846976 * 1152921504606846976 + n.tmod 1152921504606846976 = n ∧ -8 ≤ n.tdiv 1152921504606846976 ∧ n.tdiv 1152921504606846976 ≤ 8 ∧
      -1152921504606846976 < n.tmod 1152921504606846976 ∧ n.tmod 1152921504606846976 < 1152921504606846976 := by
  rcases (show 0 ≤ n ∨ n < 0 by omega) with h | h
  · rw [Int.tdiv_eq_ediv_of_nonneg h, Int.tmod_eq_emod_of_nonneg h]; omega
  · obtain ⟨m, rfl⟩ : ∃ m, n = -m := ⟨-n, by omega⟩
    have hm : 0 ≤ m := by omega
    rw [Int.neg_tdiv, Int.neg_tmod, Int.tdiv_eq_ediv_of_nonneg hm, Int.tmod_eq_emod_of_nonneg hm]; omega
set_option maxHeartbeats 1000000 in
theorem ref_Sum (a : Option Addr) (cap : Nat) (zs : List Int) (w : World) (hz : Ints .i64 w a zs) (hw : ∀ n ∈ zs, -9223372036854775808 ≤ n ∧ n ≤ 9223372036854775807) (hl : zs.length ≤ 1000000) :
    Calls Tryd.prog 17 #[.slice a zs.length cap] w fun e w' => e = .returned (.tuple #[.int .i64 (sumV zs), .bool (sumB zs)]) ∧ w = w' := by
  go_enter Tryd.func17, Tryd.ntmps17
  go_wp2
  go_loop [4] (fun i => ∃ k : Nat, k ≤ zs.length ∧ i = .int .i64 k ∧ Hid ((zs.take k).all right = true)) (fun i => zs.length - (intOf i).toNat)
  case atStart => exact ⟨0, Nat.zero_le _, rfl, by simp [Hid]⟩
  case round =>
    obtain ⟨k, hk, rfl, H⟩ := hrel
    by_cases hlt : k < zs.length
    · rcases hz with rfl | ⟨b, off, rfl, hc⟩
      · simp at hlt
      have hcell := hc k hlt
      have Ha := Lib.hid (all_take zs k hlt)
      have Hbad := Lib.hid (sumB_bad zs k hlt)
      clear hc hw
      generalize zs.getD k 0 = n at *
      rcases Bool.eq_false_or_eq_true (right n) with hr | hr
      · have Hr := Lib.hid hr
        go_wp2_with (first | (go_at_call 15; refine (ref_Right _ _).mono ?_; rintro e w' ⟨rfl, rfl⟩))
        go_round
        case rel => exact ⟨k + 1, by omega, by go_num, by rw [Ha.out, H.out, Hr.out]; rfl⟩
        case measure => simp [intOf]; omega
      · have Hb := Lib.hid (Hbad.out hr)
        go_wp2_with (first | (go_at_call 15; refine (ref_Right _ _).mono ?_; rintro e w' ⟨rfl, rfl⟩))
        go_ret2
        exact ⟨ret2 (by simp [sumV, Hb.out]) Hb.out.symm, rfl⟩
    · obtain rfl : k = zs.length := by omega
      have Hall : Hid (zs.all right = true) := by have := H.out; rwa [List.take_length] at this
      clear H
      go_wp2
      go_loop [5, 6, 7] (fun u r i => ∃ (k : Nat) (un re : Int), k ≤ zs.length ∧ i = .int .i64 k ∧ u = .int .i64 un ∧ r = .int .i64 re ∧ -(9 * (k : Int)) ≤ un ∧ un ≤ 9 * k ∧ -1152921504606846976 < re ∧ re < 1152921504606846976 ∧ Hid (un * 1152921504606846976 + re = (zs.take k).sum)) (fun _ _ i => zs.length - (intOf i).toNat)
      case atStart => exact ⟨0, 0, 0, Nat.zero_le _, rfl, rfl, rfl, by omega, by omega, by omega, by omega, by simp [Hid]⟩
      case round =>
        obtain ⟨k, un, re, hk, rfl, rfl, rfl, u0, u1, r0, r1, H⟩ := hrel
        by_cases hlt : k < zs.length
        · rcases hz with rfl | ⟨b, off, rfl, hc⟩
          · simp at hlt
          have hcell := hc k hlt
          have hn := hw (zs.getD k 0) (by simp [List.getD, hlt])
          have Hs := Lib.hid (sum_take zs k hlt)
          clear hc hw
          generalize zs.getD k 0 = n at *
          have ⟨t1, t2, t3, t4, t5⟩ := tdiv60 n hn.1 hn.2
          have T1 := Lib.hid t1
          clear t1
          generalize hq : n.tdiv 1152921504606846976 = q at *
          generalize hm : n.tmod 1152921504606846976 = m at *
          go_wp2
          all_goals
            go_round
            case rel => exact ⟨k + 1, _, _, by omega, by go_num, rfl, rfl, by omega, by omega, by omega, by omega, by rw [Hs.out, ← H.out, ← T1.out]; show _ = _; omega⟩
            case measure => simp [intOf]; omega
        · obtain rfl : k = zs.length := by omega
          have HS : Hid (un * 1152921504606846976 + re = zs.sum) := by have := H.out; rwa [List.take_length] at this
          clear H hz hw hlt
          have hlen : (zs.length : Int) ≤ 1000000 := by omega
          have hV : sumB zs = right zs.sum := by simp [sumB, Hall.out]
          have Hv := Lib.hid (show sumV zs = numV zs.sum by simp [sumV, numV, hV])
          have HV := Lib.hid hV
          clear hV
          rcases (show (5 < un ∧ decide (5 < un) = true) ∨ (un < -5 ∧ decide (5 < un) = false ∧ decide (un < -5) = true) ∨ (-5 ≤ un ∧ un ≤ 5 ∧ decide (5 < un) = false ∧ decide (un < -5) = false) by simp; omega) with ⟨c, d⟩ | ⟨c, d, d'⟩ | ⟨c, c', d, d'⟩
          · have Hf : Hid (right zs.sum = false) := right_f1 (by rw [← HS.out]; omega)
            go_wp2
            go_ret2
            exact ⟨ret2 (by rw [Hv.out, numV_f Hf.out]) (by rw [HV.out, Hf.out]), rfl⟩
          · have Hf : Hid (right zs.sum = false) := right_f0 (by rw [← HS.out]; omega)
            go_wp2
            go_ret2
            exact ⟨ret2 (by rw [Hv.out, numV_f Hf.out]) (by rw [HV.out, Hf.out]), rfl⟩
          · obtain ⟨S, hS⟩ : ∃ S, S = un * 1152921504606846976 + re := ⟨_, rfl⟩
            have Hn : Hid (numV zs.sum = numV S ∧ right zs.sum = right S) := by rw [← HS.out, hS]; exact ⟨rfl, rfl⟩
            rw [hS] at Hn
            clear hS S
            rcases Bool.eq_false_or_eq_true (right (un * 1152921504606846976 + re)) with hr | hr
            · have Hr := Lib.hid hr
              go_wp2_with (first | (go_at_call 15; refine (ref_Right _ _).mono ?_; rintro e w' ⟨rfl, rfl⟩))
              go_ret2
              exact ⟨ret2 (by rw [Hv.out, Hn.out.1, numV_t Hr.out]) (by rw [HV.out, Hn.out.2, Hr.out]), rfl⟩
            · have Hr := Lib.hid hr
              go_wp2_with (first | (go_at_call 15; refine (ref_Right _ _).mono ?_; rintro e w' ⟨rfl, rfl⟩))
              go_ret2
              exact ⟨ret2 (by rw [Hv.out, Hn.out.1, numV_f Hr.out]) (by rw [HV.out, Hn.out.2, Hr.out]), rfl⟩
end Go.Proofs.YtolcadlbhocboaaDoor
