/-
  The document's answer for layer 1's Parse comes to what the program's does.
-/
import Derived.Test.YtioagepalfiioaaDoorRefText
import Derived.Deep.DeepCutAuto
namespace Go.Proofs.YtioagepalfiioaaDoor
open Go.RowKit

theorem decA_snoc (l : List UInt8) (c : UInt8) : ∀ n, decA n (l ++ [c]) = decA n l * 10 + (c.toNat - 48) := by
  intro n; unfold decA; rw [List.foldl_append]; rfl
/-- The bytes from i up to k. -/
def mid (l : List UInt8) (i k : Nat) : List UInt8 := (l.drop i).take (k - i)
theorem mid_succ (s : ByteArray) (i k : Nat) (hi : i ≤ k) (h : k < s.size) : mid s.data.toList i (k + 1) = mid s.data.toList i k ++ [s[k]] := by
  unfold mid
  have hk : k - i < (s.data.toList.drop i).length := by simp; omega
  rw [show k + 1 - i = (k - i) + 1 by omega, List.take_succ_eq_append_getElem hk]
  congr 2
  rw [List.getElem_drop]
  have : i + (k - i) = k := by omega
  simp only [this]; rfl
theorem mid_all (s : ByteArray) (i : Nat) (_ : i ≤ s.size) : mid s.data.toList i s.size = s.data.toList.drop i := by
  unfold mid; exact List.take_of_length_le (by simp)

theorem starts (s : ByteArray) : ∃ (neg : Bool) (i : Nat), Hid (i = if neg then 1 else 0) ∧ i ≤ s.size ∧ Hid (digitsOf s.data.toList = s.data.toList.drop i) ∧ Hid (isNeg s.data.toList = neg) ∧
    ((0 < s.size ∧ ∃ h : 0 < s.size, ((s[0].toNat : Int) == 45) = neg) ∨ (s.size = 0 ∧ neg = false)) := by
  have hsz : s.data.toList.length = s.size := by simp
  match h : s.data.toList, hsz with
  | [], hsz => exact ⟨false, 0, rfl, Nat.zero_le _, rfl, rfl, .inr ⟨hsz.symm, rfl⟩⟩
  | c :: r, hsz =>
    simp only [List.length_cons] at hsz
    have h0 : 0 < s.size := by omega
    have hc : s[0] = c := by
      have : s.data.toList[0]'(by rw [h]; simp) = c := by simp only [h]; rfl
      rw [← this]; rfl
    by_cases e : c = 45
    · subst e
      refine ⟨true, 1, rfl, by omega, digitsOf_neg r, by rw [isNeg_cons]; rfl, .inl ⟨h0, h0, by rw [hc]; rfl⟩⟩
    · refine ⟨false, 0, rfl, by omega, digitsOf_pos c r e, by rw [isNeg_cons]; exact decide_eq_false e, .inl ⟨h0, h0, ?_⟩⟩
      rw [hc, beq_eq_false_iff_ne]
      have := u8_ne (n := 45) (by omega) e
      omega
/-- What stands behind the first test: too few digits, a 0 too many, or digits to be read. -/
theorem form_cases (s : ByteArray) (neg : Bool) (i : Nat) (hi : i = if neg then 1 else 0) (ile : i ≤ s.size) (hd : digitsOf s.data.toList = s.data.toList.drop i) (hneg : isNeg s.data.toList = neg) :
    (i = s.size ∧ formB s.data.toList = false) ∨ (∃ h : i < s.size, ((s[i].toNat : Int) == 48) = true ∧ 1 < s.size ∧ formB s.data.toList = false) ∨
      (∃ h : i < s.size, (((s[i].toNat : Int) == 48) = false ∨ (((s[i].toNat : Int) == 48) = true ∧ s.size ≤ 1)) ∧ formB s.data.toList = (s.data.toList.drop i).all digB) := by
  have hsz : s.data.toList.length = s.size := by simp
  unfold formB
  rw [hd, hneg]
  rcases Nat.lt_or_ge i s.size with h | h
  · right
    have hk : i < s.data.toList.length := by omega
    have e : s.data.toList.drop i = s[i] :: s.data.toList.drop (i + 1) := by rw [List.drop_eq_getElem_cons hk]; rfl
    have hlen : (s.data.toList.drop (i + 1)).length = s.size - (i + 1) := by simp
    rw [e]
    generalize hr : s.data.toList.drop (i + 1) = r at *
    by_cases hc : s[i] = 48
    · have hb : ((s[i].toNat : Int) == 48) = true := by rw [hc]; rfl
      by_cases h1 : 1 < s.size
      · left
        refine ⟨h, hb, h1, ?_⟩
        rw [hc]
        rw [show formD neg (48 :: r) = (r.isEmpty && !neg) from rfl]
        cases neg with
        | true => simp
        | false =>
          have : i = 0 := by simpa using hi
          cases r with
          | nil => simp at hlen; omega
          | cons _ _ => rfl
      · right
        refine ⟨h, .inr ⟨hb, by omega⟩, ?_⟩
        have hi0 : i = 0 := by omega
        have hn : neg = false := by cases neg with
          | false => rfl
          | true => simp at hi; omega
        have hr0 : r = [] := by
          cases r with
          | nil => rfl
          | cons _ _ => simp at hlen; omega
        rw [hc, hn, hr0]; rfl
    · right
      refine ⟨h, .inl ?_, formD_cons hc⟩
      rw [beq_eq_false_iff_ne]
      have := u8_ne (n := 48) (by omega) hc
      omega
  · left
    refine ⟨by omega, ?_⟩
    rw [List.drop_eq_nil_of_le (by omega)]; rfl
theorem valN_of (l : List UInt8) (neg : Bool) (i : Nat) (hd : digitsOf l = l.drop i) (hneg : isNeg l = neg) : valN l = if neg then -((decA 0 (l.drop i) : Nat) : Int) else ((decA 0 (l.drop i) : Nat) : Int) := by
  unfold valN; rw [hd, hneg]
set_option maxHeartbeats 1000000 in
theorem ref_Parse (s : ByteArray) (hs : s.size ≤ maxLen) (w : World) :
    Calls Tryd.prog 29 #[.string s] w fun e w' => e = .returned (.tuple #[.int .i64 (parseV s.data.toList), .int .i64 (parseE s.data.toList)]) ∧ w = w' := by
  unfold maxLen at hs
  have hsz : s.data.toList.length = s.size := by simp
  by_cases hl : 20 < s.size
  · have Hp := Lib.hid (parse_long (l := s.data.toList) (by omega))
    clear hsz
    go_enter Tryd.func29, Tryd.ntmps29
    go_wp2
    go_ret2
    exact ⟨retII Hp.out.2.symm Hp.out.1.symm, rfl⟩
  · have Hl20 := Lib.hid (show ¬ 20 < s.data.toList.length by omega)
    -- where the digits begin
    obtain ⟨neg, i, hi, ile, Hd, Hneg, first⟩ : ∃ (neg : Bool) (i : Nat), Hid (i = if neg then 1 else 0) ∧ i ≤ s.size ∧ Hid (digitsOf s.data.toList = s.data.toList.drop i) ∧ Hid (isNeg s.data.toList = neg) ∧
        ((0 < s.size ∧ ∃ h : 0 < s.size, ((s[0].toNat : Int) == 45) = neg) ∨ (s.size = 0 ∧ neg = false)) := starts s
    go_enter Tryd.func29, Tryd.ntmps29
    go_upto_region 4 with fail
    go_cut [18] (fun s18 wx => s18 = .bool neg ∧ wx = w)
    case first =>
      rcases first with ⟨h0, _, he⟩ | ⟨h0, rfl⟩
      · go_wp2
        go_meet
        case rel => exact ⟨rfl, rfl⟩
      · have hz : ¬ 0 < s.size := by omega
        clear h0
        go_wp2
        go_meet
        case rel => exact ⟨rfl, rfl⟩
    case rest =>
      obtain ⟨rfl, rfl⟩ := hcut
      clear first
      go_upto_if 18 with fail
      go_cut [4] (fun s4 wx => s4 = .int .i64 i ∧ wx = wc)
      case first =>
        rcases neg with _ | _
        all_goals
          go_wp2
          go_meet
          case rel => exact ⟨by rw [hi.out]; rfl, rfl⟩
      case rest =>
        obtain ⟨rfl, rfl⟩ := hcut
        have i1 : i ≤ 1 := by rw [hi.out]; split <;> omega
        have Hform := Lib.hid (parse_form (l := s.data.toList) Hl20.out)
        have s20 : s.size ≤ 20 := by omega
        clear hl hs hsz
        rcases form_cases s neg i hi.out ile Hd.out Hneg.out with ⟨h1, hf⟩ | ⟨hlt, h1, h2, hf⟩ | ⟨hlt, h1, hf⟩
        · have Hf := Lib.hid (Hform.out hf)
          have he : ((i : Int) == (s.size : Int)) = true := by rw [beq_iff_eq]; omega
          clear hf h1
          go_wp2
          go_ret2
          exact ⟨retII Hf.out.2.symm Hf.out.1.symm, rfl⟩
        · have Hf := Lib.hid (Hform.out hf)
          have he : ((i : Int) == (s.size : Int)) = false := by rw [beq_eq_false_iff_ne]; omega
          clear hf
          go_wp2
          go_ret2
          exact ⟨retII Hf.out.2.symm Hf.out.1.symm, rfl⟩
        · have Hf := Lib.hid hf
          have he : ((i : Int) == (s.size : Int)) = false := by rw [beq_eq_false_iff_ne]; omega
          clear hf
          go_upto_region 6 with fail
          go_cut [33] (fun s33 wx => s33 = .bool false ∧ wx = wc)
          case first =>
            rcases h1 with h1 | ⟨h1, h2⟩
            · go_wp2
              go_meet
              case rel => exact ⟨rfl, rfl⟩
            · have h3 : decide ((1 : Int) < (s.size : Int)) = false := decide_eq_false (by omega)
              go_wp2
              go_meet
              case rel => exact ⟨by first | rfl | rw [h3], rfl⟩
          case rest =>
            obtain ⟨rfl, rfl⟩ := hcut
            clear h1 he
            have Hpv : Hid (valN s.data.toList = if neg then -((decA 0 (s.data.toList.drop i) : Nat) : Int) else ((decA 0 (s.data.toList.drop i) : Nat) : Int)) := valN_of _ neg i Hd.out Hneg.out
            have Hpo := Lib.hid (parse_over (l := s.data.toList) Hl20.out)
            have Hpk := Lib.hid (parse_ok (l := s.data.toList) Hl20.out)
            clear Hl20 Hd Hneg
            go_wp2
            go_loop [5, 6, 7] (fun n o j => ∃ (k : Nat) (m : Int) (ov : Bool), i ≤ k ∧ k ≤ s.size ∧ j = .int .i64 k ∧ n = .int .u64 m ∧ o = .bool ov ∧ 0 ≤ m ∧ m ≤ 4611686018427387909 ∧
                Hid ((mid s.data.toList i k).all digB = true ∧ (ov = false → m = (decA 0 (mid s.data.toList i k) : Nat)) ∧ (ov = true → 4611686018427387910 ≤ decA 0 (mid s.data.toList i k)))) (fun _ _ j => s.size - (intOf j).toNat)
            case atStart => exact ⟨i, 0, false, Nat.le_refl _, by omega, rfl, rfl, rfl, by omega, by omega, by simp [Hid, mid, decA_nil]⟩
            case round =>
              obtain ⟨k, m, ov, hik, hks, rfl, rfl, rfl, m0, m1, H⟩ := hrel
              by_cases hlt2 : k < s.size
              · have Hm := Lib.hid (mid_succ s i k hik hlt2)
                have Hbad : Hid (digB s[k] = false → formB s.data.toList = false) := fun h => by
                  rw [Hf.out, ← mid_all s i (by omega)]
                  have : s[k] ∈ mid s.data.toList i s.size := by
                    rw [mid_all s i (by omega)]
                    rw [List.mem_iff_getElem]
                    refine ⟨k - i, by simp; omega, ?_⟩
                    rw [List.getElem_drop]
                    have e : i + (k - i) = k := by omega
                    simp only [e]; rfl
                  rw [List.all_eq_false]
                  exact ⟨_, this, by simp [h]⟩
                have c1 : (s[k].toNat : Int) ≤ 255 := by have := s[k].toNat_lt; omega
                rcases (show (digB s[k] = true ∧ 48 ≤ (s[k].toNat : Int) ∧ (s[k].toNat : Int) ≤ 57) ∨ (digB s[k] = false ∧ (s[k].toNat : Int) < 48) ∨ (digB s[k] = false ∧ 57 < (s[k].toNat : Int)) by
                  unfold digB; simp; omega) with ⟨hd, d0, d1⟩ | ⟨hd, d0⟩ | ⟨hd, d0⟩
                · have Hdg := Lib.hid hd
                  clear hd
                  have step : Hid ((mid s.data.toList i (k + 1)).all digB = true ∧ decA 0 (mid s.data.toList i (k + 1)) = decA 0 (mid s.data.toList i k) * 10 + (s[k].toNat - 48)) := by
                    rw [Hm.out, decA_snoc, List.all_append, H.out.1]
                    exact ⟨by simpa using Hdg.out, rfl⟩
                  clear Hm
                  rcases ov with _ | _
                  · by_cases hb : 461168601842738790 < m
                    · go_wp2
                      go_round
                      case rel => exact ⟨k + 1, m, true, by omega, by omega, by go_num, rfl, rfl, m0, m1, step.out.1, (fun h => by cases h), fun _ => by have := H.out.2.1 rfl; have := step.out.2; omega⟩
                      case measure => simp [intOf]; omega
                    · go_wp2
                      go_round
                      case rel => exact ⟨k + 1, _, false, by omega, by omega, by go_num, rfl, rfl, by omega, by omega, step.out.1, fun _ => by have := H.out.2.1 rfl; have := step.out.2; omega, fun h => by cases h⟩
                      case measure => simp [intOf]; omega
                  · go_wp2
                    go_round
                    case rel => exact ⟨k + 1, m, true, by omega, by omega, by go_num, rfl, rfl, m0, m1, step.out.1, (fun h => by cases h), fun _ => by have := H.out.2.2 rfl; have := step.out.2; omega⟩
                    case measure => simp [intOf]; omega
                all_goals
                  have Hff := Lib.hid (Hform.out (Hbad.out hd))
                  clear hd
                  go_wp2
                  go_ret2
                  exact ⟨retII Hff.out.2.symm Hff.out.1.symm, rfl⟩
              · obtain rfl : k = s.size := by omega
                have HF : Hid (formB s.data.toList = true) := by rw [Hf.out, ← mid_all s i (by omega)]; exact H.out.1
                have HA : Hid ((ov = false → m = (decA 0 (s.data.toList.drop i) : Nat)) ∧ (ov = true → 4611686018427387910 ≤ decA 0 (s.data.toList.drop i))) := by
                  rw [← mid_all s i (by omega)]; exact H.out.2
                clear H Hf Hform
                generalize decA 0 (s.data.toList.drop i) = v at *
                rcases ov with _ | _
                · have hm := HA.out.1 rfl
                  by_cases hb : 4611686018427387904 < m
                  · have Hr : Hid (parseE s.data.toList = 9 ∧ parseV s.data.toList = 0) := Hpo.out HF.out (by rw [Hpv.out]; split; exact right_f0 (by omega); exact right_f1 (by omega))
                    clear hm
                    go_wp2
                    go_ret2
                    exact ⟨retII Hr.out.2.symm Hr.out.1.symm, rfl⟩
                  · have Hr : Hid (parseE s.data.toList = 0 ∧ parseV s.data.toList = if neg then -m else m) := by
                      have := Hpk.out HF.out (by rw [Hpv.out]; split; exact right_t (by omega) (by omega); exact right_t (by omega) (by omega))
                      rw [Hpv.out, ← hm] at this; exact this
                    clear hm
                    rcases neg with _ | _
                    · have hi0 : i = 0 := hi.out
                      subst hi0
                      go_wp2
                      go_ret2
                      exact ⟨retII (by rw [Hr.out.2]; rfl) Hr.out.1.symm, rfl⟩
                    · have hi0 : i = 1 := hi.out
                      subst hi0
                      go_wp2
                      go_ret2
                      exact ⟨retII (by rw [Hr.out.2]; rfl) Hr.out.1.symm, rfl⟩
                · have hm := HA.out.2 rfl
                  have Hr : Hid (parseE s.data.toList = 9 ∧ parseV s.data.toList = 0) := Hpo.out HF.out (by rw [Hpv.out]; split; exact right_f0 (by omega); exact right_f1 (by omega))
                  clear hm
                  go_wp2
                  go_ret2
                  exact ⟨retII Hr.out.2.symm Hr.out.1.symm, rfl⟩
end Go.Proofs.YtioagepalfiioaaDoor
