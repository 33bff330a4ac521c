/-
  Layer 1, num.Sum: its contract.
-/
import Derived.Test.YtolcadlbhocboaaDoorNum
import Derived.Shelf.Spec.BitsCarry
namespace Go.Proofs.YtolcadlbhocboaaDoor
open Go.RowKit

/-- The slice at a holds these numbers. -/
def Ints (k : IntKind) (w : World) (a : Option Addr) (zs : List Int) : Prop :=
  zs = [] ∨ ∃ b off, a = some ⟨b, off, none⟩ ∧ ∀ i, i < zs.length → w.cell? ⟨b, off + i, none⟩ = some (.int k (zs.getD i 0))

theorem addr_add (b off i : Nat) : Addr.add ⟨b, off, none⟩ i = ⟨b, off + i, none⟩ := by
  unfold Addr.add; split
  · rename_i h; subst h; rfl
  · rfl
theorem add64 (x y c : Int) (hx : 0 ≤ x) (hx' : x < 18446744073709551616) (hy : 0 ≤ y) (hy' : y < 18446744073709551616) (hc0 : 0 ≤ c) (hc : c ≤ 1) (w : World) :
    (callFunc 25 #[.int .u64 x, .int .u64 y, .int .u64 c]).run Tryd.prog w = .ok (.value (.tuple #[.int .u64 ((x + y + c) % 18446744073709551616), .int .u64 ((x + y + c) / 18446744073709551616)])) w := by
  obtain ⟨x, rfl⟩ := Int.eq_ofNat_of_zero_le hx
  obtain ⟨y, rfl⟩ := Int.eq_ofNat_of_zero_le hy
  obtain ⟨c, rfl⟩ := Int.eq_ofNat_of_zero_le hc0
  rw [run_callFunc_extern Tryd.func25 (by kernel_rfl) (by kernel_rfl) (by kernel_rfl) (e := add64Entry) (by kernel_rfl), run_add64 x y c (by omega) (by omega) (by omega) (by omega)]
  simp only [Result.andThen]

theorem sum_take (zs : List Int) (k : Nat) (h : k < zs.length) : (zs.take (k + 1)).sum = (zs.take k).sum + zs.getD k 0 := by
  rw [List.take_succ_eq_append_getElem h, List.sum_append]; simp [List.getD, h]
theorem all_take (zs : List Int) (k : Nat) (h : k < zs.length) : (zs.take (k + 1)).all right = ((zs.take k).all right && right (zs.getD k 0)) := by
  rw [List.take_succ_eq_append_getElem h, List.all_append]; simp [List.getD, h]
theorem sum_bound (zs : List Int) (h : zs.all right = true) : -(4611686018427387904 * (zs.length : Int)) ≤ zs.sum ∧ zs.sum ≤ 4611686018427387904 * (zs.length : Int) := by
  induction zs with
  | nil => simp
  | cons z r ih =>
    simp only [List.all_cons, Bool.and_eq_true] at h
    have := ih h.2
    have := right_iff.1 h.1
    simp only [List.sum_cons, List.length_cons]
    push_cast
    omega
theorem sumB_bad (zs : List Int) (k : Nat) (h : k < zs.length) (hb : right (zs.getD k 0) = false) : sumB zs = false := by
  unfold sumB
  have : zs.all right = false := by
    rw [List.all_eq_false]
    exact ⟨zs.getD k 0, by simp [List.getD, h], by simpa using hb⟩
  simp [this]

set_option maxHeartbeats 400000 in
theorem num_Sum (a : Option Addr) (cap : Nat) (zs : List Int) (w : World) (hz : Ints .i64 w a zs) (hw : ∀ n ∈ zs, -9223372036854775808 ≤ n ∧ n ≤ 9223372036854775807) (hl : zs.length ≤ 1000000) :
    Calls Tryd.prog 16 #[.slice a zs.length cap] w fun e w' => e = .returned (.tuple #[.int .i64 (sumV zs), .bool (sumB zs)]) ∧ w = w' := by
  go_enter Tryd.func16, Tryd.ntmps16
  go_wp2
  go_loop [4, 5, 11] (fun hi lo i => ∃ (k : Nat) (h l : Int), k ≤ zs.length ∧ i = .int .i64 k ∧ hi = .int .u64 h ∧ lo = .int .u64 l ∧ 0 ≤ h ∧ h < 18446744073709551616 ∧ 0 ≤ l ∧ l < 18446744073709551616 ∧
      Hid ((zs.take k).all right = true ∧ l = (zs.take k).sum % 18446744073709551616 ∧ h = (zs.take k).sum / 18446744073709551616 % 18446744073709551616)) (fun _ _ i => zs.length - (intOf i).toNat)
  case atStart => exact ⟨0, 0, 0, Nat.zero_le _, rfl, rfl, rfl, by omega, by omega, by omega, by omega, by simp [Hid]⟩
  case round =>
    obtain ⟨k, h, l, hk, rfl, rfl, rfl, h0, h1, l0, l1, H⟩ := hrel
    by_cases hlt : k < zs.length
    · rcases hz with rfl | ⟨b, off, rfl, hc⟩
      · simp at hlt
      have hcell := hc k hlt
      have hn := hw (zs.getD k 0) (by simp [List.getD, hlt])
      rcases Bool.eq_false_or_eq_true (right (zs.getD k 0)) with hr | hr
      · have ⟨n0, n1⟩ := right_iff.1 hr
        have Hs := Lib.hid (sum_take zs k hlt)
        have Ha := Lib.hid (all_take zs k hlt)
        have Hr := Lib.hid hr
        clear hc hw hn
        generalize hn : zs.getD k 0 = n at *
        have Hn := Lib.hid hn; clear hn
        have hs : 0 ≤ sgnU n ∧ sgnU n < 18446744073709551616 := by unfold sgnU; split <;> omega
        obtain ⟨s0, s1⟩ := hs
        rcases (show (IntKind.u64.wrap n = n + 18446744073709551616 ∧ n < 0) ∨ (IntKind.u64.wrap n = n ∧ 0 ≤ n) by rw [IntKind.wrap_u64]; omega) with ⟨hwr, hneg⟩ | ⟨hwr, hneg⟩
        all_goals
          go_wp2_with (first | simp (disch := omega) only [add64] | (go_at_call 14; refine (num_Right _ _).mono ?_; rintro e w' ⟨rfl, rfl⟩) | (go_at_call 26; refine (num_signs _ (by omega) (by omega) _).mono ?_; rintro e w' ⟨rfl, rfl⟩))
        all_goals
          go_round
          case rel =>
            refine ⟨k + 1, _, _, by omega, by go_num, rfl, rfl, by omega, by omega, by omega, by omega, ?_⟩
            have ⟨H1, H2, H3⟩ := H.out
            refine ⟨by rw [Ha.out, H1, Hr.out]; rfl, ?_, ?_⟩
            · rw [Hs.out, H2]; omega
            · rw [Hs.out, H2, H3]; unfold sgnU; split <;> omega
          case measure => simp [intOf]; omega
      · have Hb := Lib.hid (sumB_bad zs k hlt hr)
        clear hc hw hn
        generalize zs.getD k 0 = n at *
        go_wp2_with (go_at_call 14; refine (num_Right _ _).mono ?_; rintro e w' ⟨rfl, rfl⟩)
        go_ret2
        exact ⟨ret2 (by simp [sumV, Hb.out]) Hb.out.symm, rfl⟩
    · obtain rfl : k = zs.length := by omega
      have ⟨H1, H2, H3⟩ := H.out
      rw [List.take_length] at H1 H2 H3
      have hb := sum_bound zs H1
      have hlen : (zs.length : Int) ≤ 1000000 := by omega
      clear H hz hw
      have hV : sumB zs = right zs.sum := by simp [sumB, H1]
      have Hv := Lib.hid (show sumV zs = numV zs.sum by simp [sumV, numV, hV])
      have HV := Lib.hid hV
      clear H1 hV
      rcases (show (wrap64 l = zs.sum ∧ h = sgnU zs.sum) ∨ (¬ (-9223372036854775808 ≤ zs.sum ∧ zs.sum ≤ 9223372036854775807) ∧ (h == sgnU (wrap64 l)) = false) by
          simp only [beq_eq_false_iff_ne, ne_eq]
          unfold sgnU wrap64
          generalize zs.sum = S at *
          generalize (zs.length : Int) = n at *
          by_cases hS : -9223372036854775808 ≤ S ∧ S ≤ 9223372036854775807
          · left; constructor
            · omega
            · split <;> omega
          · right; refine ⟨hS, ?_⟩; split <;> omega) with ⟨e1, rfl⟩ | ⟨hS, hne⟩
      · have t0 : -9223372036854775808 ≤ zs.sum := by unfold wrap64 at e1; omega
        have t1 : zs.sum ≤ 9223372036854775807 := by unfold wrap64 at e1; omega
        clear H2 H3
        go_wp2_with (first | (go_at_call 26; refine (num_signs _ (by omega) (by omega) _).mono ?_; rintro e w' ⟨rfl, rfl⟩) | (go_at_call 22; refine (num_number _ _).mono ?_; rintro e w' ⟨rfl, rfl⟩))
        go_ret2
        exact ⟨ret2 Hv.out.symm HV.out.symm, rfl⟩
      · have hf : right zs.sum = false := by
          rcases right_cases zs.sum with ⟨_, t0, t1⟩ | ⟨h, _⟩
          · omega
          · exact h
        have Hf := Lib.hid hf
        have hne' : (h != sgnU (wrap64 l)) = true := by rw [bne, hne]; rfl
        clear H2 H3 hf hS hb
        go_wp2_with (first | (go_at_call 26; refine (num_signs _ (by unfold wrap64; omega) (by unfold wrap64; omega) _).mono ?_; rintro e w' ⟨rfl, rfl⟩))
        go_ret2
        exact ⟨ret2 (by rw [Hv.out, numV_f Hf.out]) (by rw [HV.out, Hf.out]), rfl⟩
end Go.Proofs.YtolcadlbhocboaaDoor
