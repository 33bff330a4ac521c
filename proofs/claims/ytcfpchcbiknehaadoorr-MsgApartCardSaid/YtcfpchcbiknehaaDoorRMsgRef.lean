/-
  Layer 5, msg: the document's own way: may it be one: its contracts.
-/
import Derived.Test.YtcfpchcbiknehaaDoorRMsgMath
import Derived.Test.YtcfpchcbiknehaaDoorRFieldRefPut
import Derived.Deep.RegionHeld3
namespace Go.Proofs.YtcfpchcbiknehaaDoorR
open Go.RowKit

/-- An execution that is an argument: its numbers and texts are Go's. -/
structure Exc.In (x : Exc) : Prop where
  kind : -9223372036854775808 ≤ x.kind ∧ x.kind ≤ 9223372036854775807
  qty : -9223372036854775808 ≤ x.qty ∧ x.qty ≤ 9223372036854775807
  price : -9223372036854775808 ≤ x.price ∧ x.price ≤ 9223372036854775807
  time : -9223372036854775808 ≤ x.time ∧ x.time ≤ 9223372036854775807
  id : x.id.size ≤ maxLen
  ref : x.ref.size ≤ maxLen
  order : x.order.size ≤ maxLen
  account : x.account.size ≤ maxLen
  symbol : x.symbol.size ≤ maxLen
structure Mg.In (m : Mg) : Prop where
  kind : -9223372036854775808 ≤ m.kind ∧ m.kind ≤ 9223372036854775807
  seq : -9223372036854775808 ≤ m.seq ∧ m.seq ≤ 9223372036854775807
  time : -9223372036854775808 ≤ m.time ∧ m.time ≤ 9223372036854775807
  a : -9223372036854775808 ≤ m.a ∧ m.a ≤ 9223372036854775807
  b : -9223372036854775808 ≤ m.b ∧ m.b ≤ 9223372036854775807
  text : m.text.size ≤ maxLen
  ex : m.ex.In
theorem alnum_iff (c : UInt8) : alnum c = true ↔ (65 ≤ c.toNat ∧ c.toNat ≤ 90) ∨ (97 ≤ c.toNat ∧ c.toNat ≤ 122) ∨ (48 ≤ c.toNat ∧ c.toNat ≤ 57) := by simp [alnum]
theorem all_bad_at {p : UInt8 → Bool} (s : ByteArray) (k : Nat) (h : k < s.size) (he : p s[k] = false) : s.data.toList.all p = false := by
  rw [Bool.eq_false_iff]; intro hall
  have hm : s[k] ∈ s.data.toList := by
    have : s[k] = s.data.toList[k]'(by simpa using h) := by simp [ByteArray.getElem_eq_getElem_data]
    rw [this]; exact List.getElem_mem _
  have := List.all_eq_true.1 hall _ hm
  rw [he] at this; cases this
theorem isE (s : ByteArray) : s.toList.isEmpty = decide (s = eS) := by
  rw [Lib.toList_data]
  by_cases h : s = eS
  · rw [decide_eq_true h, h]; rfl
  · rw [decide_eq_false h, Bool.eq_false_iff]
    intro h0
    refine h ?_
    obtain ⟨⟨l⟩⟩ := s
    have : l = [] := by simpa using h0
    rw [this]; rfl
theorem toList_nil (s : ByteArray) : s.toList = [] ↔ s = eS := by
  have := isE s
  rw [Bool.eq_iff_iff, decide_eq_true_iff, List.isEmpty_iff] at this
  exact this
theorem msgR_iff {kind seq time : Int} {copy : Bool} {a b : Int} {gap : Bool} {text : ByteArray} {ex : Exc} : MsgR ⟨kind, seq, time, copy, a, b, gap, text, ex⟩ ↔
    ((1 ≤ kind ∧ kind ≤ 7) ∧ (1 ≤ seq ∧ seq ≤ 1099511627776) ∧ timeR time = true ∧ small a = true ∧ small b = true ∧ textB text = true) ∧ (kind = 7 → excB ex = true) ∧ (kind ≠ 7 → ex = Exc.zero) ∧ (kind ≠ 5 → gap = false) ∧ (kind ≠ 4 → b = 0) ∧ (kind ≠ 2 → kind ≠ 3 → text = eS) ∧
    (kind = 3 → text ≠ eS) ∧ (kind ≠ 1 → kind ≠ 4 → kind ≠ 5 → a = 0) ∧ (kind = 4 ∨ kind = 5 → a ≠ 0) :=
  ⟨fun h => ⟨⟨h.kind, h.seq, h.time, h.sa, h.sb, h.stext⟩, h.kinded.ex7, h.kinded.ex, h.kinded.gap, h.kinded.b, h.kinded.text, h.kinded.text3, h.kinded.a, h.kinded.a1⟩,
   fun ⟨⟨h1, h2, h3, h4, h5, h6⟩, k1, k2, k3, k4, k5, k6, k7, k8⟩ => ⟨h1, h2, h3, h4, h5, h6, ⟨k1, k2, k3, k4, k5, k6, k7, k8⟩⟩⟩
theorem nm_all {s : ByteArray} (h : s.data.toList.all alnum = true) : nm s = (decide (1 ≤ s.size) && decide (s.size ≤ 16)) := by unfold nm; rw [h, Bool.and_true, Bool.decide_and]
theorem nm_bad {s : ByteArray} (h : s.data.toList.all alnum = false) : nm s = false := by unfold nm; rw [h, Bool.and_false]
theorem alnum_cases (c : UInt8) :
    (alnum c = false ∧ ¬ (48 : Int) ≤ (c.toNat : Int) ∧ (c.toNat : Int) ≤ 57 ∧ ¬ (65 : Int) ≤ (c.toNat : Int) ∧ (c.toNat : Int) ≤ 90 ∧ ¬ (97 : Int) ≤ (c.toNat : Int) ∧ (c.toNat : Int) ≤ 122) ∨
    (alnum c = true ∧ (48 : Int) ≤ (c.toNat : Int) ∧ (c.toNat : Int) ≤ 57 ∧ ¬ (65 : Int) ≤ (c.toNat : Int) ∧ (c.toNat : Int) ≤ 90 ∧ ¬ (97 : Int) ≤ (c.toNat : Int) ∧ (c.toNat : Int) ≤ 122) ∨
    (alnum c = false ∧ (48 : Int) ≤ (c.toNat : Int) ∧ ¬ (c.toNat : Int) ≤ 57 ∧ ¬ (65 : Int) ≤ (c.toNat : Int) ∧ (c.toNat : Int) ≤ 90 ∧ ¬ (97 : Int) ≤ (c.toNat : Int) ∧ (c.toNat : Int) ≤ 122) ∨
    (alnum c = true ∧ (48 : Int) ≤ (c.toNat : Int) ∧ ¬ (c.toNat : Int) ≤ 57 ∧ (65 : Int) ≤ (c.toNat : Int) ∧ (c.toNat : Int) ≤ 90 ∧ ¬ (97 : Int) ≤ (c.toNat : Int) ∧ (c.toNat : Int) ≤ 122) ∨
    (alnum c = false ∧ (48 : Int) ≤ (c.toNat : Int) ∧ ¬ (c.toNat : Int) ≤ 57 ∧ (65 : Int) ≤ (c.toNat : Int) ∧ ¬ (c.toNat : Int) ≤ 90 ∧ ¬ (97 : Int) ≤ (c.toNat : Int) ∧ (c.toNat : Int) ≤ 122) ∨
    (alnum c = true ∧ (48 : Int) ≤ (c.toNat : Int) ∧ ¬ (c.toNat : Int) ≤ 57 ∧ (65 : Int) ≤ (c.toNat : Int) ∧ ¬ (c.toNat : Int) ≤ 90 ∧ (97 : Int) ≤ (c.toNat : Int) ∧ (c.toNat : Int) ≤ 122) ∨
    (alnum c = false ∧ (48 : Int) ≤ (c.toNat : Int) ∧ ¬ (c.toNat : Int) ≤ 57 ∧ (65 : Int) ≤ (c.toNat : Int) ∧ ¬ (c.toNat : Int) ≤ 90 ∧ (97 : Int) ≤ (c.toNat : Int) ∧ ¬ (c.toNat : Int) ≤ 122) := by
  have h := alnum_iff c
  rcases hb : alnum c with _ | _
  · have : ¬ ((65 ≤ c.toNat ∧ c.toNat ≤ 90) ∨ (97 ≤ c.toNat ∧ c.toNat ≤ 122) ∨ (48 ≤ c.toNat ∧ c.toNat ≤ 57)) := fun g => by rw [h.2 g] at hb; cases hb
    simp only [Bool.false_eq_true, true_and, false_and, false_or]
    omega
  · have := h.1 hb
    simp only [Bool.true_eq_false, true_and, false_and, false_or, or_false]
    omega
set_option maxRecDepth 100000 in
set_option maxHeartbeats 2000000 in
theorem ref_Name5 (s : ByteArray) (hs : s.size ≤ maxLen) (w : World) : Calls Tryd.prog 15 #[.string s] w fun e w' => e = .returned (.bool (nm s)) ∧ w = w' := by
  unfold maxLen at hs
  go_enter Tryd.func15, Tryd.ntmps15
  go_wp2
  go_loop [3] (fun i => ∃ k : Nat, k ≤ s.size ∧ i = .int .i64 k ∧ Hid ((s.data.toList.take k).all alnum = true)) (fun i => s.size - (intOf i).toNat)
  case atStart => exact ⟨0, Nat.zero_le _, rfl, rfl⟩
  case round =>
    obtain ⟨k, hk, rfl, H⟩ := hrel
    by_cases hlt : k < s.size
    · have Ht := Lib.hid (take_b s k hlt alnum)
      have Hb := Lib.hid (fun he => nm_bad (all_bad_at (p := alnum) s k hlt he))
      rcases alnum_cases s[k] with ⟨g, i1, i2, i3, i4, i5, i6⟩ | ⟨g, i1, i2, i3, i4, i5, i6⟩ | ⟨g, i1, i2, i3, i4, i5, i6⟩ | ⟨g, i1, i2, i3, i4, i5, i6⟩ | ⟨g, i1, i2, i3, i4, i5, i6⟩ | ⟨g, i1, i2, i3, i4, i5, i6⟩ | ⟨g, i1, i2, i3, i4, i5, i6⟩
      all_goals
        first
        | have Hal := Lib.hid (show alnum s[k] = true from g)
          clear Hb g
          go_wp2
          go_round
          case rel => exact ⟨k + 1, by omega, by go_num, by rw [Ht.out, H.out, Hal.out]; rfl⟩
          case measure => simp [intOf]; omega
        | have hF := Lib.hid (Hb.out g)
          clear Hb g Ht
          go_wp2
          go_ret
          exact ⟨retB hF.out.symm, rfl⟩
    · obtain rfl : k = s.size := by omega
      have hN := Lib.hid (nm_all (s := s) (by have := H.out; rwa [List.take_of_length_le (by simp)] at this))
      by_cases h0 : 0 < s.size
      · go_wp2
        go_ret
        exact ⟨retB (by rw [hN.out, decide_eq_true (show 1 ≤ s.size by omega), Bool.true_and, decide_eq_decide]; omega), rfl⟩
      · go_wp2
        go_ret
        exact ⟨retB (by rw [hN.out, decide_eq_false (by omega)]; rfl), rfl⟩
theorem ref_small5 (n : Int) (w : World) : Calls Tryd.prog 26 #[.int .i64 n] w fun e w' => e = .returned (.bool (small n)) ∧ w = w' := by
  have H := Lib.hid (show small n = (decide (0 ≤ n) && decide (n ≤ 1099511627776)) from Bool.decide_and _ _)
  by_cases h : 0 ≤ n
  · go_enter Tryd.func26, Tryd.ntmps26
    go_wp2
    go_ret
    exact ⟨retB (by rw [H.out, decide_eq_true (show 0 ≤ n by omega), Bool.true_and]), rfl⟩
  · go_enter Tryd.func26, Tryd.ntmps26
    go_wp2
    go_ret
    exact ⟨retB (by rw [H.out, decide_eq_false (show ¬ 0 ≤ n by omega)]; rfl), rfl⟩
theorem ref_time5 (n : Int) (w : World) : Calls Tryd.prog 27 #[.int .i64 n] w fun e w' => e = .returned (.bool (timeR n)) ∧ w = w' := by
  have H := Lib.hid (show timeR n = (decide (0 ≤ n) && decide (n ≤ 4611686018427387904)) from Bool.decide_and _ _)
  by_cases h : 0 ≤ n
  · go_enter Tryd.func27, Tryd.ntmps27
    go_wp2
    go_ret
    exact ⟨retB (by rw [H.out, decide_eq_true (show 0 ≤ n by omega), Bool.true_and]), rfl⟩
  · go_enter Tryd.func27, Tryd.ntmps27
    go_wp2
    go_ret
    exact ⟨retB (by rw [H.out, decide_eq_false (show ¬ 0 ≤ n by omega)]; rfl), rfl⟩
set_option maxRecDepth 100000 in
theorem ref_text5 (s : ByteArray) (hs : s.size ≤ maxLen) (w : World) : Calls Tryd.prog 28 #[.string s] w fun e w' => e = .returned (.bool (textB s)) ∧ w = w' := by
  unfold maxLen at hs
  have HT := Lib.hid (show textB s = (decide (s.size ≤ 64) && no1 s.data.toList) from rfl)
  go_enter Tryd.func28, Tryd.ntmps28
  go_wp2
  go_loop [3] (fun i => ∃ k : Nat, k ≤ s.size ∧ i = .int .i64 k ∧ Hid (no1 (s.data.toList.take k) = true)) (fun i => s.size - (intOf i).toNat)
  case atStart => exact ⟨0, Nat.zero_le _, rfl, rfl⟩
  case round =>
    obtain ⟨k, hk, rfl, H⟩ := hrel
    by_cases hlt : k < s.size
    · have Ht := Lib.hid (no1_take s k hlt)
      have Hb := Lib.hid (no1_bad s k hlt)
      rcases (show (((s[k].toNat : Int) == 1) = true ∧ s[k] = 1) ∨ (((s[k].toNat : Int) == 1) = false ∧ (s[k] != 1) = true) by
        by_cases h : s[k] = 1
        · left; rw [h]; exact ⟨rfl, rfl⟩
        · right
          refine ⟨?_, by simp [h]⟩
          rw [beq_eq_false_iff_ne]; intro h'; exact h (UInt8.toNat_inj.1 (by simp; omega))) with ⟨d, he⟩ | ⟨d, he⟩
      · have HB := Lib.hid (Hb.out he); clear he Hb
        go_wp2
        go_ret
        exact ⟨retB (by rw [HT.out, HB.out, Bool.and_false]), rfl⟩
      · have He := Lib.hid he; clear he Hb
        go_wp2
        go_round
        case rel => exact ⟨k + 1, by omega, by go_num, by rw [Ht.out, H.out, He.out]; rfl⟩
        case measure => simp [intOf]; omega
    · obtain rfl : k = s.size := by omega
      have h := H.out
      rw [List.take_of_length_le (by simp)] at h
      have HV := Lib.hid h
      clear H h
      go_wp2
      go_ret
      exact ⟨retB (by rw [HT.out, HV.out, Bool.and_true, decide_eq_decide]; omega), rfl⟩
set_option maxRecDepth 100000 in
set_option maxHeartbeats 2000000 in
theorem ref_Exec5 (x : Exc) (hx : x.In) (w : World) : Calls Tryd.prog 13 #[x.val] w fun e w' => e = .returned (.bool (excB x)) ∧ Below w.heap.size w w' := by
  obtain ⟨id, ref, order, account, symbol, kind, buy, qty, price, time⟩ := x
  have h1 := hx.id
  have h2 := hx.ref
  have h3 := hx.order
  have h4 := hx.account
  have h5 := hx.symbol
  unfold Exc.val
  dsimp only at h1 h2 h3 h4 h5 ⊢
  clear hx
  go_enter Tryd.func13, Tryd.ntmps13
  go_wp2_with (first | (go_at_call 15; refine (ref_Name5 _ (by assumption) _).mono ?_; rintro e w' ⟨rfl, rfl⟩) | (go_at_call 26; refine (ref_small5 _ _).mono ?_; rintro e w' ⟨rfl, rfl⟩) | (go_at_call 27; refine (ref_time5 _ _).mono ?_; rintro e w' ⟨rfl, rfl⟩))
  all_goals
    go_ret
    refine ⟨retB ?_, (Below.refl _ _).alloc (Nat.le_refl _) _⟩
    unfold excB refB refK
    dsimp only
    try simp only [isE] at *
    first
    | (simp_all; done)
    | (simp_all; omega)
    | grind
set_option maxRecDepth 100000 in
set_option maxHeartbeats 4000000 in
theorem ref_Right5 (m : Mg) (hm : m.In) (w : World) : Calls Tryd.prog 11 #[m.val] w fun e w' => e = .returned (.bool (msgB m)) ∧ Below w.heap.size w w' := by
  have hx := hm.ex
  have ht := hm.text
  obtain ⟨kind, seq, time, copy, a, b, gap, text, ex⟩ := m
  dsimp only at hx ht
  unfold Mg.val
  dsimp only
  clear hm
  have HX := Lib.hid (ref_Exec5 ex hx)
  clear hx
  have HB := Lib.hid (fun (v : Bool) (h : v = true ↔ MsgR ⟨kind, seq, time, copy, a, b, gap, text, ex⟩) => (show v = msgB ⟨kind, seq, time, copy, a, b, gap, text, ex⟩ from by rw [Bool.eq_iff_iff, msgB_iff]; exact h))
  obtain ⟨id, ref, order, account, symbol, k, buy, qty, price, tm⟩ := ex
  unfold Exc.val at *
  dsimp only at *
  go_enter Tryd.func11, Tryd.ntmps11
  go_wp2_with (first | (go_at_call 28; refine (ref_text5 _ (by assumption) _).mono ?_; rintro e w' ⟨rfl, rfl⟩) | (go_at_call 26; refine (ref_small5 _ _).mono ?_; rintro e w' ⟨rfl, rfl⟩) | (go_at_call 27; refine (ref_time5 _ _).mono ?_; rintro e w' ⟨rfl, rfl⟩) | (go_at_call 13; refine (HX.out _).mono ?_; rintro e w1 ⟨rfl, hb1⟩; (obtain ⟨hc1, hf1⟩ := bcell hb1; have hz1 := hb1.size; (repeat (first | rw [World.size_alloc] at hz1 | rw [World.size_setCell] at hz1 | rw [World.size_drew] at hz1)); have hB1 : Below w.heap.size w w1 := Below.trans (by go_grown) (hb1.mono (by go_size)))))
  all_goals
    go_ret
    refine ⟨retB (HB.out _ ?_), ?_⟩
    · clear HB HX
      rw [msgR_iff]
      try simp only [toList_nil, isE] at *
      first
      | (simp_all [small, Exc.zero]; done)
      | (simp_all [small, Exc.zero]; omega)
      | grind
      | trace_state
    · go_grown
theorem ref_num5 (t n : Int) (w : World) : Calls Tryd.prog 21 #[.int .i64 t, .int .i64 n] w fun e w' => e = .returned (.agg #[.int .i64 t, .string (nmV n)]) ∧ Below w.heap.size w w' := by
  have HS := Lib.hid (fun w => ref_Show n w)
  have e1 : (⟨(showL n).toArray⟩ : ByteArray) = nmV n := rfl
  rw [e1] at HS
  generalize nmV n = v at *
  go_enter Tryd.func21, Tryd.ntmps21
  go_wp2_with (go_at_call 41; refine (HS.out _).mono ?_; rintro e w' ⟨rfl, rfl⟩)
  refine bodyPost_ret (v := .agg #[.int .i64 t, .string v]) (by simp [results, Tryd.results21, go_sem]) rfl ?_
  exact ⟨rfl, by go_grown⟩
def shortM (m : Mg) : Bool := decide (m.text.size ≤ 300) && (decide (m.ex.id.size ≤ 300) && (decide (m.ex.ref.size ≤ 300) && (decide (m.ex.order.size ≤ 300) && (decide (m.ex.account.size ≤ 300) && decide (m.ex.symbol.size ≤ 300)))))
set_option maxRecDepth 100000 in
set_option maxHeartbeats 2000000 in
theorem ref_Short5 (m : Mg) (hm : m.In) (w : World) : Calls Tryd.prog 7 #[m.val] w fun e w' => e = .returned (.bool (shortM m)) ∧ Below w.heap.size w w' := by
  have hx := hm.ex
  have ht := hm.text
  obtain ⟨kind, seq, time, copy, a, b, gap, text, ex⟩ := m
  obtain ⟨id, ref, order, account, symbol, k, buy, qty, price, tm⟩ := ex
  have h1 := hx.id
  have h2 := hx.ref
  have h3 := hx.order
  have h4 := hx.account
  have h5 := hx.symbol
  unfold Mg.val shortM
  dsimp only at hx ht h1 h2 h3 h4 h5 ⊢
  clear hm hx
  unfold maxLen at *
  go_enter Tryd.func7, Tryd.ntmps7
  go_wp2
  all_goals
    go_ret
    refine ⟨retB ?_, by go_grown⟩
    rw [Bool.eq_iff_iff]
    simp only [Bool.and_eq_true, decide_eq_true_iff, Bool.false_eq_true, false_iff, not_and]
    first
    | omega
    | trace_state
end Go.Proofs.YtcfpchcbiknehaaDoorR
