/-
  Layer 1, num.Parse and num.Show: their contracts.
-/
import Derived.Test.YtcfpchcbiknehaaDoorRNum
import Derived.Test.YtcfpchcbiknehaaDoorRTextMath
import Derived.WalkSpells
import Derived.Lib.SmallJoins
import Derived.Lib.AppendIntMem
namespace Go.Proofs.YtcfpchcbiknehaaDoorR
open Go.RowKit
theorem retB {b b' : Bool} (h : b = b') : Ending.returned (.bool b) = .returned (.bool b') := by rw [h]

theorem cutMinus (s : ByteArray) (w : World) : Calls Tryd.prog 69 #[.string s, .string ⟨#[45]⟩] w fun e w' => e = .returned (.tuple #[.string ⟨(digitsOf s.data.toList).toArray⟩, .bool (isNeg s.data.toList)]) ∧ w = w' :=
  (Tryd.strings_CutPrefix s ⟨#[45]⟩ w).mono fun _ _ ⟨he, hw⟩ => ⟨he, hw.symm⟩


theorem all_take_b (p : UInt8 → Bool) (d : List UInt8) (k : Nat) (h : k < d.length) : (d.take (k + 1)).all p = ((d.take k).all p && p d[k]) := by
  rw [List.take_succ_eq_append_getElem h, List.all_append]; simp
theorem formD_cons {neg : Bool} {c : UInt8} {r : List UInt8} (h : ¬ c = 48) : formD neg (c :: r) = (c :: r).all digB := by
  simp [formD, h]


theorem take_b (t : ByteArray) (k : Nat) (h : k < t.size) (p : UInt8 → Bool) : (t.data.toList.take (k + 1)).all p = ((t.data.toList.take k).all p && p t[k]) := by
  have hk : k < t.data.toList.length := by simpa using h
  rw [all_take_b p _ k hk]; rfl

set_option maxHeartbeats 400000 in
theorem formed_t (s t : ByteArray) (neg b : Bool) (hs : t.size ≤ 1000000) (w : World) (hb : formD neg t.data.toList = b)
    (Hc : Hid (∀ w, Calls Tryd.prog 69 #[.string s, .string ⟨#[45]⟩] w fun e w' => e = .returned (.tuple #[.string t, .bool neg]) ∧ w = w')) :
    Calls Tryd.prog 62 #[.string s] w fun e w' => e = .returned (.bool b) ∧ w = w' := by
  by_cases h0 : 0 < t.size
  · have hne : t.toList.isEmpty = false := by
      rw [Lib.toList_data]; cases h : t.data.toList with
      | nil => have : t.size = 0 := by simpa using congrArg List.length h
               omega
      | cons _ _ => rfl
    have hdl : 0 < t.data.toList.length := by simpa using h0
    have he0 : t.data.toList[0] = t[0] := rfl
    by_cases hc : t[0] = 48
    · have e48 : ((t[0].toNat : Int) == 48) = true := by rw [hc]; rfl
      rcases (show (t.toList = [48] ∧ (!neg) = b) ∨ ((t.toList == [48]) = false ∧ ¬ t.toList = [48] ∧ false = b) by
        rw [Lib.toList_data]
        subst hb
        match h : t.data.toList, hdl with
        | c :: r, _ =>
          have : c = 48 := by
            rw [← hc, ← he0]; simp [h]
          subst this
          rcases r with _ | ⟨c2, r⟩
          · left; simp [formD]
          · right; simp [formD]) with ⟨e1, e2⟩ | ⟨e1, e1', e2⟩
      all_goals
        have Hb := Lib.hid e2; clear e2 hb hc he0
        go_enter Tryd.func62, Tryd.ntmps62
        go_wp2_with (go_at_call 69; refine (Hc.out _).mono ?_; rintro e w' ⟨rfl, rfl⟩)
        go_ret
        exact ⟨retB Hb.out, rfl⟩
    · have hc' : ((t[0].toNat : Int) == 48) = false := by
        rw [beq_eq_false_iff_ne]; intro h; apply hc; have : t[0].toNat = 48 := by omega
        exact UInt8.toNat_inj.1 (by simpa using this)
      have Hb : Hid (t.data.toList.all digB = b) := by
        subst hb
        match h : t.data.toList, hdl with
        | c :: r, _ =>
          have : ¬ c = 48 := by
            intro e; apply hc; rw [← he0]; simp [h, e]
          exact (formD_cons this).symm
      clear hb hc he0
      go_enter Tryd.func62, Tryd.ntmps62
      go_wp2_with (go_at_call 69; refine (Hc.out _).mono ?_; rintro e w' ⟨rfl, rfl⟩)
      clear hc'
      go_loop [24] (fun i => ∃ k : Nat, k ≤ t.size ∧ i = .int .i64 k ∧ Hid ((t.data.toList.take k).all digB = true)) (fun i => t.size - (intOf i).toNat)
      case atStart => exact ⟨0, Nat.zero_le _, rfl, by simp [Hid]⟩
      case round =>
        obtain ⟨k, hk, rfl, H⟩ := hrel
        by_cases hlt : k < t.size
        · have Ht := Lib.hid (take_b t k hlt digB)
          have Hx := Lib.hid (show t.data.toList.all digB = true → digB t[k] = true from fun h => by
            have : t[k] ∈ t.data.toList := by
              show t.data[k] ∈ t.data.toList
              exact List.getElem_mem (l := t.data.toList) (by simpa using hlt)
            exact List.all_eq_true.1 h _ this)
          rcases (show (digB t[k] = true ∧ 48 ≤ (t[k].toNat : Int) ∧ (t[k].toNat : Int) ≤ 57) ∨ (digB t[k] = false ∧ (t[k].toNat : Int) < 48) ∨ (digB t[k] = false ∧ 57 < (t[k].toNat : Int)) by
            unfold digB; simp; omega) with ⟨hd, d0, d1⟩ | ⟨hd, d0⟩ | ⟨hd, d0⟩
          · have Hd := Lib.hid hd; clear hd
            go_wp2
            go_round
            case rel => exact ⟨k + 1, by omega, by go_num, by rw [Ht.out, H.out, Hd.out]; rfl⟩
            case measure => simp [intOf]; omega
          all_goals
            have Hd := Lib.hid hd; clear hd
            go_wp2
            go_ret
            refine ⟨retB ?_, rfl⟩
            rw [← Hb.out]
            exact (Bool.eq_false_iff.2 fun h => by have := Hx.out h; rw [Hd.out] at this; cases this).symm
        · obtain rfl : k = t.size := by omega
          go_wp2
          go_ret
          exact ⟨retB (by rw [← Hb.out, ← H.out, List.take_of_length_le (by simp)]), rfl⟩
  · have hne : t.toList.isEmpty = true := by
      rw [Lib.toList_data]; cases h : t.data.toList with
      | nil => rfl
      | cons c r => have : t.size = r.length + 1 := by simpa using congrArg List.length h
                    omega
    have Hb : Hid (false = b) := by
      subst hb
      rw [Lib.toList_data] at hne
      rw [List.isEmpty_iff.1 hne]; rfl
    clear hb
    go_enter Tryd.func62, Tryd.ntmps62
    go_wp2_with (go_at_call 69; refine (Hc.out _).mono ?_; rintro e w' ⟨rfl, rfl⟩)
    go_ret
    exact ⟨retB Hb.out, rfl⟩
theorem num_formed (s : ByteArray) (hs : s.size ≤ 1000000) (w : World) : Calls Tryd.prog 62 #[.string s] w fun e w' => e = .returned (.bool (formB s.data.toList)) ∧ w = w' :=
  formed_t s ⟨(digitsOf s.data.toList).toArray⟩ (isNeg s.data.toList) _ (by
    have := Lib.trimPrefix_le s.data.toList [45]
    have h2 : s.data.toList.length = s.size := by simp
    show (digitsOf s.data.toList).toArray.size ≤ _
    simp only [List.size_toArray, digitsOf]; omega) w (by simp [formB]) (cutMinus s)

/-- What a walk leans on: the tables and sentinels of the library that the program's initialisers laid. -/
def Ctx (w : World) : Prop :=
  Lib.TabIs Tryd.prog w "internal/strconv.uint64pow10" .u64 Lib.pow10Tab ∧ (∃ t p, w.var? Tryd.prog "strconv.ErrSyntax" = some #[.iface t p]) ∧ (∃ t p, w.var? Tryd.prog "strconv.ErrRange" = some #[.iface t p]) ∧
    1 < w.heap.size ∧ 2 < w.heap.size ∧ 3 < w.heap.size
theorem Ctx.on {w w' : World} (h : Ctx w) (hb : Below w.heap.size w w') : Ctx w' := by
  obtain ⟨h1, ⟨t1, p1, h2⟩, ⟨t2, p2, h3⟩, g1, g2, g3⟩ := h
  have hz := hb.size
  exact ⟨var?_below hb (by kernel_rfl) g1 h1, ⟨t1, p1, var?_below hb (by kernel_rfl) g2 h2⟩, ⟨t2, p2, var?_below hb (by kernel_rfl) g3 h3⟩, by omega, by omega, by omega⟩

theorem num_Show (n : Int) (h0 : -9223372036854775808 ≤ n) (h1 : n ≤ 9223372036854775807) (w : World) (hctx : Ctx w) :
    Calls Tryd.prog 37 #[.int .i64 n] w fun e w' => e = .returned (.string ⟨(showL n).toArray⟩) ∧ Below w.heap.size w w' := by
  have fmt : Hid (Calls Tryd.prog 55 #[.int .i64 n, .int .i64 10] w fun e w' => e = .returned (.string ⟨(Lib.itoa n).toArray⟩) ∧ Below w.heap.size w w') :=
    (Tryd.strconv_FormatInt_10 n h0 h1 w hctx.1).mono fun e w' ⟨he, k, os, hw⟩ => ⟨he, by rw [hw]; exact Lib.below_grow _ _ (Nat.le_refl _) _ _⟩
  rcases Bool.eq_false_or_eq_true (right n) with hr | hr
  · have Hs := Lib.hid (show showL n = Lib.itoa n by simp [showL, hr])
    go_enter Tryd.func37, Tryd.ntmps37
    go_wp2_with (first | (go_at_call 54; refine (num_Right _ _).mono ?_; rintro e w' ⟨rfl, rfl⟩) | (go_at_call 55; refine fmt.out.mono ?_; rintro e w' ⟨rfl, hb⟩))
    go_ret
    exact ⟨by rw [Hs.out]; rfl, hb⟩
  · have Hs := Lib.hid (show showL n = [] by simp [showL, hr])
    go_enter Tryd.func37, Tryd.ntmps37
    go_wp2_with (go_at_call 54; refine (num_Right _ _).mono ?_; rintro e w' ⟨rfl, rfl⟩)
    go_ret
    exact ⟨by rw [Hs.out]; rfl, Below.refl _ _⟩

theorem retII {k k' : IntKind} {a a' : Int} {b b' : Int} (h : a = a') (g : b = b') : Ending.returned (.tuple #[.int k a, .int k' b]) = .returned (.tuple #[.int k a', .int k' b']) := by rw [h, g]
theorem parse_long {l : List UInt8} (h : 20 < l.length) : parseE l = 4 ∧ parseV l = 0 := by simp [parseE, parseV, h]
theorem parse_form {l : List UInt8} (h : ¬ 20 < l.length) (hf : formB l = false) : parseE l = 3 ∧ parseV l = 0 := by simp [parseE, parseV, h, hf]
theorem parse_over {l : List UInt8} (h : ¬ 20 < l.length) (hf : formB l = true) (hr : right (valN l) = false) : parseE l = 9 ∧ parseV l = 0 := by simp [parseE, parseV, h, hf, hr]
theorem parse_ok {l : List UInt8} (h : ¬ 20 < l.length) (hf : formB l = true) (hr : right (valN l) = true) : parseE l = 0 ∧ parseV l = valN l := by simp [parseE, parseV, h, hf, hr]

set_option maxHeartbeats 400000 in
theorem num_Parse (s : ByteArray) (hs : s.size ≤ maxLen) (w : World) (hctx : Ctx w) :
    Calls Tryd.prog 51 #[.string s] w fun e w' => e = .returned (.tuple #[.int .i64 (parseV s.data.toList), .int .i64 (parseE s.data.toList)]) ∧ Below w.heap.size w w' := by
  unfold maxLen at hs
  have hsz : s.data.toList.length = s.size := by simp
  by_cases hl : 20 < s.size
  · have Hp := Lib.hid (parse_long (l := s.data.toList) (by omega))
    clear hsz
    go_enter Tryd.func51, Tryd.ntmps51
    go_wp2
    go_ret2
    exact ⟨retII Hp.out.2.symm Hp.out.1.symm, Below.refl _ _⟩
  · have hl20 : ¬ 20 < s.data.toList.length := by omega
    clear hsz
    rcases Bool.eq_false_or_eq_true (formB s.data.toList) with hf | hf
    · rcases parseInt_formed hf with ⟨v0, v1, hok⟩ | ⟨hr, hrange⟩
      · have pi : Hid (Calls Tryd.prog 63 #[.string s, .int .i64 10, .int .i64 64] w fun e w' => e = .returned (.tuple #[.int .i64 (valN s.data.toList), .nilIface]) ∧ Below w.heap.size w w') :=
          (Tryd.strconv_ParseInt_10_at64_ok s (by omega) _ hok w).mono fun e w' ⟨he, hw⟩ => ⟨he, by
            rcases hw with rfl | ⟨t, rfl⟩
            · exact Below.refl _ _
            · exact Lib.bytesWorld_below _ _ _⟩
        clear hok
        have Hv : Hid ((right (valN s.data.toList) = true → parseE s.data.toList = 0 ∧ parseV s.data.toList = valN s.data.toList) ∧ (right (valN s.data.toList) = false → parseE s.data.toList = 9 ∧ parseV s.data.toList = 0)) := ⟨parse_ok hl20 hf, parse_over hl20 hf⟩
        generalize valN s.data.toList = v at *
        clear hl20
        rcases Bool.eq_false_or_eq_true (right v) with hr | hr
        · have Hp := Lib.hid (Hv.out.1 hr)
          go_enter Tryd.func51, Tryd.ntmps51
          go_wp2_with (first | (go_at_call 62; refine (num_formed s (by omega) _).mono ?_; rintro e w' ⟨rfl, rfl⟩) | (go_at_call 63; refine pi.out.mono ?_; rintro e w' ⟨rfl, hb⟩) | (go_at_call 54; refine (num_Right _ _).mono ?_; rintro e w' ⟨rfl, rfl⟩))
          go_ret2
          exact ⟨retII Hp.out.2.symm Hp.out.1.symm, hb⟩
        · have Hp := Lib.hid (Hv.out.2 hr)
          go_enter Tryd.func51, Tryd.ntmps51
          go_wp2_with (first | (go_at_call 62; refine (num_formed s (by omega) _).mono ?_; rintro e w' ⟨rfl, rfl⟩) | (go_at_call 63; refine pi.out.mono ?_; rintro e w' ⟨rfl, hb⟩) | (go_at_call 54; refine (num_Right _ _).mono ?_; rintro e w' ⟨rfl, rfl⟩))
          go_ret2
          exact ⟨retII Hp.out.2.symm Hp.out.1.symm, hb⟩
      · have ⟨tp, p, hvar⟩ := hctx.2.2.1
        have pi : Hid (Calls Tryd.prog 63 #[.string s, .int .i64 10, .int .i64 64] w fun e w' => (∃ N, e = .returned (.tuple #[.int .i64 (Lib.intSat 64 s.data.toList), .iface 99 (.pointer (some ⟨N, 0, none⟩))])) ∧ Below w.heap.size w w') :=
          (Tryd.strconv_ParseInt_10_at64_range_var s (by omega) hrange tp p w hvar).mono fun e w' ⟨N, he, _, _, hb⟩ => ⟨⟨N, he⟩, hb⟩
        have Hp := Lib.hid (parse_over hl20 hf hr)
        clear hrange hvar hl20 hr
        generalize Lib.intSat 64 s.data.toList = sat at *
        go_enter Tryd.func51, Tryd.ntmps51
        go_wp2_with (first | (go_at_call 62; refine (num_formed s (by omega) _).mono ?_; rintro e w' ⟨rfl, rfl⟩) | (go_at_call 63; refine pi.out.mono ?_; rintro e w' ⟨⟨N, rfl⟩, hb⟩))
        go_ret2
        exact ⟨retII Hp.out.2.symm Hp.out.1.symm, hb⟩
    · have Hp := Lib.hid (parse_form hl20 hf)
      clear hl20
      go_enter Tryd.func51, Tryd.ntmps51
      go_wp2_with (go_at_call 62; refine (num_formed s (by omega) _).mono ?_; rintro e w' ⟨rfl, rfl⟩)
      go_ret2
      exact ⟨retII Hp.out.2.symm Hp.out.1.symm, Below.refl _ _⟩
end Go.Proofs.YtcfpchcbiknehaaDoorR
