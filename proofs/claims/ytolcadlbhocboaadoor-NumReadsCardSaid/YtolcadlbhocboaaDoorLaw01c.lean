/-
  Layer 1's laws: the walks of NumReads and NumBack.
-/
import Derived.Test.YtolcadlbhocboaaDoorLaw01b
import Derived.Test.YtolcadlbhocboaaDoorTextBack
namespace Go.Proofs.YtolcadlbhocboaaDoor
open Go.RowKit

set_option maxHeartbeats 400000 in
theorem walk_NumReads (s : ByteArray) (hs : s.size ≤ maxLen) (n : Int) (n0 : -9223372036854775808 ≤ n) (n1 : n ≤ 9223372036854775807) (w : World) (hctx : Ctx w) :
    Calls Tryd.prog 5 #[.string s, .int .i64 n] w fun e w' => e = .returned (.bool true) ∧ Below w.heap.size w w' := by
  unfold maxLen at hs
  go_enter Tryd.func5, Tryd.ntmps5
  go_wp2_with (first | (go_at_call 9; refine (awake01 _ hctx).mono ?_; rintro e w' ⟨rfl, hb⟩))
  have ht : (s.extract 0 (min (s.size : Int) 100).toNat).size ≤ maxLen := by
    rw [ByteArray.size_extract]; unfold maxLen; omega
  generalize s.extract 0 (min (s.size : Int) 100).toNat = t at *
  go_wp2_with (first | (go_at_call 18; refine (num_Parse _ ht _ (hctx.on hb)).mono ?_; rintro e w1 ⟨rfl, hb1⟩) | (go_at_call 19; refine (ref_Parse _ ht _).mono ?_; rintro e w' ⟨rfl, rfl⟩) | (go_at_call 20; refine (num_Show _ n0 n1 _ ((hctx.on hb).on hb1)).mono ?_; rintro e w2 ⟨rfl, hb2⟩) | (go_at_call 21; refine (ref_Show _ _).mono ?_; rintro e w' ⟨rfl, rfl⟩))
  go_ret
  exact ⟨rfl, (hb.trans (hb1.mono hb.size)).trans (hb2.mono (hb.trans (hb1.mono hb.size)).size)⟩

theorem Ints.drop {k : IntKind} {w : World} {a : Option Addr} {zs : List Int} (h : Ints k w a zs) (n : Nat) : Ints k w (a.map (fun x => x.add n)) (zs.drop n) := by
  rcases h with h | ⟨b, off, ha, hc⟩
  · subst h; exact .inl (by simp)
  · refine .inr ⟨b, off + n, by rw [ha]; exact congrArg some (addr_add b off n), fun i hi => ?_⟩
    have hi' : n + i < zs.length := by simp at hi; omega
    have := hc (n + i) hi'
    rw [Nat.add_assoc, this]
    simp [List.getD]
theorem parseV_right {l : List UInt8} (h : parseE l = 0) : right (parseV l) = true := by
  unfold parseV; rw [if_pos h]
  unfold parseE at h
  by_cases h1 : 20 < l.length
  · rw [if_pos h1] at h; omega
  · rw [if_neg h1] at h
    by_cases h2 : formB l = true
    · rw [if_pos h2] at h
      by_cases h3 : right (valN l) = true
      · exact h3
      · rw [if_neg h3] at h; omega
    · rw [if_neg h2] at h; omega
set_option maxRecDepth 100000 in
set_option maxHeartbeats 2000000 in
theorem walk_NumBack (n : Int) (n0 : -9223372036854775808 ≤ n) (n1 : n ≤ 9223372036854775807) (s : ByteArray) (hsz : s.size ≤ maxLen)
    (a : Option Addr) (len c : Nat) (zs : List Int) (hz : zs.length = len) (hc : len ≤ c) (hm : c ≤ maxLen) (k : Int) (k0 : 0 ≤ k) (k1 : k ≤ 65535)
    (w : World) (hI : Ints .i64 w a zs) (hw : ∀ n ∈ zs, -9223372036854775808 ≤ n ∧ n ≤ 9223372036854775807) (hctx : Ctx w) :
    Calls Tryd.prog 7 #[.int .i64 n, .string s, .slice a len c, .int .u16 k] w fun e w' => e = .returned (.bool true) ∧ Below w.heap.size w w' := by
  unfold maxLen at hm hsz
  go_enter Tryd.func7, Tryd.ntmps7
  go_upto_if 25 with (first | (go_at_call 9; refine (awake01 _ hctx).mono ?_; rintro e w' ⟨rfl, hb⟩) | (go_at_call 14; refine (num_Right _ _).mono ?_; rintro e w' ⟨rfl, rfl⟩))
  generalize hr : right n = r at *
  have Hr := Lib.hid hr
  clear hr
  go_cut [] (fun wx => Ctx wx ∧ Below w.heap.size w wx)
  case first =>
    rcases r with _ | _
    · go_wp2
      go_meet
      case rel => exact ⟨hctx.on hb, hb⟩
    · have ⟨e1, e2⟩ := parse_show Hr.out
      have hp : Hid (∀ w, Ctx w → Calls Tryd.prog 18 #[.string ⟨(showL n).toArray⟩] w fun e w' => e = .returned (.tuple #[.int .i64 n, .int .i64 0]) ∧ Below w.heap.size w w') := fun w h =>
        (num_Parse ⟨(showL n).toArray⟩ (by
          have : (ByteArray.mk (showL n).toArray).size = (showL n).length := by show (showL n).toArray.size = _; simp
          have h20 : ¬ 20 < (showL n).length := fun h => by have := (parse_long h).1; omega
          unfold maxLen; omega) w h).mono fun e w' ⟨he, hb⟩ => ⟨by rw [he]; exact retII e2 e1, hb⟩
      have hs : Hid (∀ w, Ctx w → Calls Tryd.prog 20 #[.int .i64 n] w fun e w' => e = .returned (.string ⟨(showL n).toArray⟩) ∧ Below w.heap.size w w') := fun w h => num_Show n n0 n1 w h
      clear e1 e2
      generalize showL n = l at *
      go_wp2_with (first | (go_at_call 20; refine (hs.out _ (hctx.on hb)).mono ?_; rintro e w1 ⟨rfl, hb1⟩) | (go_at_call 18; refine (hp.out _ ((hctx.on hb).on hb1)).mono ?_; rintro e w2 ⟨rfl, hb2⟩))
      go_meet
      case rel => exact ⟨((hctx.on hb).on hb1).on hb2, (hb.trans (hb1.mono hb.size)).trans (hb2.mono (hb.trans (hb1.mono hb.size)).size)⟩
  case rest =>
    obtain ⟨hcc, hbc⟩ := hcut
    clear Hr
    have ht : (s.extract 0 (min (s.size : Int) 100).toNat).size ≤ maxLen := by
      rw [ByteArray.size_extract]; unfold maxLen; omega
    go_wp2_with fail
    generalize s.extract 0 (min (s.size : Int) 100).toNat = t at *
    go_upto_region 9 with (first | (go_at_call 18; refine (num_Parse _ ht _ hcc).mono ?_; rintro e w1 ⟨rfl, hb1⟩))
    have hpe : Hid ((parseE t.data.toList = 0 → showL (parseV t.data.toList) = t.data.toList ∧ right (parseV t.data.toList) = true) ∧ (¬ parseE t.data.toList = 0 → parseV t.data.toList = 0)) :=
      ⟨fun h => ⟨show_parse h, parseV_right h⟩, parseV_zero⟩
    have hcw := hcc.on hb1
    have hbw := hbc.trans (hb1.mono hbc.size)
    generalize parseE t.data.toList = pe at *
    generalize parseV t.data.toList = pv at *
    clear hb1 hcc hbc hctx
    go_cut [64] (fun s64 wx => s64 = .bool false ∧ Ctx wx ∧ Below w.heap.size w wx)
    case first =>
      by_cases he : pe = 0
      · have ⟨h1, h2⟩ := hpe.out.1 he
        have ⟨r0, r1⟩ := right_iff.1 h2
        have e0 : (pe == 0) = true := by simp [he]
        have e1 : (pe != 0) = false := by simp [he]
        have hs : Hid (∀ w, Ctx w → Calls Tryd.prog 20 #[.int .i64 pv] w fun e w' => e = .returned (.string t) ∧ Below w.heap.size w w') := fun w h =>
          (num_Show pv (by omega) (by omega) w h).mono fun e w' ⟨he, hb⟩ => ⟨by rw [he, h1], hb⟩
        clear h1 h2 hpe he
        go_wp2_with (go_at_call 20; refine (hs.out _ hcw).mono ?_; rintro e w2 ⟨rfl, hb2⟩)
        go_meet
        case rel => exact ⟨rfl, hcw.on hb2, hbw.trans (hb2.mono hbw.size)⟩
      · have h1 := hpe.out.2 he
        subst h1
        have e0 : (pe == 0) = false := by simp [he]
        have e1 : (pe != 0) = true := by simp [he]
        clear hpe he
        go_wp2
        go_meet
        case rel => exact ⟨rfl, hcw, hbw⟩
    case rest =>
      obtain ⟨rfl, hcc, hbc⟩ := hcut
      clear hpe hcw
      obtain ⟨ys, e, hI, hy, hl⟩ : ∃ ys : List Int, (min (len : Int) 1000).toNat = ys.length ∧ Ints .i64 w a ys ∧ (∀ n ∈ ys, -9223372036854775808 ≤ n ∧ n ≤ 9223372036854775807) ∧ ys.length ≤ 1000 ∧ ys.length ≤ c :=
        ⟨zs.take 1000, by simp; omega, hI.take 1000, fun n hn => hw n (List.mem_of_mem_take hn), by simp; omega⟩
      clear hw hz
      obtain ⟨hl, hlc⟩ := hl
      have m0 : 0 ≤ k % ((ys.length : Int) + 1) := Int.emod_nonneg _ (by omega)
      have m1 : k % ((ys.length : Int) + 1) ≤ ys.length := by have := Int.emod_lt_of_pos k (show 0 < (ys.length : Int) + 1 by omega); omega
      have m2 : k % ((ys.length : Int) + 1) ≤ c := by omega
      have hI := hI.on hbc
      go_wp2_with fail
      have hpl : (k % ((ys.length : Int) + 1)).toNat ≤ ys.length := by omega
      have pe : k % ((ys.length : Int) + 1) = (((k % ((ys.length : Int) + 1)).toNat : Nat) : Int) := by omega
      generalize (k % ((ys.length : Int) + 1)).toNat = p at *
      rw [pe]
      clear m0 m1 m2 pe k0 k1
      have h1 := num_Sum a c (ys.take p) wc (hI.take p) (fun n hn => hy n (List.mem_of_mem_take hn)) (by simp; omega)
      rw [show (ys.take p).length = p by simp; omega] at h1
      refine h1.mono ?_
      rintro e w' ⟨rfl, rfl⟩
      clear h1
      have hB : Hid (∀ (a' : Option Addr) (c' : Nat), Ints .i64 wc a' (ys.drop p) → Calls Tryd.prog 16 #[.slice a' (ys.length - p) c'] wc fun e w' => e = .returned (.tuple #[.int .i64 (sumV (ys.drop p)), .bool (sumB (ys.drop p))]) ∧ wc = w') := fun a' c' h => by
        have := num_Sum a' c' (ys.drop p) wc h (fun n hn => hy n (List.mem_of_mem_drop hn)) (by simp; omega)
        rwa [show (ys.drop p).length = ys.length - p by simp] at this
      have hS : Hid (sumB (ys.take p) = true → sumB (ys.drop p) = true → ∀ c', Calls Tryd.prog 16 #[.slice a ys.length c'] wc fun e w' => e = .returned (.tuple #[.int .i64 (addV (sumV (ys.take p)) (sumV (ys.drop p))), .bool (addB (sumV (ys.take p)) (sumV (ys.drop p)))]) ∧ wc = w') := fun h1 h2 c' => by
        have ⟨e1, e2⟩ := sum_halves p h1 h2
        have := num_Sum a c' ys wc hI hy (by omega)
        rwa [e1, e2] at this
      have hdrop := hI.drop p
      have hend : Hid (c = p → ys.drop p = []) := fun h => by apply List.drop_eq_nil_of_le; omega
      clear hy hI
      generalize sumB (ys.take p) = sa at *
      generalize sumV (ys.take p) = va at *
      generalize ys.drop p = dr at *
      generalize sumB dr = sb at *
      generalize sumV dr = vb at *
      go_wp2_with fail
      · refine (hB.out _ _ (.inl (hend.out (by first | assumption | omega)))).mono ?_
        rintro e w' ⟨rfl, rfl⟩
        rcases sa with _ | _
        · go_wp2
          go_ret
          exact ⟨rfl, hbc⟩
        · rcases sb with _ | _
          · go_wp2
            go_ret
            exact ⟨rfl, hbc⟩
          · have HS := Lib.hid (hS.out rfl rfl)
            go_wp2_with (first | (go_at_call 10; refine (num_Add _ _ _).mono ?_; rintro e w' ⟨rfl, rfl⟩) | (go_at_call 16; refine (HS.out _).mono ?_; rintro e w' ⟨rfl, rfl⟩))
            go_ret
            exact ⟨rfl, hbc⟩
      · refine (hB.out _ _ hdrop).mono ?_
        rintro e w' ⟨rfl, rfl⟩
        rcases sa with _ | _
        · go_wp2
          go_ret
          exact ⟨rfl, hbc⟩
        · rcases sb with _ | _
          · go_wp2
            go_ret
            exact ⟨rfl, hbc⟩
          · have HS := Lib.hid (hS.out rfl rfl)
            go_wp2_with (first | (go_at_call 10; refine (num_Add _ _ _).mono ?_; rintro e w' ⟨rfl, rfl⟩) | (go_at_call 16; refine (HS.out _).mono ?_; rintro e w' ⟨rfl, rfl⟩))
            go_ret
            exact ⟨rfl, hbc⟩
end Go.Proofs.YtolcadlbhocboaaDoor
