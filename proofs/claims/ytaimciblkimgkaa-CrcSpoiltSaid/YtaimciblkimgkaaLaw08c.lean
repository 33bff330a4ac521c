/-
  Layer 8's third law, over contracts: a record that was spoilt isn't told.
-/
import Derived.Test.YtaimciblkimgkaaLaw08d
namespace Go.Proofs.Ytaimciblkimgkaa
open Go.RowKit

set_option maxRecDepth 100000 in
set_option maxHeartbeats 2000000 in
theorem walk_CrcSpoilt (C : CrcC) (A : Option Addr) (n c : Nat) (l : List UInt8) (hl : l.length = n) (a1 : Int) (b1 : 0 ≤ a1) (b1' : a1 ≤ 65535) (a2 : Int) (b2 : 0 ≤ a2) (b2' : a2 ≤ 255) (W : World) (h : Sl W A n c 1 (bcells l)) (_ : True) :
    Calls Try.prog 5 #[.slice A n c, .int .u16 a1, .int .u8 a2] W fun e W' => e = .returned (.bool true) ∧ Below W.heap.size W W' := by
  have HA := Lib.hid (awake08 C W)
  have HS := Lib.hid h
  have Hl := Lib.hid hl
  have hcap : c ≤ 9223372036854775807 := by have := h.cap; unfold maxLen at this; omega
  have hnc := h.le
  clear h hl
  by_cases h0 : n = 0 ∨ 100 < n
  · rcases h0 with h0 | h0
    · have hn1 : (n : Int) < 1 := by omega
      go_enter Try.func5, Try.ntmps5
      go_wp2_with fail
      refine HA.out.mono ?_
      rintro e w1 ⟨rfl, hb1⟩
      go_wp2
      go_ret
      exact ⟨rfl, hb1⟩
    · have hn1 : ¬ (n : Int) < 1 := by omega
      have hn2 : (100 : Int) < (n : Int) := by omega
      go_enter Try.func5, Try.ntmps5
      go_wp2_with fail
      refine HA.out.mono ?_
      rintro e w1 ⟨rfl, hb1⟩
      go_wp2
      go_ret
      exact ⟨rfl, hb1⟩
  · have hn1 : ¬ (n : Int) < 1 := by omega
    have hn2 : ¬ (100 : Int) < (n : Int) := by omega
    obtain ⟨m, hm⟩ : ∃ m : Nat, m = n + 6 := ⟨_, rfl⟩
    have hm2 : 7 ≤ m ∧ m ≤ 106 := by omega
    have hm3 : (m : Int) - 2 ≠ 0 := by omega
    have hm4 : (0 : Int) ≤ (m : Int) - 2 := by omega
    obtain ⟨k, hk⟩ : ∃ k : Nat, a1 % ((m : Int) - 2) = (k : Int) := ⟨(a1 % ((m : Int) - 2)).toNat, by have := Int.emod_nonneg a1 hm3; omega⟩
    have hkm : 2 + k < m := by have := Int.emod_lt_of_pos a1 (show (0 : Int) < (m : Int) - 2 by omega); omega
    have e1 : putE l = 0 := by unfold putE; rw [Hl.out, if_neg (by omega)]
    have e2 : putV l = putC l := by unfold putV; rw [Hl.out, if_neg (by omega)]
    have Hlen := Lib.hid (show (putC l).length = m by rw [putC_len, Hl.out]; exact hm.symm)
    have Hput := Lib.hid (fun (V : World) (hb : Below W.heap.size W V) => (C.put A n c l V Hl.out (by omega) (HS.out.on hb)).mono fun e w' ⟨v, he, hmo, hbw⟩ => (show ∃ g c, e = Ending.returned (.tuple #[.slice (some ⟨g, 0, none⟩) m c, .int .i64 0]) ∧ Mo w' V.heap.size (.slice (some ⟨g, 0, none⟩) m c) m (bcells (putC l)) ∧ Below V.heap.size V w' from by
      rw [e1] at he
      rw [e2, Hlen.out] at hmo
      rcases hmo with ⟨_, h0, _⟩ | hmo
      · omega
      · obtain ⟨g, c', rfl, _⟩ := hmo.sl
        exact ⟨g, c', he, hmo, hbw⟩))
    clear e1 e2
    clear hm
    go_enter Try.func5, Try.ntmps5
    go_wp2_with fail
    refine HA.out.mono ?_
    rintro e w1 ⟨rfl, hb1⟩
    go_wp2_with fail
    refine (Hput.out w1 hb1).mono ?_
    rintro e w2 ⟨g2, c2, rfl, mo2, hE2⟩
    obtain ⟨_, _, hv, sl2, hgb, -⟩ := mo2.sl
    injection hv with hv1 _ hv2
    injection hv1 with hv1
    injection hv1 with hv1 _ _
    subst hv1; subst hv2
    have hkl : 2 + k < (putC l).length := by rw [Hlen.out]; omega
    obtain ⟨b, off, e, hbc⟩ := sl2.row.byte hkl
    injection e with e
    injection e with e1 e2 _
    subst e1; subst e2
    rw [Nat.zero_add] at hbc
    have hfz : w2.frozen? ⟨g2, 2 + k, none⟩ = false := by
      obtain ⟨_, g', cap', hv, _, _, h4, _, _, h7⟩ := mo2
      injection hv with hv1 _ hv2
      injection hv1 with hv1
      injection hv1 with hv1 _ _
      subst hv1; subst hv2
      exact (h7 (2 + k) (by omega)).2
    have HMo := Lib.hid mo2
    have hc2 : c2 ≤ 9223372036854775807 := by have := sl2.cap; unfold maxLen at this; omega
    have hmc2 := sl2.le
    clear mo2 sl2
    generalize hxx : (putC l)[2 + k] = x at *
    have Hxx := Lib.hid hxx
    clear hxx
    go_upto_region 9 with (fail)
    have hcast : 2 + (k : Int) = ((2 + k : Nat) : Int) := by omega
    have hk2 : 2 ≤ 2 + k := by omega
    rw [hcast]
    clear hcast hk
    generalize hq : 2 + k = q at *
    clear hq
    have hqm : (q : Int) < (m : Int) := by omega
    have hq0 : (0 : Int) ≤ (q : Int) := by omega
    have hor : a2 % 8 = 0 ∨ a2 % 8 = 1 ∨ a2 % 8 = 2 ∨ a2 % 8 = 3 ∨ a2 % 8 = 4 ∨ a2 % 8 = 5 ∨ a2 % 8 = 6 ∨ a2 % 8 = 7 := by omega
    rcases hor with h8 | h8 | h8 | h8 | h8 | h8 | h8 | h8
    · go_upto_region 10 with (fail)
      have hx : bits .xor .u8 (x.toNat : Int) (1 : Int) = ((x ^^^ 1 <<< UInt8.ofNat 0).toNat : Int) := (u8_xor_nat x.toNat 1 x.toNat_lt (by decide)).trans (by rw [UInt8.toNat_xor]; rfl)
      have hne : x ^^^ 1 <<< UInt8.ofNat 0 ≠ x := flip_ne x 0 (by decide)
      simp only [hx]
      generalize x ^^^ 1 <<< UInt8.ofNat 0 = y at *
      have HC := Lib.hid (mo_set HMo.out hkm y)
      have HB := Lib.hid (hE2.setCell (p := ⟨g2, q, none⟩) hgb (.int .u8 y.toNat))
      generalize w2.setCell ⟨g2, q, none⟩ (.int .u8 y.toNat) = w3 at *
      have hsp : nextC ((putC l).set q y) = ([], 0, 11) := next_spoilt (by rw [Hl.out]; omega) ⟨hk2, hkl⟩ (by rw [List.getElem?_eq_getElem hkl, Hxx.out]; exact fun h => hne (Option.some.inj h).symm)
      have Hn := Lib.hid ((C.next _ m c2 _ w3 (by rw [List.length_set]; exact Hlen.out) (by omega) HC.out).mono fun e w' ⟨A, m', c', he, h1, h2, h3⟩ => (show ∃ A c', e = Ending.returned (.tuple #[.slice A 0 c', .int .i64 0, .int .i64 11]) ∧ Below w3.heap.size w3 w' from by
        rw [hsp] at he h1
        have h1 : 0 = m' := h1
        subst h1
        exact ⟨A, c', he, h3⟩))
      go_wp2_with fail
      refine Hn.out.mono ?_
      rintro e w4 ⟨A4, c4, rfl, hb4⟩
      have hB4 : Below w1.heap.size w1 w4 := HB.out.trans (hb4.mono HB.out.size)
      go_wp2
      go_ret
      exact ⟨rfl, hb1.trans (hB4.mono hb1.size)⟩
    · go_upto_region 10 with (fail)
      have hx : bits .xor .u8 (x.toNat : Int) (2 : Int) = ((x ^^^ 1 <<< UInt8.ofNat 1).toNat : Int) := (u8_xor_nat x.toNat 2 x.toNat_lt (by decide)).trans (by rw [UInt8.toNat_xor]; rfl)
      have hne : x ^^^ 1 <<< UInt8.ofNat 1 ≠ x := flip_ne x 1 (by decide)
      simp only [hx]
      generalize x ^^^ 1 <<< UInt8.ofNat 1 = y at *
      have HC := Lib.hid (mo_set HMo.out hkm y)
      have HB := Lib.hid (hE2.setCell (p := ⟨g2, q, none⟩) hgb (.int .u8 y.toNat))
      generalize w2.setCell ⟨g2, q, none⟩ (.int .u8 y.toNat) = w3 at *
      have hsp : nextC ((putC l).set q y) = ([], 0, 11) := next_spoilt (by rw [Hl.out]; omega) ⟨hk2, hkl⟩ (by rw [List.getElem?_eq_getElem hkl, Hxx.out]; exact fun h => hne (Option.some.inj h).symm)
      have Hn := Lib.hid ((C.next _ m c2 _ w3 (by rw [List.length_set]; exact Hlen.out) (by omega) HC.out).mono fun e w' ⟨A, m', c', he, h1, h2, h3⟩ => (show ∃ A c', e = Ending.returned (.tuple #[.slice A 0 c', .int .i64 0, .int .i64 11]) ∧ Below w3.heap.size w3 w' from by
        rw [hsp] at he h1
        have h1 : 0 = m' := h1
        subst h1
        exact ⟨A, c', he, h3⟩))
      go_wp2_with fail
      refine Hn.out.mono ?_
      rintro e w4 ⟨A4, c4, rfl, hb4⟩
      have hB4 : Below w1.heap.size w1 w4 := HB.out.trans (hb4.mono HB.out.size)
      go_wp2
      go_ret
      exact ⟨rfl, hb1.trans (hB4.mono hb1.size)⟩
    · go_upto_region 10 with (fail)
      have hx : bits .xor .u8 (x.toNat : Int) (4 : Int) = ((x ^^^ 1 <<< UInt8.ofNat 2).toNat : Int) := (u8_xor_nat x.toNat 4 x.toNat_lt (by decide)).trans (by rw [UInt8.toNat_xor]; rfl)
      have hne : x ^^^ 1 <<< UInt8.ofNat 2 ≠ x := flip_ne x 2 (by decide)
      simp only [hx]
      generalize x ^^^ 1 <<< UInt8.ofNat 2 = y at *
      have HC := Lib.hid (mo_set HMo.out hkm y)
      have HB := Lib.hid (hE2.setCell (p := ⟨g2, q, none⟩) hgb (.int .u8 y.toNat))
      generalize w2.setCell ⟨g2, q, none⟩ (.int .u8 y.toNat) = w3 at *
      have hsp : nextC ((putC l).set q y) = ([], 0, 11) := next_spoilt (by rw [Hl.out]; omega) ⟨hk2, hkl⟩ (by rw [List.getElem?_eq_getElem hkl, Hxx.out]; exact fun h => hne (Option.some.inj h).symm)
      have Hn := Lib.hid ((C.next _ m c2 _ w3 (by rw [List.length_set]; exact Hlen.out) (by omega) HC.out).mono fun e w' ⟨A, m', c', he, h1, h2, h3⟩ => (show ∃ A c', e = Ending.returned (.tuple #[.slice A 0 c', .int .i64 0, .int .i64 11]) ∧ Below w3.heap.size w3 w' from by
        rw [hsp] at he h1
        have h1 : 0 = m' := h1
        subst h1
        exact ⟨A, c', he, h3⟩))
      go_wp2_with fail
      refine Hn.out.mono ?_
      rintro e w4 ⟨A4, c4, rfl, hb4⟩
      have hB4 : Below w1.heap.size w1 w4 := HB.out.trans (hb4.mono HB.out.size)
      go_wp2
      go_ret
      exact ⟨rfl, hb1.trans (hB4.mono hb1.size)⟩
    · go_upto_region 10 with (fail)
      have hx : bits .xor .u8 (x.toNat : Int) (8 : Int) = ((x ^^^ 1 <<< UInt8.ofNat 3).toNat : Int) := (u8_xor_nat x.toNat 8 x.toNat_lt (by decide)).trans (by rw [UInt8.toNat_xor]; rfl)
      have hne : x ^^^ 1 <<< UInt8.ofNat 3 ≠ x := flip_ne x 3 (by decide)
      simp only [hx]
      generalize x ^^^ 1 <<< UInt8.ofNat 3 = y at *
      have HC := Lib.hid (mo_set HMo.out hkm y)
      have HB := Lib.hid (hE2.setCell (p := ⟨g2, q, none⟩) hgb (.int .u8 y.toNat))
      generalize w2.setCell ⟨g2, q, none⟩ (.int .u8 y.toNat) = w3 at *
      have hsp : nextC ((putC l).set q y) = ([], 0, 11) := next_spoilt (by rw [Hl.out]; omega) ⟨hk2, hkl⟩ (by rw [List.getElem?_eq_getElem hkl, Hxx.out]; exact fun h => hne (Option.some.inj h).symm)
      have Hn := Lib.hid ((C.next _ m c2 _ w3 (by rw [List.length_set]; exact Hlen.out) (by omega) HC.out).mono fun e w' ⟨A, m', c', he, h1, h2, h3⟩ => (show ∃ A c', e = Ending.returned (.tuple #[.slice A 0 c', .int .i64 0, .int .i64 11]) ∧ Below w3.heap.size w3 w' from by
        rw [hsp] at he h1
        have h1 : 0 = m' := h1
        subst h1
        exact ⟨A, c', he, h3⟩))
      go_wp2_with fail
      refine Hn.out.mono ?_
      rintro e w4 ⟨A4, c4, rfl, hb4⟩
      have hB4 : Below w1.heap.size w1 w4 := HB.out.trans (hb4.mono HB.out.size)
      go_wp2
      go_ret
      exact ⟨rfl, hb1.trans (hB4.mono hb1.size)⟩
    · go_upto_region 10 with (fail)
      have hx : bits .xor .u8 (x.toNat : Int) (16 : Int) = ((x ^^^ 1 <<< UInt8.ofNat 4).toNat : Int) := (u8_xor_nat x.toNat 16 x.toNat_lt (by decide)).trans (by rw [UInt8.toNat_xor]; rfl)
      have hne : x ^^^ 1 <<< UInt8.ofNat 4 ≠ x := flip_ne x 4 (by decide)
      simp only [hx]
      generalize x ^^^ 1 <<< UInt8.ofNat 4 = y at *
      have HC := Lib.hid (mo_set HMo.out hkm y)
      have HB := Lib.hid (hE2.setCell (p := ⟨g2, q, none⟩) hgb (.int .u8 y.toNat))
      generalize w2.setCell ⟨g2, q, none⟩ (.int .u8 y.toNat) = w3 at *
      have hsp : nextC ((putC l).set q y) = ([], 0, 11) := next_spoilt (by rw [Hl.out]; omega) ⟨hk2, hkl⟩ (by rw [List.getElem?_eq_getElem hkl, Hxx.out]; exact fun h => hne (Option.some.inj h).symm)
      have Hn := Lib.hid ((C.next _ m c2 _ w3 (by rw [List.length_set]; exact Hlen.out) (by omega) HC.out).mono fun e w' ⟨A, m', c', he, h1, h2, h3⟩ => (show ∃ A c', e = Ending.returned (.tuple #[.slice A 0 c', .int .i64 0, .int .i64 11]) ∧ Below w3.heap.size w3 w' from by
        rw [hsp] at he h1
        have h1 : 0 = m' := h1
        subst h1
        exact ⟨A, c', he, h3⟩))
      go_wp2_with fail
      refine Hn.out.mono ?_
      rintro e w4 ⟨A4, c4, rfl, hb4⟩
      have hB4 : Below w1.heap.size w1 w4 := HB.out.trans (hb4.mono HB.out.size)
      go_wp2
      go_ret
      exact ⟨rfl, hb1.trans (hB4.mono hb1.size)⟩
    · go_upto_region 10 with (fail)
      have hx : bits .xor .u8 (x.toNat : Int) (32 : Int) = ((x ^^^ 1 <<< UInt8.ofNat 5).toNat : Int) := (u8_xor_nat x.toNat 32 x.toNat_lt (by decide)).trans (by rw [UInt8.toNat_xor]; rfl)
      have hne : x ^^^ 1 <<< UInt8.ofNat 5 ≠ x := flip_ne x 5 (by decide)
      simp only [hx]
      generalize x ^^^ 1 <<< UInt8.ofNat 5 = y at *
      have HC := Lib.hid (mo_set HMo.out hkm y)
      have HB := Lib.hid (hE2.setCell (p := ⟨g2, q, none⟩) hgb (.int .u8 y.toNat))
      generalize w2.setCell ⟨g2, q, none⟩ (.int .u8 y.toNat) = w3 at *
      have hsp : nextC ((putC l).set q y) = ([], 0, 11) := next_spoilt (by rw [Hl.out]; omega) ⟨hk2, hkl⟩ (by rw [List.getElem?_eq_getElem hkl, Hxx.out]; exact fun h => hne (Option.some.inj h).symm)
      have Hn := Lib.hid ((C.next _ m c2 _ w3 (by rw [List.length_set]; exact Hlen.out) (by omega) HC.out).mono fun e w' ⟨A, m', c', he, h1, h2, h3⟩ => (show ∃ A c', e = Ending.returned (.tuple #[.slice A 0 c', .int .i64 0, .int .i64 11]) ∧ Below w3.heap.size w3 w' from by
        rw [hsp] at he h1
        have h1 : 0 = m' := h1
        subst h1
        exact ⟨A, c', he, h3⟩))
      go_wp2_with fail
      refine Hn.out.mono ?_
      rintro e w4 ⟨A4, c4, rfl, hb4⟩
      have hB4 : Below w1.heap.size w1 w4 := HB.out.trans (hb4.mono HB.out.size)
      go_wp2
      go_ret
      exact ⟨rfl, hb1.trans (hB4.mono hb1.size)⟩
    · go_upto_region 10 with (fail)
      have hx : bits .xor .u8 (x.toNat : Int) (64 : Int) = ((x ^^^ 1 <<< UInt8.ofNat 6).toNat : Int) := (u8_xor_nat x.toNat 64 x.toNat_lt (by decide)).trans (by rw [UInt8.toNat_xor]; rfl)
      have hne : x ^^^ 1 <<< UInt8.ofNat 6 ≠ x := flip_ne x 6 (by decide)
      simp only [hx]
      generalize x ^^^ 1 <<< UInt8.ofNat 6 = y at *
      have HC := Lib.hid (mo_set HMo.out hkm y)
      have HB := Lib.hid (hE2.setCell (p := ⟨g2, q, none⟩) hgb (.int .u8 y.toNat))
      generalize w2.setCell ⟨g2, q, none⟩ (.int .u8 y.toNat) = w3 at *
      have hsp : nextC ((putC l).set q y) = ([], 0, 11) := next_spoilt (by rw [Hl.out]; omega) ⟨hk2, hkl⟩ (by rw [List.getElem?_eq_getElem hkl, Hxx.out]; exact fun h => hne (Option.some.inj h).symm)
      have Hn := Lib.hid ((C.next _ m c2 _ w3 (by rw [List.length_set]; exact Hlen.out) (by omega) HC.out).mono fun e w' ⟨A, m', c', he, h1, h2, h3⟩ => (show ∃ A c', e = Ending.returned (.tuple #[.slice A 0 c', .int .i64 0, .int .i64 11]) ∧ Below w3.heap.size w3 w' from by
        rw [hsp] at he h1
        have h1 : 0 = m' := h1
        subst h1
        exact ⟨A, c', he, h3⟩))
      go_wp2_with fail
      refine Hn.out.mono ?_
      rintro e w4 ⟨A4, c4, rfl, hb4⟩
      have hB4 : Below w1.heap.size w1 w4 := HB.out.trans (hb4.mono HB.out.size)
      go_wp2
      go_ret
      exact ⟨rfl, hb1.trans (hB4.mono hb1.size)⟩
    · go_upto_region 10 with (fail)
      have hx : bits .xor .u8 (x.toNat : Int) (128 : Int) = ((x ^^^ 1 <<< UInt8.ofNat 7).toNat : Int) := (u8_xor_nat x.toNat 128 x.toNat_lt (by decide)).trans (by rw [UInt8.toNat_xor]; rfl)
      have hne : x ^^^ 1 <<< UInt8.ofNat 7 ≠ x := flip_ne x 7 (by decide)
      simp only [hx]
      generalize x ^^^ 1 <<< UInt8.ofNat 7 = y at *
      have HC := Lib.hid (mo_set HMo.out hkm y)
      have HB := Lib.hid (hE2.setCell (p := ⟨g2, q, none⟩) hgb (.int .u8 y.toNat))
      generalize w2.setCell ⟨g2, q, none⟩ (.int .u8 y.toNat) = w3 at *
      have hsp : nextC ((putC l).set q y) = ([], 0, 11) := next_spoilt (by rw [Hl.out]; omega) ⟨hk2, hkl⟩ (by rw [List.getElem?_eq_getElem hkl, Hxx.out]; exact fun h => hne (Option.some.inj h).symm)
      have Hn := Lib.hid ((C.next _ m c2 _ w3 (by rw [List.length_set]; exact Hlen.out) (by omega) HC.out).mono fun e w' ⟨A, m', c', he, h1, h2, h3⟩ => (show ∃ A c', e = Ending.returned (.tuple #[.slice A 0 c', .int .i64 0, .int .i64 11]) ∧ Below w3.heap.size w3 w' from by
        rw [hsp] at he h1
        have h1 : 0 = m' := h1
        subst h1
        exact ⟨A, c', he, h3⟩))
      go_wp2_with fail
      refine Hn.out.mono ?_
      rintro e w4 ⟨A4, c4, rfl, hb4⟩
      have hB4 : Below w1.heap.size w1 w4 := HB.out.trans (hb4.mono HB.out.size)
      go_wp2
      go_ret
      exact ⟨rfl, hb1.trans (hB4.mono hb1.size)⟩
end Go.Proofs.Ytaimciblkimgkaa
