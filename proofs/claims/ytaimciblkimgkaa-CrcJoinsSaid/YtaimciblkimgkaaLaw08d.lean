/-
  Layer 8's laws: CrcJoins.
-/
import Derived.Test.YtaimciblkimgkaaLaw08
import Derived.Lib.MinMax
namespace Go.Proofs.Ytaimciblkimgkaa
open Go.RowKit

theorem cell_set_ne (w : World) (g k j : Nat) (v : Value) (h : j ≠ k) : (w.setCell ⟨g, k, none⟩ v).cell? ⟨g, j, none⟩ = w.cell? ⟨g, j, none⟩ := by
  unfold World.cell? World.setCell
  rw [Array.getElem?_modify]
  by_cases hg : g < w.heap.size
  · simp only [if_true]
    cases hh : w.heap[g]? with
    | none => rfl
    | some o => cases o <;> simp [Ne.symm h]
  · simp [Array.getElem?_eq_none (Nat.le_of_not_lt hg)]
theorem cell_set_eq (w : World) (g k : Nat) (v : Value) (h : (w.cell? ⟨g, k, none⟩).isSome = true) : (w.setCell ⟨g, k, none⟩ v).cell? ⟨g, k, none⟩ = some v := by
  unfold World.cell? at h ⊢
  unfold World.setCell
  rw [Array.getElem?_modify]
  simp only [if_true]
  cases hh : w.heap[g]? with
  | none => rw [hh] at h; cases h
  | some o => rw [hh] at h; cases o <;> simp_all
/-- A byte of a row of the call's own is another one. -/
theorem mo_set {w : World} {base g n cap : Nat} {l : List UInt8} (h : Mo w base (.slice (some ⟨g, 0, none⟩) n cap) n (bcells l)) {k : Nat} (hk : k < n) (d : UInt8) : Sl (w.setCell ⟨g, k, none⟩ (.int .u8 d.toNat)) (some ⟨g, 0, none⟩) n cap 1 (bcells (l.set k d)) := by
  obtain ⟨h1, g', cap', hv, h2, h3, h4, h5, h6, h7⟩ := h
  injection hv with hv1 _ hv2
  injection hv1 with hv1
  injection hv1 with hv1 _ _
  subst hv1; subst hv2
  rw [bcells_len] at h1
  refine ⟨by rw [bcells_len, List.length_set, h1]; omega, h4, h5, (fun e => by cases e), .inr ⟨g, 0, rfl, fun j u hu => ?_⟩⟩
  rw [Nat.zero_add]
  by_cases hj : j = k
  · subst hj
    rw [cell_set_eq _ _ _ _ (h7 j (by omega)).1]
    rw [bcells, List.getElem?_map, List.getElem?_set_self (by omega)] at hu
    exact hu
  · rw [cell_set_ne _ _ _ _ _ hj]
    refine h6 j u ?_
    rw [bcells, List.getElem?_map, List.getElem?_set_ne (Ne.symm hj)] at hu
    rw [bcells, List.getElem?_map]
    exact hu
/-- A sum tells a byte that was set. -/
theorem sum_set {l : List UInt8} {k : Nat} (h : k < l.length) {y : UInt8} (hy : y ≠ l[k]) : sumC (l.set k y) ≠ sumC l := by
  have e1 : l.set k y = l.take k ++ y :: l.drop (k + 1) := List.set_eq_take_append_cons_drop.trans (if_pos h)
  have e2 : l = l.take k ++ l[k] :: l.drop (k + 1) := by rw [← List.drop_eq_getElem_cons h, List.take_append_drop]
  have h3 := sumC_ne (a := l.take k) (b := l.drop (k + 1)) hy
  rw [← e1, ← e2] at h3
  exact h3
set_option maxRecDepth 100000 in
set_option maxHeartbeats 2000000 in
theorem walk_CrcJoins (C : CrcC) (A : Option Addr) (n c : Nat) (l : List UInt8) (hl : l.length = n) (a1 : Int) (b1 : 0 ≤ a1) (b1' : a1 ≤ 65535) (a2 : Int) (b2 : 0 ≤ a2) (b2' : a2 ≤ 255) (W : World) (h : Sl W A n c 1 (bcells l)) (_ : True) :
    Calls Try.prog 6 #[.slice A n c, .int .u16 a1, .int .u8 a2] W fun e W' => e = .returned (.bool true) ∧ Below W.heap.size W W' := by
  have HA := Lib.hid (awake08 C W)
  have HS := Lib.hid h
  have Hl := Lib.hid hl
  have hcap : c ≤ 9223372036854775807 := by have := h.cap; unfold maxLen at this; omega
  have hnc := h.le
  clear h hl
  by_cases h0 : n = 0
  · subst h0
    have hmin0 : min (0 : Int) 1000 = 0 := by decide
    have hl0 : l = [] := List.eq_nil_of_length_eq_zero Hl.out
    go_enter Try.func6, Try.ntmps6
    go_wp2_with fail
    refine HA.out.mono ?_
    rintro e w1 ⟨rfl, hb1⟩
    have HS1 := Lib.hid (HS.out.on hb1)
    have HSm := Lib.hid ((C.sum A 0 c [] w1 rfl (by decide) (by have := HS1.out; rw [hl0] at this; exact this)).mono fun e w' ⟨he, hb⟩ => (show e = Ending.returned (.int .u32 0) ∧ Below w1.heap.size w1 w' from ⟨he, hb⟩))
    go_wp2_with fail
    refine HSm.out.mono ?_
    rintro e w2 ⟨rfl, hb2⟩
    go_wp2
    go_ret
    exact ⟨rfl, hb1.trans (hb2.mono hb1.size)⟩
  · obtain ⟨m, hm⟩ : ∃ m : Nat, (m : Int) = min (n : Int) 1000 := ⟨(min (n : Int) 1000).toNat, by omega⟩
    have hmn : 1 ≤ m ∧ m ≤ n ∧ m ≤ 1000 := by omega
    have hmm : min (n : Int) 1000 = (m : Int) := hm.symm
    have hm0 : ((m : Int) == 0) = false := by rw [beq_eq_false_iff_ne]; omega
    have hm1 : (1 : Int) ≤ (m : Int) := by omega
    clear hm
    have Hlt := Lib.hid (show (l.take m).length = m by rw [List.length_take, Hl.out]; omega)
    have HSt := Lib.hid (fun (V : World) (hb : Below W.heap.size W V) => (show Sl V A m c 1 (bcells (l.take m)) from by
      have hs := HS.out.on hb
      refine ⟨by rw [bcells_len, Hlt.out]; omega, by omega, hs.cap, fun e => by have := hs.nil e; omega, ?_⟩
      rw [← bcells_take]
      exact hs.row.take m))
    go_enter Try.func6, Try.ntmps6
    go_wp2_with fail
    refine HA.out.mono ?_
    rintro e w1 ⟨rfl, hb1⟩
    go_upto_region 6 with (fail)
    have HSt1 := HSt.out w1 hb1
    obtain ⟨i0, hi, iz0, iz1, iz2⟩ := info_parts infoB8
    have moE := Mo.of_block (w := w1.alloc (.cells #[] 5)) (base := w1.heap.size) (cap := 0) (n := 0) (xs := []) (Nat.le_refl _) (heap_alloc_new w1 _) (.inl rfl) rfl rfl (Nat.le_refl _) (by decide)
    have hE1 : Below w1.heap.size w1 (w1.alloc (.cells #[] 5)) := (Below.refl _ _).alloc (Nat.le_refl _) _
    go_wp2_with (at_builtin; refine wpList_append_mo rfl (.tmp 22) (.tmp 23) 22 rfl w1.heap.size 5 i0 Try.underlying22 hi iz0 iz1 iz2 _ _ _ rfl moE A m c (bcells (l.take m)) rfl (HSt1.on hE1) (bcells_one8 _) (by unfold maxLen; omega) (by omega) (by simp) ?_)
    intro v2 w2 mo2 hg2 _
    have hE2 := moE.below hE1 hg2 (by simp) (Nat.le_refl _)
    have mo2 := mo2.cast (ys := bcells (l.take m)) (m := m) (by simp) (by omega)
    clear hg2 moE hE1 HSt1
    obtain ⟨g2, c2, rfl, sl2, hgb, -⟩ := mo2.sl
    obtain ⟨k, hk⟩ : ∃ k : Nat, a1 % (m : Int) = (k : Int) := ⟨(a1 % (m : Int)).toNat, by have := Int.emod_nonneg a1 (show (m : Int) ≠ 0 by omega); omega⟩
    have hkm : k < m := by have := Int.emod_lt_of_pos a1 (show (0 : Int) < (m : Int) by omega); omega
    have hkl : k < (l.take m).length := by rw [Hlt.out]; exact hkm
    obtain ⟨b, off, e, hbc⟩ := sl2.row.byte hkl
    injection e with e
    injection e with e1 e2 _
    subst e1; subst e2
    rw [Nat.zero_add] at hbc
    have hfz : w2.frozen? ⟨g2, k, none⟩ = false := by
      obtain ⟨_, g', cap', hv, _, _, h4, _, _, h7⟩ := mo2
      injection hv with hv1 _ hv2
      injection hv1 with hv1
      injection hv1 with hv1 _ _
      subst hv1; subst hv2
      exact (h7 k (by omega)).2
    have HMo := Lib.hid mo2
    have hm65 : (m : Int) ≤ 1000 := by omega
    have hki : (k : Int) < (m : Int) := by omega
    have hk0 : (0 : Int) ≤ (k : Int) := by omega
    have hc2 : c2 ≤ 9223372036854775807 := by have := sl2.cap; unfold maxLen at this; omega
    have hmc2 := sl2.le
    clear mo2 sl2
    generalize hxx : (l.take m)[k] = x at *
    have Hxx := Lib.hid hxx
    clear hxx
    have hor : a2 % 8 = 0 ∨ a2 % 8 = 1 ∨ a2 % 8 = 2 ∨ a2 % 8 = 3 ∨ a2 % 8 = 4 ∨ a2 % 8 = 5 ∨ a2 % 8 = 6 ∨ a2 % 8 = 7 := by omega
    rcases hor with h8 | h8 | h8 | h8 | h8 | h8 | h8 | h8
    · go_upto_region 9 with (fail)
      have hx : bits .xor .u8 (x.toNat : Int) (1 : Int) = ((x ^^^ 1 <<< UInt8.ofNat 0).toNat : Int) := (u8_xor_nat x.toNat 1 x.toNat_lt (by decide)).trans (by rw [UInt8.toNat_xor]; rfl)
      have hne : x ^^^ 1 <<< UInt8.ofNat 0 ≠ x := flip_ne x 0 (by decide)
      simp only [hx]
      generalize x ^^^ 1 <<< UInt8.ofNat 0 = y at *
      have HC := Lib.hid (mo_set HMo.out hkm y)
      have HB := Lib.hid (hE2.setCell (p := ⟨g2, k, none⟩) hgb (.int .u8 y.toNat))
      generalize w2.setCell ⟨g2, k, none⟩ (.int .u8 y.toNat) = w3 at *
      have Hs1 := Lib.hid (C.sum _ m c2 _ w3 (by rw [List.length_set]; exact Hlt.out) (by omega) HC.out)
      go_wp2_with fail
      refine Hs1.out.mono ?_
      rintro e w4 ⟨rfl, hb4⟩
      have hB4 : Below w1.heap.size w1 w4 := HB.out.trans (hb4.mono HB.out.size)
      have hWW : Below W.heap.size W w4 := hb1.trans (hB4.mono hb1.size)
      have Hs2 := Lib.hid (C.sum _ m c _ w4 Hlt.out (by omega) (HSt.out w4 hWW))
      have hd : (((sumC ((l.take m).set k y) : Nat) : Int) != ((sumC (l.take m) : Nat) : Int)) = true := by
        rw [bne_iff_ne]
        intro h
        refine sum_set hkl (by rw [Hxx.out]; exact hne) (Int.ofNat.inj h)
      go_wp2_with fail
      refine Hs2.out.mono ?_
      rintro e w5 ⟨rfl, hb5⟩
      go_wp2
      go_ret
      exact ⟨rfl, hWW.trans (hb5.mono hWW.size)⟩
    · go_upto_region 9 with (fail)
      have hx : bits .xor .u8 (x.toNat : Int) (2 : Int) = ((x ^^^ 1 <<< UInt8.ofNat 1).toNat : Int) := (u8_xor_nat x.toNat 2 x.toNat_lt (by decide)).trans (by rw [UInt8.toNat_xor]; rfl)
      have hne : x ^^^ 1 <<< UInt8.ofNat 1 ≠ x := flip_ne x 1 (by decide)
      simp only [hx]
      generalize x ^^^ 1 <<< UInt8.ofNat 1 = y at *
      have HC := Lib.hid (mo_set HMo.out hkm y)
      have HB := Lib.hid (hE2.setCell (p := ⟨g2, k, none⟩) hgb (.int .u8 y.toNat))
      generalize w2.setCell ⟨g2, k, none⟩ (.int .u8 y.toNat) = w3 at *
      have Hs1 := Lib.hid (C.sum _ m c2 _ w3 (by rw [List.length_set]; exact Hlt.out) (by omega) HC.out)
      go_wp2_with fail
      refine Hs1.out.mono ?_
      rintro e w4 ⟨rfl, hb4⟩
      have hB4 : Below w1.heap.size w1 w4 := HB.out.trans (hb4.mono HB.out.size)
      have hWW : Below W.heap.size W w4 := hb1.trans (hB4.mono hb1.size)
      have Hs2 := Lib.hid (C.sum _ m c _ w4 Hlt.out (by omega) (HSt.out w4 hWW))
      have hd : (((sumC ((l.take m).set k y) : Nat) : Int) != ((sumC (l.take m) : Nat) : Int)) = true := by
        rw [bne_iff_ne]
        intro h
        refine sum_set hkl (by rw [Hxx.out]; exact hne) (Int.ofNat.inj h)
      go_wp2_with fail
      refine Hs2.out.mono ?_
      rintro e w5 ⟨rfl, hb5⟩
      go_wp2
      go_ret
      exact ⟨rfl, hWW.trans (hb5.mono hWW.size)⟩
    · go_upto_region 9 with (fail)
      have hx : bits .xor .u8 (x.toNat : Int) (4 : Int) = ((x ^^^ 1 <<< UInt8.ofNat 2).toNat : Int) := (u8_xor_nat x.toNat 4 x.toNat_lt (by decide)).trans (by rw [UInt8.toNat_xor]; rfl)
      have hne : x ^^^ 1 <<< UInt8.ofNat 2 ≠ x := flip_ne x 2 (by decide)
      simp only [hx]
      generalize x ^^^ 1 <<< UInt8.ofNat 2 = y at *
      have HC := Lib.hid (mo_set HMo.out hkm y)
      have HB := Lib.hid (hE2.setCell (p := ⟨g2, k, none⟩) hgb (.int .u8 y.toNat))
      generalize w2.setCell ⟨g2, k, none⟩ (.int .u8 y.toNat) = w3 at *
      have Hs1 := Lib.hid (C.sum _ m c2 _ w3 (by rw [List.length_set]; exact Hlt.out) (by omega) HC.out)
      go_wp2_with fail
      refine Hs1.out.mono ?_
      rintro e w4 ⟨rfl, hb4⟩
      have hB4 : Below w1.heap.size w1 w4 := HB.out.trans (hb4.mono HB.out.size)
      have hWW : Below W.heap.size W w4 := hb1.trans (hB4.mono hb1.size)
      have Hs2 := Lib.hid (C.sum _ m c _ w4 Hlt.out (by omega) (HSt.out w4 hWW))
      have hd : (((sumC ((l.take m).set k y) : Nat) : Int) != ((sumC (l.take m) : Nat) : Int)) = true := by
        rw [bne_iff_ne]
        intro h
        refine sum_set hkl (by rw [Hxx.out]; exact hne) (Int.ofNat.inj h)
      go_wp2_with fail
      refine Hs2.out.mono ?_
      rintro e w5 ⟨rfl, hb5⟩
      go_wp2
      go_ret
      exact ⟨rfl, hWW.trans (hb5.mono hWW.size)⟩
    · go_upto_region 9 with (fail)
      have hx : bits .xor .u8 (x.toNat : Int) (8 : Int) = ((x ^^^ 1 <<< UInt8.ofNat 3).toNat : Int) := (u8_xor_nat x.toNat 8 x.toNat_lt (by decide)).trans (by rw [UInt8.toNat_xor]; rfl)
      have hne : x ^^^ 1 <<< UInt8.ofNat 3 ≠ x := flip_ne x 3 (by decide)
      simp only [hx]
      generalize x ^^^ 1 <<< UInt8.ofNat 3 = y at *
      have HC := Lib.hid (mo_set HMo.out hkm y)
      have HB := Lib.hid (hE2.setCell (p := ⟨g2, k, none⟩) hgb (.int .u8 y.toNat))
      generalize w2.setCell ⟨g2, k, none⟩ (.int .u8 y.toNat) = w3 at *
      have Hs1 := Lib.hid (C.sum _ m c2 _ w3 (by rw [List.length_set]; exact Hlt.out) (by omega) HC.out)
      go_wp2_with fail
      refine Hs1.out.mono ?_
      rintro e w4 ⟨rfl, hb4⟩
      have hB4 : Below w1.heap.size w1 w4 := HB.out.trans (hb4.mono HB.out.size)
      have hWW : Below W.heap.size W w4 := hb1.trans (hB4.mono hb1.size)
      have Hs2 := Lib.hid (C.sum _ m c _ w4 Hlt.out (by omega) (HSt.out w4 hWW))
      have hd : (((sumC ((l.take m).set k y) : Nat) : Int) != ((sumC (l.take m) : Nat) : Int)) = true := by
        rw [bne_iff_ne]
        intro h
        refine sum_set hkl (by rw [Hxx.out]; exact hne) (Int.ofNat.inj h)
      go_wp2_with fail
      refine Hs2.out.mono ?_
      rintro e w5 ⟨rfl, hb5⟩
      go_wp2
      go_ret
      exact ⟨rfl, hWW.trans (hb5.mono hWW.size)⟩
    · go_upto_region 9 with (fail)
      have hx : bits .xor .u8 (x.toNat : Int) (16 : Int) = ((x ^^^ 1 <<< UInt8.ofNat 4).toNat : Int) := (u8_xor_nat x.toNat 16 x.toNat_lt (by decide)).trans (by rw [UInt8.toNat_xor]; rfl)
      have hne : x ^^^ 1 <<< UInt8.ofNat 4 ≠ x := flip_ne x 4 (by decide)
      simp only [hx]
      generalize x ^^^ 1 <<< UInt8.ofNat 4 = y at *
      have HC := Lib.hid (mo_set HMo.out hkm y)
      have HB := Lib.hid (hE2.setCell (p := ⟨g2, k, none⟩) hgb (.int .u8 y.toNat))
      generalize w2.setCell ⟨g2, k, none⟩ (.int .u8 y.toNat) = w3 at *
      have Hs1 := Lib.hid (C.sum _ m c2 _ w3 (by rw [List.length_set]; exact Hlt.out) (by omega) HC.out)
      go_wp2_with fail
      refine Hs1.out.mono ?_
      rintro e w4 ⟨rfl, hb4⟩
      have hB4 : Below w1.heap.size w1 w4 := HB.out.trans (hb4.mono HB.out.size)
      have hWW : Below W.heap.size W w4 := hb1.trans (hB4.mono hb1.size)
      have Hs2 := Lib.hid (C.sum _ m c _ w4 Hlt.out (by omega) (HSt.out w4 hWW))
      have hd : (((sumC ((l.take m).set k y) : Nat) : Int) != ((sumC (l.take m) : Nat) : Int)) = true := by
        rw [bne_iff_ne]
        intro h
        refine sum_set hkl (by rw [Hxx.out]; exact hne) (Int.ofNat.inj h)
      go_wp2_with fail
      refine Hs2.out.mono ?_
      rintro e w5 ⟨rfl, hb5⟩
      go_wp2
      go_ret
      exact ⟨rfl, hWW.trans (hb5.mono hWW.size)⟩
    · go_upto_region 9 with (fail)
      have hx : bits .xor .u8 (x.toNat : Int) (32 : Int) = ((x ^^^ 1 <<< UInt8.ofNat 5).toNat : Int) := (u8_xor_nat x.toNat 32 x.toNat_lt (by decide)).trans (by rw [UInt8.toNat_xor]; rfl)
      have hne : x ^^^ 1 <<< UInt8.ofNat 5 ≠ x := flip_ne x 5 (by decide)
      simp only [hx]
      generalize x ^^^ 1 <<< UInt8.ofNat 5 = y at *
      have HC := Lib.hid (mo_set HMo.out hkm y)
      have HB := Lib.hid (hE2.setCell (p := ⟨g2, k, none⟩) hgb (.int .u8 y.toNat))
      generalize w2.setCell ⟨g2, k, none⟩ (.int .u8 y.toNat) = w3 at *
      have Hs1 := Lib.hid (C.sum _ m c2 _ w3 (by rw [List.length_set]; exact Hlt.out) (by omega) HC.out)
      go_wp2_with fail
      refine Hs1.out.mono ?_
      rintro e w4 ⟨rfl, hb4⟩
      have hB4 : Below w1.heap.size w1 w4 := HB.out.trans (hb4.mono HB.out.size)
      have hWW : Below W.heap.size W w4 := hb1.trans (hB4.mono hb1.size)
      have Hs2 := Lib.hid (C.sum _ m c _ w4 Hlt.out (by omega) (HSt.out w4 hWW))
      have hd : (((sumC ((l.take m).set k y) : Nat) : Int) != ((sumC (l.take m) : Nat) : Int)) = true := by
        rw [bne_iff_ne]
        intro h
        refine sum_set hkl (by rw [Hxx.out]; exact hne) (Int.ofNat.inj h)
      go_wp2_with fail
      refine Hs2.out.mono ?_
      rintro e w5 ⟨rfl, hb5⟩
      go_wp2
      go_ret
      exact ⟨rfl, hWW.trans (hb5.mono hWW.size)⟩
    · go_upto_region 9 with (fail)
      have hx : bits .xor .u8 (x.toNat : Int) (64 : Int) = ((x ^^^ 1 <<< UInt8.ofNat 6).toNat : Int) := (u8_xor_nat x.toNat 64 x.toNat_lt (by decide)).trans (by rw [UInt8.toNat_xor]; rfl)
      have hne : x ^^^ 1 <<< UInt8.ofNat 6 ≠ x := flip_ne x 6 (by decide)
      simp only [hx]
      generalize x ^^^ 1 <<< UInt8.ofNat 6 = y at *
      have HC := Lib.hid (mo_set HMo.out hkm y)
      have HB := Lib.hid (hE2.setCell (p := ⟨g2, k, none⟩) hgb (.int .u8 y.toNat))
      generalize w2.setCell ⟨g2, k, none⟩ (.int .u8 y.toNat) = w3 at *
      have Hs1 := Lib.hid (C.sum _ m c2 _ w3 (by rw [List.length_set]; exact Hlt.out) (by omega) HC.out)
      go_wp2_with fail
      refine Hs1.out.mono ?_
      rintro e w4 ⟨rfl, hb4⟩
      have hB4 : Below w1.heap.size w1 w4 := HB.out.trans (hb4.mono HB.out.size)
      have hWW : Below W.heap.size W w4 := hb1.trans (hB4.mono hb1.size)
      have Hs2 := Lib.hid (C.sum _ m c _ w4 Hlt.out (by omega) (HSt.out w4 hWW))
      have hd : (((sumC ((l.take m).set k y) : Nat) : Int) != ((sumC (l.take m) : Nat) : Int)) = true := by
        rw [bne_iff_ne]
        intro h
        refine sum_set hkl (by rw [Hxx.out]; exact hne) (Int.ofNat.inj h)
      go_wp2_with fail
      refine Hs2.out.mono ?_
      rintro e w5 ⟨rfl, hb5⟩
      go_wp2
      go_ret
      exact ⟨rfl, hWW.trans (hb5.mono hWW.size)⟩
    · go_upto_region 9 with (fail)
      have hx : bits .xor .u8 (x.toNat : Int) (128 : Int) = ((x ^^^ 1 <<< UInt8.ofNat 7).toNat : Int) := (u8_xor_nat x.toNat 128 x.toNat_lt (by decide)).trans (by rw [UInt8.toNat_xor]; rfl)
      have hne : x ^^^ 1 <<< UInt8.ofNat 7 ≠ x := flip_ne x 7 (by decide)
      simp only [hx]
      generalize x ^^^ 1 <<< UInt8.ofNat 7 = y at *
      have HC := Lib.hid (mo_set HMo.out hkm y)
      have HB := Lib.hid (hE2.setCell (p := ⟨g2, k, none⟩) hgb (.int .u8 y.toNat))
      generalize w2.setCell ⟨g2, k, none⟩ (.int .u8 y.toNat) = w3 at *
      have Hs1 := Lib.hid (C.sum _ m c2 _ w3 (by rw [List.length_set]; exact Hlt.out) (by omega) HC.out)
      go_wp2_with fail
      refine Hs1.out.mono ?_
      rintro e w4 ⟨rfl, hb4⟩
      have hB4 : Below w1.heap.size w1 w4 := HB.out.trans (hb4.mono HB.out.size)
      have hWW : Below W.heap.size W w4 := hb1.trans (hB4.mono hb1.size)
      have Hs2 := Lib.hid (C.sum _ m c _ w4 Hlt.out (by omega) (HSt.out w4 hWW))
      have hd : (((sumC ((l.take m).set k y) : Nat) : Int) != ((sumC (l.take m) : Nat) : Int)) = true := by
        rw [bne_iff_ne]
        intro h
        refine sum_set hkl (by rw [Hxx.out]; exact hne) (Int.ofNat.inj h)
      go_wp2_with fail
      refine Hs2.out.mono ?_
      rintro e w5 ⟨rfl, hb5⟩
      go_wp2
      go_ret
      exact ⟨rfl, hWW.trans (hb5.mono hWW.size)⟩
end Go.Proofs.Ytaimciblkimgkaa
