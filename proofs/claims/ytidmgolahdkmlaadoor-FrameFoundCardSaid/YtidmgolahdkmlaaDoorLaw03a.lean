/-
  Layer 3's laws: the walk of FrameSums.
-/
import Derived.Test.YtidmgolahdkmlaaDoorLaw03
import Derived.Test.YtidmgolahdkmlaaDoorFieldOpen
namespace Go.Proofs.YtidmgolahdkmlaaDoor
open Go.RowKit

theorem Row.set {w : World} {g k : Nat} {q : List UInt8} (h : Row w (some ⟨g, 0, none⟩) (bcells q)) (hk : k < q.length) (x : UInt8) (v : Value) (hv : v = .int .u8 x.toNat) : Row (w.setCell ⟨g, k, none⟩ v) (some ⟨g, 0, none⟩) (bcells (q.set k x)) := by
  subst hv
  refine .inr ⟨g, 0, rfl, fun i u hu => ?_⟩
  rw [Nat.zero_add]
  have hrow : ∀ i u, (bcells q)[i]? = some u → w.cell? ⟨g, i, none⟩ = some u := fun i u hi => by
    rcases h with h0 | ⟨b, o, he, hc⟩
    · have := congrArg List.length h0; rw [bcells_len, List.length_nil] at this; omega
    · injection he with he; injection he with e1 e2 _; subst e1; subst e2
      have := hc i u hi; rwa [Nat.zero_add] at this
  have hil : i < q.length := by
    have := (List.getElem?_eq_some_iff.1 hu).1
    rwa [bcells_len, List.length_set] at this
  have hb : (bcells (q.set k x))[i]? = some (.int .u8 ((q.set k x)[i]'(by rw [List.length_set]; exact hil)).toNat) := bcells_get (by rw [List.length_set]; exact hil)
  rw [hb] at hu
  injection hu with hu
  subst hu
  by_cases hik : i = k
  · subst hik
    rw [List.getElem_set_self]
    exact World.cell?_setCell_same _ _ _ (hrow i _ (bcells_get hil))
  · rw [List.getElem_set_ne (Ne.symm hik)]
    rw [World.cell?_setCell_other _ _ _ _ (fun he => hik (by injection he with _ e2 _; exact e2.symm))]
    exact hrow i _ (bcells_get hil)
theorem mo_empty (w : World) (t : TypeId) : Mo (w.alloc (.cells #[] t)) w.heap.size (.slice (some ⟨w.heap.size, 0, none⟩) 0 0) 0 [] :=
  Mo.of_block (Nat.le_refl _) (heap_alloc_new w _) (.inl rfl) rfl rfl (Nat.le_refl _) (by decide)
set_option maxRecDepth 100000 in
set_option maxHeartbeats 2000000 in
theorem walk_FrameSums (A : Option Addr) (n c : Nat) (l : List UInt8) (hn : l.length = n) (A' : Option Addr) (n' c' : Nat) (l' : List UInt8) (hn' : l'.length = n') (a : Int) (a0 : 0 ≤ a) (a1 : a ≤ 65535) (b : Int) (b0 : 0 ≤ b) (b1 : b ≤ 255)
    (w : World) (h : Sl w A n c 1 (bcells l)) (h' : Sl w A' n' c' 1 (bcells l')) (hctx : FCtx w) :
    Calls Tryd.prog 7 #[.slice A n c, .slice A' n' c', .int .u16 a, .int .u8 b] w fun e w' => e = .returned (.bool true) ∧ Below w.heap.size w w' := by
  have hcm := h.cap
  have hnc := h.le
  have hcm' := h'.cap
  have hnc' := h'.le
  unfold maxLen at hcm hcm'
  obtain ⟨ka, hka⟩ : ∃ k, k = min n 3000 := ⟨_, rfl⟩
  obtain ⟨kb, hkb⟩ : ∃ k, k = min n' 3000 := ⟨_, rfl⟩
  have hma : min (n : Int) 3000 = (ka : Int) := by omega
  have hmb : min (n' : Int) 3000 = (kb : Int) := by omega
  have ka1 : ka ≤ n := by omega
  have kb1 : kb ≤ n' := by omega
  have ka2 : ka ≤ 3000 := by omega
  have kb2 : kb ≤ 3000 := by omega
  have HA := Lib.hid (h.front ka ka1)
  have HB := Lib.hid (h'.front kb kb1)
  rw [bcells_take] at HA HB
  have hla : (l.take ka).length = ka := by rw [List.length_take]; omega
  have hlb : (l'.take kb).length = kb := by rw [List.length_take]; omega
  clear hka hkb h h' hn hn'
  generalize l.take ka = p at *
  generalize l'.take kb = q at *
  obtain ⟨i0, hi, iz0, iz1, iz2⟩ := info_parts infoB
  go_enter Tryd.func7, Tryd.ntmps7
  go_wp2_with fail
  refine (awake03 w hctx).mono ?_
  rintro e w1 ⟨rfl, hb1⟩
  have HA1 := Lib.hid (HA.out.on hb1)
  have HB1 := Lib.hid (HB.out.on hb1)
  go_wp2_with fail
  go_quiet (fail)
  have hB2 : Below w.heap.size w (w1.drewN nq) := ⟨hb1.os, hb1.tape, hb1.output, hb1.size, hb1.block⟩
  have HA2 := HA.out.on hB2
  have HB2 := HB.out.on hB2
  clear HA HB HA1 HB1 hma hmb
  generalize w1.drewN nq = w2 at *
  clear hb1
  have own0 := mo_empty w2 5
  have hz2 := hB2.size
  have hB3 := hB2.alloc hz2 (.cells #[] 5)
  have hx3 := HA2.on ((Below.refl _ _).alloc (Nat.le_refl _) (.cells #[] 5))
  go_wp2_with (at_builtin; refine wpList_append_mo rfl (.tmp 24) (.tmp 25) 22 rfl w2.heap.size 5 i0 Tryd.underlying22 hi iz0 iz1 iz2 _ _ _ rfl own0 A ka c (bcells p) rfl hx3 (bcells_one _) ?c3 ?c4 ?c5 ?_)
  case c3 => unfold maxLen; omega
  case c4 => omega
  case c5 => simp
  intro v4 w4 own4 hg4 _
  have hb4 : Below w2.heap.size w2 w4 := own0.below ((Below.refl _ _).alloc (Nat.le_refl _) _) hg4 (by simp) (Nat.le_refl _)
  have hz4 := hb4.size
  have hy4 := HB2.on hb4
  clear hg4 own0 hx3 hB3
  go_wp2_with (at_builtin; refine wpList_append_mo rfl (.tmp 26) (.tmp 27) 22 rfl w2.heap.size 5 i0 Tryd.underlying22 hi iz0 iz1 iz2 _ _ _ rfl own4 A' kb c' (bcells q) rfl hy4 (bcells_one _) ?d3 ?d4 ?d5 ?_)
  case d3 => unfold maxLen; omega
  case d4 => omega
  case d5 => omega
  intro v5 w5 own5 hg5 _
  have hb5 : Below w2.heap.size w2 w5 := own4.below hb4 hg5 hz4 (Nat.le_refl _)
  have hB5 : Below w.heap.size w w5 := hB2.trans (hb5.mono hz2)
  have hz5 := hb5.size
  have HA5 := HA2.on hb5
  have HB5 := HB2.on hb5
  clear hg5 own4 hy4 HA2 HB2 hb4
  have hql : (p ++ q).length = ka + kb := by rw [List.length_append]; omega
  have own6 : Mo w5 w2.heap.size v5 (ka + kb) (bcells (p ++ q)) := own5.cast (by simp [bcells]) (by omega)
  have hsum := sumN_app p q
  have hturn := fun k (hk : k < (p ++ q).length) => sumN_turn (p ++ q) k hk
  have hnil : ka + kb = 0 → sumN (p ++ q) = 0 := fun h0 => by rw [List.eq_nil_of_length_eq_zero (l := p ++ q) (by omega)]; rfl
  have hp1 := sumN_lt p
  have hq1 := sumN_lt q
  have ht1 := sumN_lt (p ++ q)
  obtain ⟨g5, c5, rfl, hs5, hg5b, hg5l⟩ := own6.sl
  obtain ⟨_, g5', c5', hv5, _, _, _, _, hcells, hfree⟩ := own6
  injection hv5 with hv1 _ hv2
  injection hv1 with hv1
  injection hv1 with hv1 _ _
  subst hv1; subst hv2
  have hfz := fun j (hj : j < ka + kb) => (hfree j (by have := hs5.le; omega)).2
  have hSum := Lib.hid (frame_Sum _ _ c5 (p ++ q) w5 hs5.row (by omega) (by omega))
  have hSa := Lib.hid (frame_Sum A ka c p w5 HA5.row hla (by omega))
  have hSb := Lib.hid (frame_Sum A' kb c' q w5 HB5.row hlb (by omega))
  have Hs := Lib.hid hsum
  have Hturn := Lib.hid hturn
  have Hnil := Lib.hid hnil
  have Hcells := Lib.hid hcells
  have Hfz := Lib.hid hfz
  have Hs5 := Lib.hid hs5
  clear hsum hturn hnil hcells hfz hfree hs5 HA5 HB5 own5
  go_wp2_with fail
  refine hSum.out.mono ?_
  rintro e w' ⟨rfl, rfl⟩
  go_wp2_with fail
  refine hSa.out.mono ?_
  rintro e w' ⟨rfl, rfl⟩
  go_wp2_with fail
  refine hSb.out.mono ?_
  rintro e w' ⟨rfl, rfl⟩
  clear hSum hSa hSb
  generalize hT : p ++ q = t at *
  generalize hS : sumN t = s at *
  generalize sumN p = sp at *
  generalize sumN q = sq at *
  have hsi : ((sp : Int) + (sq : Int)) % 256 = (s : Int) := by have := Hs.out; omega
  have hs0 : (0 : Int) ≤ (s : Int) := by omega
  have hs255 : (s : Int) ≤ 255 := by omega
  obtain ⟨d, rfl⟩ : ∃ d : UInt8, b = (d.toNat : Int) := ⟨UInt8.ofNat b.toNat, by simp; omega⟩
  generalize hm : ka + kb = m at *
  by_cases hm0 : m = 0
  · subst hm0
    have hs00 : s = 0 := Hnil.out rfl
    subst hs00
    go_wp2
    go_ret
    exact ⟨rfl, hB5⟩
  · obtain ⟨k, hk⟩ : ∃ k : Nat, a % (m : Int) = (k : Int) := ⟨(a % (m : Int)).toNat, by have := Int.emod_nonneg a (show (m : Int) ≠ 0 by omega); omega⟩
    have hkm : k < m := by have := Int.emod_lt_of_pos a (show (0 : Int) < m by omega); omega
    have hkt : Int.tmod a (m : Int) = (k : Int) := by rw [Int.tmod_eq_emod_of_nonneg a0]; exact hk
    have hkl : k < t.length := by omega
    have hcell := Hcells.out k _ (bcells_get hkl)
    have hfro := Hfz.out k hkm
    have hrow := Row.set (Hs5.out.row) hkl (t[k] + d) (.int .u8 (((t[k].toNat : Int) + (d.toNat : Int)) % 256)) (by rw [UInt8.toNat_add]; congr 1)
    have hs2 := Lib.hid (frame_Sum _ m c5 (t.set k (t[k] + d)) _ hrow (by rw [List.length_set]; omega) (by omega))
    have htu := Hturn.out k hkl d
    have hset : sumN (t.set k (t[k] + d)) < 256 := sumN_lt _
    have hB6 := hB5.setCell (p := ⟨g5, k, none⟩) (by show w.heap.size ≤ g5; omega) (.int .u8 (((t[k].toNat : Int) + (d.toNat : Int)) % 256))
    have hx := (t[k]).toNat_lt
    have hd := d.toNat_lt
    generalize sumN (t.set k (t[k] + d)) = s2 at *
    generalize (t[k]).toNat = x at *
    have Htu := Lib.hid htu
    have hm1 : ((m : Int) == 0) = false := by simp; omega
    clear hrow htu Hnil Hcells Hfz Hs5 Hturn Hs hm
    go_wp2_with fail
    refine hs2.out.mono ?_
    rintro e w' ⟨rfl, rfl⟩
    go_wp2
    go_ret
    refine ⟨retB ?_, hB6⟩
    have htu := Htu.out
    by_cases h0 : d.toNat = 0
    · have h2 : ((s2 : Int) == (s : Int)) = true := by rw [beq_iff_eq]; omega
      have h3 : ((d.toNat : Int) == 0) = true := by rw [beq_iff_eq]; omega
      rw [h2, h3]; rfl
    · have h2 : ((s2 : Int) == (s : Int)) = false := by rw [beq_eq_false_iff_ne]; omega
      have h3 : ((d.toNat : Int) == 0) = false := by rw [beq_eq_false_iff_ne]; omega
      rw [h2, h3]; rfl
end Go.Proofs.YtidmgolahdkmlaaDoor
