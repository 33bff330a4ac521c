/-
  Layer 6, reseq: the program's own way: May, Right, place: its contracts.
-/
import Derived.Test.YtblkdmbkkimbpaaMsgLem
import Derived.Test.YtblkdmbkkimbpaaReseqOpen
import Derived.WalkKit
import Derived.WalkSmall
import Derived.WalkSpells
import Derived.IntWalk
import Derived.BigQuiet
import Derived.Handy
import Derived.Deep.QuietTactic
import Derived.Deep.DeepCutAuto
import Derived.Deep.DeepMust
namespace Go.Proofs.Ytblkdmbkkimbpaa
open Go.RowKit

theorem own_May (x : Itm) (W : World) : Calls Try.prog 33 #[.agg x.arr] W fun e W' => e = .returned (.bool x.mayB) ∧ Below W.heap.size W W' := by
  have hB := (Below.refl W.heap.size W).alloc (Nat.le_refl _) (.cells x.arr 58)
  have h0 : (W.alloc (.cells x.arr 58)).cell? ⟨W.heap.size, 0, none⟩ = some (.int .i64 x.fr) := (Box.new W x.arr _).cell 0
  have h1 : (W.alloc (.cells x.arr 58)).cell? ⟨W.heap.size, 1, none⟩ = some (.int .i64 x.till) := (Box.new W x.arr _).cell 1
  have hm : x.mayB = decide (1 ≤ x.fr ∧ x.fr < x.till ∧ x.till ≤ 2199023255552) := rfl
  have Hm := Lib.hid hm
  clear hm
  generalize x.arr = cs at *
  generalize x.mayB = r at *
  generalize x.fr = f at *
  generalize x.till = t at *
  by_cases c1 : 1 ≤ f
  · by_cases c2 : f < t
    · go_enter Try.func33, Try.ntmps33
      go_wp2
      go_ret
      exact ⟨retB (by rw [Hm.out]; simp [c1, c2]), hB⟩
    · go_enter Try.func33, Try.ntmps33
      go_wp2
      go_ret
      exact ⟨retB (by rw [Hm.out]; exact (decide_eq_false (by omega)).symm), hB⟩
  · go_enter Try.func33, Try.ntmps33
    go_wp2
    go_ret
    exact ⟨retB (by rw [Hm.out]; exact (decide_eq_false (by omega)).symm), hB⟩
/-- All may be, and From rises, from above lo on. -/
def goodB (lo : Int) : List Itm → Bool
  | [] => true
  | x :: r => x.mayB && (decide (lo < x.fr) && goodB x.fr r)
theorem goodB_eq : ∀ (l : List Itm) (lo : Int), goodB lo l = (l.all Itm.mayB && risingB lo l)
  | [], _ => rfl
  | x :: r, lo => by
    rw [goodB, goodB_eq r, List.all_cons, risingB]
    cases x.mayB <;> cases r.all Itm.mayB <;> cases decide (lo < x.fr) <;> rfl
theorem rightB_good {n : Int} {l : List Itm} (h1 : 1 ≤ n) (h2 : n ≤ 2199023255552) (h3 : l.length ≤ 64) : Ln.rightB ⟨n, l⟩ = goodB n l := by
  unfold Ln.rightB
  rw [goodB_eq]
  simp only [decide_eq_true (show 1 ≤ n ∧ n ≤ 2199023255552 from ⟨h1, h2⟩), decide_eq_true h3, Bool.true_and]
theorem rightB_bad {n : Int} {l : List Itm} (h : ¬ (1 ≤ n ∧ n ≤ 2199023255552 ∧ l.length ≤ 64)) : Ln.rightB ⟨n, l⟩ = false := by
  rw [Bool.eq_false_iff]
  intro hr
  have ⟨h1, h2, _⟩ := rightB_iff.1 hr
  exact h ⟨h1.1, h1.2, h2⟩
theorem goodB_drop {lo : Int} {l : List Itm} {k : Nat} (hk : k < l.length) : goodB lo (l.drop k) = (l[k].mayB && (decide (lo < l[k].fr) && goodB l[k].fr (l.drop (k + 1)))) := by
  rw [List.drop_eq_getElem_cons hk, goodB]
set_option maxRecDepth 100000 in
theorem own_Right (k0 : Int) (A : Option Addr) (n c : Nat) (l : List Itm) (hl : l.length = n) (W : World) (h : Sl W A n c 20 (icells l)) :
    Calls Try.prog 24 #[.agg #[.int .i64 k0, .slice A n c]] W fun e W' => e = .returned (.bool (Ln.rightB ⟨k0, l⟩)) ∧ Below W.heap.size W W' := by
  have HS := Lib.hid h
  have HM := Lib.hid own_May
  have hcap : c ≤ 9223372036854775807 := by have := h.cap; unfold maxLen at this; omega
  have hnc := h.le
  clear h
  have hB := (Below.refl W.heap.size W).alloc (Nat.le_refl _) (.cells #[.int .i64 k0, .slice A n c] 27)
  by_cases hbad : ¬ (1 ≤ k0 ∧ k0 ≤ 2199023255552 ∧ l.length ≤ 64)
  · have Hr := Lib.hid (rightB_bad hbad)
    have Hb := Lib.hid hbad
    clear hbad
    subst hl
    by_cases c1 : k0 < 1
    · go_enter Try.func24, Try.ntmps24
      go_wp2
      go_ret
      exact ⟨retB Hr.out.symm, hB⟩
    · by_cases c2 : 2199023255552 < k0
      · go_enter Try.func24, Try.ntmps24
        go_wp2
        go_ret
        exact ⟨retB Hr.out.symm, hB⟩
      · have c3 : (64 : Int) < (l.length : Int) := by have := Hb.out; omega
        go_enter Try.func24, Try.ntmps24
        go_wp2
        go_ret
        exact ⟨retB Hr.out.symm, hB⟩
  · have hg : 1 ≤ k0 ∧ k0 ≤ 2199023255552 ∧ l.length ≤ 64 := by omega
    clear hbad
    have Hr := Lib.hid (rightB_good hg.1 hg.2.1 hg.2.2)
    have c1 : ¬ k0 < 1 := by omega
    have c2 : ¬ 2199023255552 < k0 := by omega
    have c3 : ¬ (64 : Int) < (n : Int) := by omega
    have Hl := Lib.hid hl
    have hn64 : n ≤ 64 := by omega
    have HI := Lib.hid ((RI.start W).add 27 #[.int .i64 k0, .slice A n c])
    clear hg hl hB
    go_enter Try.func24, Try.ntmps24
    go_wp2
    generalize hR : Ln.rightB ⟨k0, l⟩ = R at *
    go_loopw [3, 25] (fun s3 s25 wr => ∃ (k : Nat) (lo : Int), k ≤ n ∧ s25 = .int .i64 k ∧ s3 = .int .i64 lo ∧ Hid (goodB lo (l.drop k) = R) ∧ Hid (RI W [(W.heap.size, 27, #[.int .i64 k0, .slice A n c])] wr)) (fun _ s25 _ => n - (intOf s25).toNat)
    case atStart => exact ⟨0, k0, Nat.zero_le _, rfl, rfl, Lib.hid Hr.out.symm, HI⟩
    case round =>
      obtain ⟨k, lo, hk, rfl, rfl, HG, HI⟩ := hrel
      by_cases hlt : k < n
      · have hkl : k < l.length := by rw [Hl.out]; exact hlt
        obtain ⟨b, off, rfl, hra, -, -⟩ := (HS.out.on HI.out.below).row.itm hkl
        have HRa := Lib.hid hra
        have Hd := Lib.hid (goodB_drop (lo := lo) hkl)
        clear hra
        generalize l[k] = x at *
        have Hmx := Lib.hid (HM.out x)
        generalize hmb : x.mayB = mb at *
        generalize hf : x.fr = f at *
        have Hf := Lib.hid hf
        clear hf
        rcases mb with _ | _
        · have HF := Lib.hid (show R = false by rw [← HG.out, Hd.out]; rfl)
          clear hmb Hd HG
          go_wp2_with (first | (refine wpList_load_mid rfl 58 _ rfl b (off + k * 20) rfl x.cells _ HRa.out Try.underlying58 rfl infoI ?_) | (refine ri_put rfl 58 (.tmp 5) (.tmp 28) rfl x.arr rfl rfl (HI.out.add 58 _) rfl infoI x.arr_one ?_; rintro w1 hI1 -; have HI1 := Lib.hid hI1; clear hI1) | (refine wpList_load_row rfl 58 (.tmp 5) rfl _ rfl 58 x.arr (0, 0) _ HI1.out.bx Try.underlying58 rfl infoI ?_) | (go_at_call 33; refine (Hmx.out _).mono ?_; rintro e w2 ⟨rfl, hb2⟩; have HI2 := Lib.hid (HI1.out.on hb2); have hc2 := (HI2.out.cell 0).trans (show x.arr[0]? = some (.int .i64 f) from congrArg (fun z => some (Value.int .i64 z)) Hf.out)))
          go_ret
          exact ⟨retB (hR.trans HF.out).symm, HI2.out.below⟩
        · by_cases hle : f ≤ lo
          · have HF := Lib.hid (show R = false by rw [← HG.out, Hd.out, decide_eq_false (by omega)]; rfl)
            clear hmb Hd HG
            go_wp2_with (first | (refine wpList_load_mid rfl 58 _ rfl b (off + k * 20) rfl x.cells _ HRa.out Try.underlying58 rfl infoI ?_) | (refine ri_put rfl 58 (.tmp 5) (.tmp 28) rfl x.arr rfl rfl (HI.out.add 58 _) rfl infoI x.arr_one ?_; rintro w1 hI1 -; have HI1 := Lib.hid hI1; clear hI1) | (refine wpList_load_row rfl 58 (.tmp 5) rfl _ rfl 58 x.arr (0, 0) _ HI1.out.bx Try.underlying58 rfl infoI ?_) | (go_at_call 33; refine (Hmx.out _).mono ?_; rintro e w2 ⟨rfl, hb2⟩; have HI2 := Lib.hid (HI1.out.on hb2); have hc2 := (HI2.out.cell 0).trans (show x.arr[0]? = some (.int .i64 f) from congrArg (fun z => some (Value.int .i64 z)) Hf.out)))
            go_ret
            exact ⟨retB (hR.trans HF.out).symm, HI2.out.below⟩
          · have HN := Lib.hid (show goodB f (l.drop (k + 1)) = R by rw [← HG.out, Hd.out, decide_eq_true (by omega)]; rfl)
            clear hmb Hd HG
            go_wp2_with (first | (refine wpList_load_mid rfl 58 _ rfl b (off + k * 20) rfl x.cells _ HRa.out Try.underlying58 rfl infoI ?_) | (refine ri_put rfl 58 (.tmp 5) (.tmp 28) rfl x.arr rfl rfl (HI.out.add 58 _) rfl infoI x.arr_one ?_; rintro w1 hI1 -; have HI1 := Lib.hid hI1; clear hI1) | (refine wpList_load_row rfl 58 (.tmp 5) rfl _ rfl 58 x.arr (0, 0) _ HI1.out.bx Try.underlying58 rfl infoI ?_) | (go_at_call 33; refine (Hmx.out _).mono ?_; rintro e w2 ⟨rfl, hb2⟩; have HI2 := Lib.hid (HI1.out.on hb2); have hc2 := (HI2.out.cell 0).trans (show x.arr[0]? = some (.int .i64 f) from congrArg (fun z => some (Value.int .i64 z)) Hf.out)))
            go_roundw
            case rel => exact ⟨k + 1, f, by omega, by go_num, rfl, HN, Lib.hid HI2.out.tail⟩
            case measure => simp [intOf]; omega
      · obtain rfl : k = n := by omega
        have HF := Lib.hid (show R = true by rw [← HG.out, List.drop_eq_nil_of_le (by rw [Hl.out]; exact Nat.le_refl _)]; rfl)
        clear HG
        go_wp2
        go_ret
        exact ⟨retB (hR.trans HF.out).symm, HI.out.below⟩
def placeN (f : Int) : List Itm → Nat × Bool
  | [] => (0, false)
  | x :: r => if f ≤ x.fr then (0, decide (x.fr = f)) else ((placeN f r).1 + 1, (placeN f r).2)
theorem placeN_le (f : Int) : ∀ l : List Itm, (placeN f l).1 ≤ l.length
  | [] => Nat.le_refl _
  | x :: r => by
    unfold placeN
    split
    · exact Nat.zero_le _
    · have := placeN_le f r
      show (placeN f r).1 + 1 ≤ r.length + 1
      omega
theorem placeN_here {f : Int} {l : List Itm} {k : Nat} (hk : k < l.length) (h : f ≤ l[k].fr) : placeN f (l.drop k) = (0, decide (l[k].fr = f)) := by
  rw [List.drop_eq_getElem_cons hk, placeN, if_pos h]
theorem placeN_on {f : Int} {l : List Itm} {k : Nat} (hk : k < l.length) (h : ¬ f ≤ l[k].fr) : placeN f (l.drop k) = ((placeN f (l.drop (k + 1))).1 + 1, (placeN f (l.drop (k + 1))).2) := by
  rw [List.drop_eq_getElem_cons hk, placeN, if_neg h]
theorem ret_ib {a a' : Int} {b b' : Bool} (h : a = a') (g : b = b') : Ending.returned (.tuple #[.int .i64 a, .bool b]) = .returned (.tuple #[.int .i64 a', .bool b']) := by rw [h, g]
set_option maxRecDepth 100000 in
theorem own_place (f : Int) (A : Option Addr) (n c : Nat) (l : List Itm) (hl : l.length = n) (W : World) (h : Sl W A n c 20 (icells l)) :
    Calls Try.prog 38 #[.slice A n c, .int .i64 f] W fun e W' => e = .returned (.tuple #[.int .i64 ((placeN f l).1 : Nat), .bool (placeN f l).2]) ∧ Below W.heap.size W W' := by
  have HS := Lib.hid h
  have hcap : c ≤ 9223372036854775807 := by have := h.cap; unfold maxLen at this; omega
  have hnc := h.le
  have Hl := Lib.hid hl
  clear h hl
  go_enter Try.func38, Try.ntmps38
  go_wp2
  generalize hP : placeN f l = p at *
  obtain ⟨pa, pb⟩ := p
  go_loopw [10] (fun s10 wr => ∃ (k : Nat), k ≤ n ∧ s10 = .int .i64 k ∧ Hid ((placeN f (l.drop k)).1 + k = pa ∧ (placeN f (l.drop k)).2 = pb) ∧ Hid (RI W [] wr)) (fun s10 _ => n - (intOf s10).toNat)
  case atStart => exact ⟨0, Nat.zero_le _, rfl, Lib.hid (by rw [List.drop_zero, hP]; exact ⟨rfl, rfl⟩), Lib.hid (RI.start _)⟩
  case round =>
    obtain ⟨k, hk, rfl, HG, HI⟩ := hrel
    have Hp := Lib.hid hP
    clear hP
    by_cases hlt : k < n
    · have hkl : k < l.length := by rw [Hl.out]; exact hlt
      obtain ⟨b, off, rfl, hra, -, -⟩ := (HS.out.on HI.out.below).row.itm hkl
      have HRa := Lib.hid hra
      have Hh := Lib.hid (placeN_here (f := f) hkl)
      have Ho := Lib.hid (placeN_on (f := f) hkl)
      clear hra
      generalize l[k] = x at *
      generalize hf : x.fr = f' at *
      have Hf := Lib.hid hf
      clear hf
      by_cases hle : f ≤ f'
      · have HF := Lib.hid (show pa = k ∧ pb = decide (f' = f) by have h1 := HG.out; rw [Hh.out hle] at h1; exact ⟨by have := h1.1; dsimp only at this; omega, h1.2.symm⟩)
        clear HG Hh Ho
        go_wp2_with (first | (refine wpList_load_mid rfl 58 _ rfl b (off + k * 20) rfl x.cells _ HRa.out Try.underlying58 rfl infoI ?_) | (refine ri_put rfl 58 (.tmp 7) (.tmp 14) rfl x.arr rfl rfl (HI.out.add 58 _) rfl infoI x.arr_one ?_; rintro w1 hI1 -; have HI1 := Lib.hid hI1; clear hI1; have hc1 := (HI1.out.cell 0).trans (show x.arr[0]? = some (.int .i64 f') from congrArg (fun z => some (Value.int .i64 z)) Hf.out)))
        go_quiet (fail)
        go_wp2
        go_ret2
        exact ⟨ret_ib (by rw [Hp.out, HF.out.1]) (by rw [Hp.out, HF.out.2]; simp [Bool.beq_eq_decide_eq]; try rfl), below_dn HI1.out.below _⟩
      · have HN := Lib.hid (show (placeN f (l.drop (k + 1))).1 + (k + 1) = pa ∧ (placeN f (l.drop (k + 1))).2 = pb by have h1 := HG.out; rw [Ho.out hle] at h1; exact ⟨by have := h1.1; dsimp only at this; omega, h1.2⟩)
        clear HG Hh Ho
        go_wp2_with (first | (refine wpList_load_mid rfl 58 _ rfl b (off + k * 20) rfl x.cells _ HRa.out Try.underlying58 rfl infoI ?_) | (refine ri_put rfl 58 (.tmp 7) (.tmp 14) rfl x.arr rfl rfl (HI.out.add 58 _) rfl infoI x.arr_one ?_; rintro w1 hI1 -; have HI1 := Lib.hid hI1; clear hI1; have hc1 := (HI1.out.cell 0).trans (show x.arr[0]? = some (.int .i64 f') from congrArg (fun z => some (Value.int .i64 z)) Hf.out)))
        go_roundw
        case rel => exact ⟨k + 1, by omega, by go_num, HN, Lib.hid HI1.out.tail⟩
        case measure => simp [intOf]; omega
    · obtain rfl : k = n := by omega
      have HF := Lib.hid (show pa = k ∧ pb = false by have h1 := HG.out; rw [List.drop_eq_nil_of_le (by rw [Hl.out]; exact Nat.le_refl _)] at h1; exact ⟨by have := h1.1; unfold placeN at this; dsimp only at this; omega, h1.2.symm⟩)
      clear HG
      go_wp2
      go_ret2
      exact ⟨ret_ib (by rw [Hp.out, HF.out.1]) (by rw [Hp.out, HF.out.2]), HI.out.below⟩
end Go.Proofs.Ytblkdmbkkimbpaa
