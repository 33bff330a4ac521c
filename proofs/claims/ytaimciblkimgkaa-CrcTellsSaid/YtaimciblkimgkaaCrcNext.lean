/-
  Layer 8: the program's own Next: its contract.
-/
import Derived.Test.YtaimciblkimgkaaCrcPut
import Derived.Test.YtaimciblkimgkaaCrcRefNext
import Derived.Deep.RegionHeld3
import Derived.Deep.CutBlock
namespace Go.Proofs.Ytaimciblkimgkaa
open Go.RowKit

def ONextPost8 (b : List UInt8) (w : World) (e : Ending) (w' : World) : Prop :=
  ∃ A m c, e = .returned (.tuple #[.slice A m c, .int .i64 ((nextC b).2.1 : Nat), .int .i64 (nextC b).2.2]) ∧ El w' A m c (nextC b).1 ∧ Below w.heap.size w w'
theorem onext_bad {b : List UInt8} {W : World} {e : Int} (h : nextC b = ([], 0, e)) (W' : World) (hb : Below W.heap.size W W') : ONextPost8 b W (.returned (.tuple #[.slice none 0 0, .int .i64 0, .int .i64 e])) W' :=
  ⟨none, 0, 0, by rw [h]; rfl, by rw [h]; exact El.none_ _, hb⟩
theorem onext_good {b r : List UInt8} {k m c : Nat} {W : World} {A : Option Addr} (h : nextC b = (r, k, 0)) (W' : World) (hs : El W' A m c r) (v : Int) (hv : v = (k : Int)) (hb : Below W.heap.size W W') : ONextPost8 b W (.returned (.tuple #[.slice A m c, .int .i64 v, .int .i64 0])) W' :=
  ⟨A, m, c, by rw [h, hv], by rw [h]; exact hs, hb⟩
theorem joined2 (A A' : Option Addr) (n n' c c' : Nat) (l l' : List UInt8) : joined [⟨A, n, c, l⟩, ⟨A', n', c', l'⟩] = l ++ l' := by simp [joined]
theorem numB_two (x y : UInt8) : numB [x, y] = x.toNat * 256 + y.toNat := by simp [numB]
theorem numB_be4 {l : List UInt8} (hl : l.length = 4) {s : Nat} (hs : s < 4294967296) : numB l = s ↔ l = be4 s := by
  match l, hl with
  | [a, b, c, d], _ =>
    have ha := a.toNat_lt
    have hb := b.toNat_lt
    have hc := c.toNat_lt
    have hd := d.toNat_lt
    have e : numB [a, b, c, d] = ((a.toNat * 256 + b.toNat) * 256 + c.toNat) * 256 + d.toNat := by simp [numB]
    rw [e]
    unfold be4
    constructor
    · intro h
      have e1 : s / 16777216 = a.toNat := by omega
      have e2 : s / 65536 % 256 = b.toNat := by omega
      have e3 : s / 256 % 256 = c.toNat := by omega
      have e4 : s % 256 = d.toNat := by omega
      rw [e1, e2, e3, e4]
      simp
    · intro h
      simp only [List.cons.injEq, and_true] at h
      obtain ⟨h1, h2, h3, h4⟩ := h
      have k1 := congrArg UInt8.toNat h1
      have k2 := congrArg UInt8.toNat h2
      have k3 := congrArg UInt8.toNat h3
      have k4 := congrArg UInt8.toNat h4
      rw [u8_nat (by omega)] at k1 k2 k3 k4
      omega
set_option maxRecDepth 100000 in
set_option maxHeartbeats 1000000 in
theorem own_Next8 (A : Option Addr) (n c : Nat) (b : List UInt8) (hl : b.length = n) (W : World) (h : Sl W A n c 1 (bcells b)) (hn : n ≤ 1000000) :
    Calls Try.prog 10 #[.slice A n c] W (ONextPost8 b W) := by
  have HS := Lib.hid h
  have hle := h.le
  have hcm := h.cap
  unfold maxLen at hcm
  by_cases h6 : n < 6
  · have HP := Lib.hid (onext_bad (W := W) (show nextC b = ([], 0, 2) from if_pos (by omega)))
    have h6i : (n : Int) < 6 := by omega
    clear hl h
    go_enter Try.func10, Try.ntmps10
    go_wp2
    go_ret3
    exact HP.out _ (Below.refl _ _)
  · obtain ⟨x, y, t, rfl⟩ : ∃ x y t, b = x :: y :: t := by
      rcases b with _ | ⟨x, _ | ⟨y, t⟩⟩
      · simp at hl; omega
      · simp at hl; omega
      · exact ⟨x, y, t, rfl⟩
    obtain ⟨g, off, rfl, _⟩ := h.row.byte (k := 0) (by simp)
    obtain ⟨L, hL⟩ : ∃ L : Nat, x.toNat * 256 + y.toNat = L := ⟨_, rfl⟩
    have hx := x.toNat_lt
    have hy := y.toNat_lt
    have hL1 : L < 65536 := by omega
    have h6i : ¬ (n : Int) < 6 := by omega
    have hc2 : ¬ (c : Int) < 2 := by omega
    have hlt : t.length + 2 = n := by simpa using hl
    have Hnum := Lib.hid (own_number (some ⟨g, off, none⟩) 2 c [x, y] rfl (by decide) W (sl_front h 2 (by omega)))
    rw [numB_two, hL] at Hnum
    have Hr := Lib.hid (own_rightSize L (by omega))
    clear h
    by_cases hz : L = 0 ∨ 4096 < L
    · have HP := Lib.hid (onext_bad (W := W) (show nextC (x :: y :: t) = ([], 0, 3) from by unfold nextC; rw [hl, if_neg h6]; exact if_pos (by rw [show lenC (x :: y :: t) = L from hL]; exact hz)))
      have HO := Lib.hid (show sizeOk L = false from decide_eq_false (by omega))
      clear hL hz
      go_enter Try.func10, Try.ntmps10
      go_wp2_with fail
      refine Hnum.out.mono ?_
      rintro e w1 ⟨rfl, hw⟩
      subst w1
      go_wp2_with fail
      refine (Hr.out _).mono ?_
      rintro e w1 ⟨rfl, hw⟩
      subst w1
      rw [HO.out]
      go_wp2
      go_ret3
      exact HP.out _ (Below.refl _ _)
    · have HO := Lib.hid (show sizeOk L = true from decide_eq_true (by omega))
      by_cases hs : n < 6 + L
      · have HP := Lib.hid (onext_bad (W := W) (show nextC (x :: y :: t) = ([], 0, 2) from by unfold nextC; rw [hl, if_neg h6, show lenC (x :: y :: t) = L from hL, if_neg hz]; exact if_pos hs))
        have hsi : (n : Int) < 6 + (L : Int) := by omega
        clear hL hz
        go_enter Try.func10, Try.ntmps10
        go_wp2_with fail
        refine Hnum.out.mono ?_
        rintro e w1 ⟨rfl, hw⟩
        subst w1
        go_wp2_with fail
        refine (Hr.out _).mono ?_
        rintro e w1 ⟨rfl, hw⟩
        subst w1
        rw [HO.out]
        go_wp2
        go_ret3
        exact HP.out _ (Below.refl _ _)
      · have hsi : ¬ (n : Int) < 6 + (L : Int) := by omega
        have hcL : ¬ (c : Int) < 6 + (L : Int) := by omega
        have hc6 : ¬ (c : Int) < 6 := by omega
        have hc2n : ¬ c = 2 := by omega
        have hc6n : ¬ c = 6 := by omega
        have hL2 : 1 ≤ L ∧ L ≤ 4096 := by omega
        have HN := Lib.hid (show nextC (x :: y :: t) = if t.take 4 = be4 (sumC ([x, y] ++ (t.drop 4).take L)) then ((t.drop 4).take L, 6 + L, 0) else ([], 0, 11) from by unfold nextC; rw [hl, if_neg h6, show lenC (x :: y :: t) = L from hL, if_neg hz, if_neg hs]; rfl)
        have hr : Sl W (some ⟨g, off + 6, none⟩) L (c - 6) 1 (bcells ((t.drop 4).take L)) := sl_part HS.out 6 L (by omega)
        have h4 : Sl W (some ⟨g, off + 2, none⟩) 4 (c - 2) 1 (bcells (t.take 4)) := sl_part HS.out 2 4 (by omega)
        have h2 : Sl W (some ⟨g, off, none⟩) 2 c 1 (bcells [x, y]) := sl_front HS.out 2 (by omega)
        have Hr6 := Lib.hid hr
        have H4 := Lib.hid (fun (V : World) (hb : Below W.heap.size W V) => own_number _ 4 _ _ (by rw [List.length_take]; omega) (by decide) V (h4.on hb))
        have Hsm := Lib.hid (fun (V : World) (hb : Below W.heap.size W V) => (own_sumOf V.heap.size 0 2 [⟨some ⟨g, off, none⟩, 2, c, [x, y]⟩, ⟨some ⟨g, off + 6, none⟩, L, c - 6, (t.drop 4).take L⟩] (V.alloc (.cells #[.slice (some ⟨g, off, none⟩) 2 c, .slice (some ⟨g, off + 6, none⟩) L (c - 6)] 22))
          (.cons (h2.on (hb.alloc hb.size _)) (.cons (Hr6.out.on (hb.alloc hb.size _)) (Pts.nil _))) (parts_row rfl) rfl (by decide) (.cons (by decide) (.cons (by omega) .nil))).mono fun e w' ⟨he, hbw⟩ =>
          (show e = Ending.returned (.int .u32 (sumC ([x, y] ++ (t.drop 4).take L) : Nat)) ∧ Below W.heap.size W w' from ⟨by rw [he, joined2], (hb.alloc hb.size _).trans (hbw.mono (hb.alloc hb.size _).size)⟩))
        have Hiff := Lib.hid (numB_be4 (l := t.take 4) (by rw [List.length_take]; omega) (sumC_lt ([x, y] ++ (t.drop 4).take L)))
        clear hL hz hr h4 h2
        go_enter Try.func10, Try.ntmps10
        go_wp2_with fail
        refine Hnum.out.mono ?_
        rintro e w1 ⟨rfl, hw⟩
        subst w1
        go_wp2_with fail
        refine (Hr.out _).mono ?_
        rintro e w1 ⟨rfl, hw⟩
        subst w1
        rw [HO.out]
        go_wp2_with fail
        clear hle hcm h6 hs
        generalize ([x, y] ++ (t.drop 4).take L) = Z at *
        have hBd : Below W.heap.size W W.drew := (Below.refl _ _).drew
        have hN1 := Lib.hid (H4.out W.drew hBd)
        have hN2 := Lib.hid (H4.out (W.drew.alloc (.cells #[.slice (some ⟨g, off, none⟩) 2 c, .slice (some ⟨g, off + 6, none⟩) L (c - 6)] 22)) (hBd.alloc hBd.size _))
        have hS1 := Lib.hid (Hsm.out W.drew hBd)
        clear H4 Hsm hBd
        go_region_held3 (fun _ => True) (exact trivial) (first | (go_at_call 20; refine hN1.out.mono ?_; rintro e w' ⟨he, hww⟩; subst he; cases hww) | (go_at_call 20; refine hN2.out.mono ?_; rintro e w' ⟨he, hww⟩; subst he; cases hww) | (go_at_call 18; refine hS1.out.mono ?_; rintro e w' ⟨rfl, hbb⟩))
        all_goals
          have hrL : ((t.drop 4).take L).length = L := by have := Hr6.out.len; rw [bcells_len] at this; omega
          by_cases heq : t.take 4 = be4 (sumC Z)
          · have HG := Lib.hid (fun W' A m c hs v hv hb => onext_good (A := A) (m := m) (c := c) (W := W) (HN.out.trans (if_pos heq)) W' hs v hv hb)
            have he := Hiff.out.2 heq
            have Hcl := Lib.hid (cloneAny _ L (c - 6) _ w' (Hr6.out.on hbb) (by omega))
            clear HN heq Hiff hN1 hN2 hS1
            rw [he]
            generalize sumC Z = s at *
            have hsb : ((s : Int) != (s : Int)) = false := by simp
            go_wp2_with fail
            refine Hcl.out.mono ?_
            rintro e w5 ⟨C, q, rfl, hel, hb5⟩
            go_wp2
            go_ret3
            exact HG.out _ _ _ _ hel _ (by omega) (hbb.trans (hb5.mono hbb.size))
          · have HG := Lib.hid (onext_bad (W := W) (HN.out.trans (if_neg heq)))
            have hne : ((numB (t.take 4) : Int) != (sumC Z : Int)) = true := by rw [bne_iff_ne]; exact fun h => heq (Hiff.out.1 (Int.ofNat.inj h))
            clear HN heq Hiff hN1 hN2 hS1
            go_wp2
            go_ret3
            exact HG.out _ hbb
end Go.Proofs.Ytaimciblkimgkaa
