/-
  Layer 3, frame: may bytes be a body? The program's answer and the document's.
-/
import Derived.Test.YtcfpchcbiknehaaDoorRFrmSum
namespace Go.Proofs.YtcfpchcbiknehaaDoorR
open Go.RowKit

theorem ownFree_take (l : List Fld) (k : Nat) (h : k < l.length) : ownFree (l.take (k + 1)) = (ownFree (l.take k) && !ownT l[k].tag) := by
  unfold ownFree
  rw [List.take_succ_eq_append_getElem h, List.all_append]; simp
theorem ownFree_not {l : List Fld} {k : Nat} (h : k < l.length) (ht : ownT l[k].tag = true) : ownFree l = false := by
  unfold ownFree
  rw [Bool.eq_false_iff]; intro ha
  have := List.all_eq_true.1 ha _ (List.getElem_mem h)
  rw [ht] at this; cases this
theorem resE_none (b : List UInt8) (h : ¬ resE (parseF b) = 0) : resL (parseF b) = [] := by
  unfold resE at h; unfold resL
  cases hp : parseF b with
  | ok l => rw [hp] at h; exact absurd rfl h
  | error e => rfl
theorem resL_len (b : List UInt8) : (resL (parseF b)).length ≤ 100 := by
  unfold resL parseF
  split
  · rename_i l h
    split at h
    · cases h
    · have := (parseL_ok (Nat.le_refl _) (by omega) h).2.2; omega
  · simp
theorem ownT_cases (t : Int) : (ownT t = true ∧ t = 8) ∨ (ownT t = true ∧ t = 9) ∨ (ownT t = true ∧ t = 10) ∨ (ownT t = false ∧ ¬ t = 8 ∧ ¬ t = 9 ∧ ¬ t = 10) := by
  unfold ownT
  by_cases h8 : t = 8
  · subst h8; exact .inl ⟨rfl, rfl⟩
  · by_cases h9 : t = 9
    · subst h9; exact .inr (.inl ⟨rfl, rfl⟩)
    · by_cases h10 : t = 10
      · subst h10; exact .inr (.inr (.inl ⟨rfl, rfl⟩))
      · exact .inr (.inr (.inr ⟨by simp [h8, h9, h10], h8, h9, h10⟩))
set_option maxRecDepth 100000 in
theorem frame_Right (A : Option Addr) (n c : Nat) (bs : List UInt8) (w : World) (h : Sl w A n c 1 (bcells bs)) (hn : bs.length = n) (hl : n ≤ 1000000) (hctx : FCtx w) :
    Calls Tryd.prog 18 #[.slice A n c] w fun e w' => e = .returned (.bool (frmR bs)) ∧ Below w.heap.size w w' := by
  subst hn
  have HS := Lib.hid h
  have hrs := Lib.hid (fun W => frame_rightSize (bs.length : Int) _ rfl W)
  have hp := field_Parse A c bs w h hl hctx
  rw [show ParsePost bs w = fun e w' => ∃ A n c, e = .returned (.tuple #[.slice A n c, .int .i64 (resE (parseF bs))]) ∧ Sl w' A n c 2 (fcells (resL (parseF bs))) ∧ Below w.heap.size w w' ∧ Fm A from rfl] at hp
  have hlen := resL_len bs
  have hnone := resE_none bs
  have hR : Hid (frmR bs = (decide (1 ≤ (bs.length : Int) ∧ (bs.length : Int) ≤ 8000) && (decide (resE (parseF bs) = 0) && ownFree (resL (parseF bs))))) := by
    show _ = _
    unfold frmR
    congr 1
    apply decide_eq_decide.2; omega
  generalize frmR bs = R at *
  generalize resE (parseF bs) = pe at *
  generalize resL (parseF bs) = l at *
  generalize hb : decide (1 ≤ (bs.length : Int) ∧ (bs.length : Int) ≤ 8000) = rb at *
  have Hp := Lib.hid hp; clear hp h hb
  rcases rb with _ | _
  · have HR := Lib.hid (show R = false by rw [hR.out]; rfl)
    clear hR hnone
    go_enter Tryd.func18, Tryd.ntmps18
    go_wp2_with (go_at_call 35; refine (hrs.out _).mono ?_; rintro e w1 ⟨rfl, rfl⟩)
    go_ret
    exact ⟨retB HR.out.symm, Below.refl _ _⟩
  · by_cases he : pe = 0
    · subst he
      have HR := Lib.hid (show R = ownFree l by rw [hR.out]; simp)
      clear hR hnone
      go_enter Tryd.func18, Tryd.ntmps18
      go_wp2_with (go_at_call 35; refine (hrs.out _).mono ?_; rintro e w1 ⟨rfl, rfl⟩)
      refine Hp.out.mono ?_
      rintro e w1 ⟨A1, n1, c1, rfl, hs1, hb1, fm1⟩
      obtain rfl : n1 = l.length := by have := hs1.len; rw [fcells_len] at this; omega
      have Hs1 := Lib.hid hs1; clear hs1
      go_wp2
      go_loopw [20] (fun i wr => ∃ k : Nat, k ≤ l.length ∧ i = .int .i64 k ∧ Hid (ownFree (l.take k) = true) ∧ Below w1.heap.size w1 wr) (fun i _ => l.length - (intOf i).toNat)
      case atStart => exact ⟨0, Nat.zero_le _, rfl, rfl, Below.refl _ _⟩
      case round =>
        obtain ⟨k, hk, rfl, H, hb⟩ := hrel
        by_cases hlt : k < l.length
        · obtain ⟨b, off, rfl, h0, h1⟩ := (Hs1.out.row.on hb).fld hlt
          have hz := hb.size
          have hbl := cell_lt h0
          have Ht := Lib.hid (ownFree_take l k hlt)
          have Hn := Lib.hid (ownFree_not (l := l) hlt)
          generalize l[k].tag = t at *
          generalize l[k].val = s at *
          rcases ownT_cases t with ⟨ho, rfl⟩ | ⟨ho, rfl⟩ | ⟨ho, rfl⟩ | ⟨ho, h8, h9, h10⟩
          · have HF := Lib.hid (Hn.out ho); clear Ht Hn H
            go_wp2
            go_ret
            exact ⟨retB (by rw [HR.out, HF.out]), hb1.trans ((hb.alloc hz _).mono hb1.size)⟩
          · have HF := Lib.hid (Hn.out ho); clear Ht Hn H
            go_wp2
            go_ret
            exact ⟨retB (by rw [HR.out, HF.out]), hb1.trans ((hb.alloc hz _).mono hb1.size)⟩
          · have HF := Lib.hid (Hn.out ho); clear Ht Hn H
            go_wp2
            go_ret
            exact ⟨retB (by rw [HR.out, HF.out]), hb1.trans ((hb.alloc hz _).mono hb1.size)⟩
          · have HT := Lib.hid (show ownFree (l.take (k + 1)) = true by rw [Ht.out, H.out, ho]; rfl)
            clear Ht Hn H
            have e8 : (t == 8) = false := by simpa using h8
            have e9 : (t == 9) = false := by simpa using h9
            have e10 : (t == 10) = false := by simpa using h10
            clear h8 h9 h10
            go_wp2
            go_roundw
            case rel => exact ⟨k + 1, by omega, by go_num, HT, hb.alloc hz _⟩
            case measure => simp [intOf]; omega
        · obtain rfl : k = l.length := by omega
          go_wp2
          go_ret
          have := H.out
          rw [List.take_length] at this
          exact ⟨retB (by rw [HR.out, this]), hb1.trans (hb.mono hb1.size)⟩
    · have HR := Lib.hid (show R = false by rw [hR.out, decide_eq_false he]; rfl)
      have he' : ((pe : Int) == 0) = false := by simpa using he
      clear hR
      go_enter Tryd.func18, Tryd.ntmps18
      go_wp2_with (go_at_call 35; refine (hrs.out _).mono ?_; rintro e w1 ⟨rfl, rfl⟩)
      refine Hp.out.mono ?_
      rintro e w1 ⟨A1, n1, c1, rfl, hs1, hb1, fm1⟩
      go_wp2
      go_ret
      exact ⟨retB HR.out.symm, hb1⟩
end Go.Proofs.YtcfpchcbiknehaaDoorR
