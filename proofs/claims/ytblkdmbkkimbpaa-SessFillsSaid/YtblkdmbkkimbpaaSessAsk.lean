/-
  Layer 7: the program's own way: what it asks: its contract.
-/
import Derived.Test.YtblkdmbkkimbpaaSessSkip
import Derived.Test.YtblkdmbkkimbpaaReseqSame
import Derived.Lib.MinMax
namespace Go.Proofs.Ytblkdmbkkimbpaa
open Go.RowKit

theorem line_at {W : World} {w : World} {g : Nat} {s : Ses} {A : Option Addr} {n c : Nat} {now : Int} {u v : Value} {L : List Mg} (h : TI w g s A n c now u v L W) : W.rangeAt g 1 [.int .i64 s.ln.next, .slice A n c] := fun j z hz => by
  rw [h.cell]
  rcases j with _ | _ | j
  · simp at hz; subst hz; rfl
  · simp at hz; subst hz; rfl
  · simp at hz
theorem gapR_nil {l : Ln} (h : l.held = []) : gapR l = (0, 0, false) := by
  unfold gapR
  rw [h]
  rcases l.rightB with _ | _ <;> rfl
theorem gapR_cons {l : Ln} (hr : l.rightB = true) {y : Itm} {r : List Itm} (h : l.held = y :: r) : gapR l = (l.next, y.fr - 1, true) := by
  unfold gapR
  rw [h, hr]
set_option maxRecDepth 100000 in
set_option maxHeartbeats 2000000 in
theorem own_ask (w : World) (g : Nat) (s : Ses) (A : Option Addr) (n c : Nat) (now : Int) (v : Value) (L : List Mg) (W : World) (hT : TI w g s A n c now v v L W) (hl : L.length ≤ 1000) (hR : s.R) (hst : s.st = 2) :
    Calls Try.prog 21 #[.pointer (some ⟨g, 0, none⟩)] W (TkPost7 w g (askS s now) A n c now v L W) := by
  have HG := Lib.hid (own_Gap s.ln.next A n c s.ln.held hT.hn W hT.sl)
  have hra := line_at hT
  have HT := Lib.hid hT
  have ho := hR.out
  have hk := right_next hR.ln
  have hlnr := hR.ln
  clear hT hR
  by_cases h0 : s.ln.held = []
  · have HF := Lib.hid (show askS s now = (s, []) from by unfold askS; rw [h0])
    rw [show (⟨s.ln.next, s.ln.held⟩ : Ln) = s.ln from rfl, gapR_nil h0] at HG
    clear h0 hst hlnr
    go_enter Try.func21, Try.ntmps21
    go_wp2_with (first | (refine wpList_load_mid rfl 27 (.tmp 9) rfl g 1 rfl [.int .i64 s.ln.next, .slice A n c] _ hra Try.underlying27 rfl infoL ?_) | (go_at_call 32; refine HG.out.mono ?_; rintro e w2 ⟨rfl, hb2⟩; have HT2 := Lib.hid (HT.out.on hb2); have HK2 := Lib.hid (Kept.of (g := g) (v := v) hb2); clear hb2))
    refine bodyPost_ret (results_none Try.results21 _ _ _) rfl ?_
    refine ⟨⟨_, rfl⟩, v, ?_, HK2.out⟩
    rw [HF.out, List.append_nil]
    exact HT2.out
  · obtain ⟨y, r, hyr⟩ : ∃ y r, s.ln.held = y :: r := by
      cases hh : s.ln.held with
      | nil => exact absurd hh h0
      | cons y r => exact ⟨y, r, rfl⟩
    have hy := right_head hlnr hyr
    rw [show (⟨s.ln.next, s.ln.held⟩ : Ln) = s.ln from rfl, gapR_cons hlnr hyr] at HG
    dsimp only at HG
    clear h0
    by_cases ha : s.ln.next ≤ s.asked
    · have HF := Lib.hid (show askS s now = (s, []) from by unfold askS; rw [hyr]; exact if_pos (.inr ha))
      have hab : decide (s.ln.next ≤ s.asked) = true := decide_eq_true ha
      clear ha hst hlnr hyr
      go_enter Try.func21, Try.ntmps21
      go_wp2_with (first | (refine wpList_load_mid rfl 27 (.tmp 9) rfl g 1 rfl [.int .i64 s.ln.next, .slice A n c] _ hra Try.underlying27 rfl infoL ?_) | (go_at_call 32; refine HG.out.mono ?_; rintro e w2 ⟨rfl, hb2⟩; have HT2 := Lib.hid (HT.out.on hb2); have HK2 := Lib.hid (Kept.of (g := g) (v := v) hb2); have c7 := (HT2.out.cell 7).trans (show _ = some (Value.int .i64 s.asked) from rfl); clear hb2))
      refine bodyPost_ret (results_none Try.results21 _ _ _) rfl ?_
      refine ⟨⟨_, rfl⟩, v, ?_, HK2.out⟩
      rw [HF.out, List.append_nil]
      exact HT2.out
    · obtain ⟨b, hb⟩ : ∃ b : Int, b = min (y.fr - 1) (s.ln.next + 9) := ⟨_, rfl⟩
      have HF := Lib.hid (show askS s now = ({ (sayS s (resendM s.ln.next b) now).1 with asked := b, at_ := now }, (sayS s (resendM s.ln.next b) now).2) from by subst hb; unfold askS; rw [hyr]; exact if_neg (fun hc => hc.elim (fun h => h hst) ha))
      have hab : decide (s.ln.next ≤ s.asked) = false := decide_eq_false ha
      have hw1 : IntKind.i64.wrap (s.ln.next + 10) = s.ln.next + 10 := by rw [IntKind.wrap_i64]; omega
      have hw2 : IntKind.i64.wrap (s.ln.next + 10 - 1) = s.ln.next + 9 := by rw [IntKind.wrap_i64]; omega
      have HSa := Lib.hid (fun (V : World) (h : TI w g s A n c now v v L V) => own_say w g s A n c now v L V (resendM s.ln.next b) h hl ho)
      have hln1 : (sayS s (resendM s.ln.next b) now).1.ln = s.ln := by unfold sayS; split <;> rfl
      generalize sayS s (resendM s.ln.next b) now = q at *
      have HLn := Lib.hid hln1
      clear ha hst hlnr hyr hln1
      generalize y.fr - 1 = yf at *
      go_enter Try.func21, Try.ntmps21
      go_upto_region 3 with (first | (refine wpList_load_mid rfl 27 (.tmp 9) rfl g 1 rfl [.int .i64 s.ln.next, .slice A n c] _ hra Try.underlying27 rfl infoL ?_) | (go_at_call 32; refine HG.out.mono ?_; rintro e w2 ⟨rfl, hb2⟩; have HT2 := Lib.hid (HT.out.on hb2); have HK2 := Lib.hid (Kept.of (g := g) (v := v) hb2); have c7 := (HT2.out.cell 7).trans (show _ = some (Value.int .i64 s.asked) from rfl); clear hb2))
      rw [← hb]
      clear hb
      go_upto_region 4 with (first | (go_at_call 16; refine (HSa.out _ HT2.out).mono ?_; rintro e w3 ⟨⟨x3, rfl⟩, v', hT3, hK3⟩; have HT3 := Lib.hid hT3; have HK3 := Lib.hid (HK2.out.trans hK3); have c10 := (hT3.cell 10).trans (show _ = some (Value.int .i64 now) from rfl); clear hT3 hK3))
      go_wp2_with (first | (refine ti_put1 rfl 2 (.tmp 45) (.tmp 38) rfl 7 (.int .i64 b) { q.1 with asked := b } now v' rfl rfl rfl HT3.out (by decide) (by kernel_rfl) rfl rfl ?_; intro w4 hT4 hK4; have HT4 := Lib.hid hT4; have HK4 := Lib.hid (HK3.out.trans (hK4 v)); clear hT4 hK4) | (refine ti_put1 rfl 2 (.tmp 48) (.tmp 42) rfl 8 (.int .i64 now) { q.1 with asked := b, at_ := now } now v' rfl rfl rfl HT4.out (by decide) (by kernel_rfl) rfl rfl ?_; intro w5 hT5 hK5; have HT5 := Lib.hid hT5; have HK5 := Lib.hid (HK4.out.trans (hK5 v)); clear hT5 hK5))
      refine bodyPost_ret (results_none Try.results21 _ _ _) rfl ?_
      refine ⟨⟨_, rfl⟩, v', ?_, HK5.out⟩
      rw [HF.out]
      exact HT5.out
end Go.Proofs.Ytblkdmbkkimbpaa
