/-
  Layer 4's laws: the walk of FeedCounts.
-/
import Derived.Test.YtacaipnjedfdoaaDoorLaw04
namespace Go.Proofs.YtacaipnjedfdoaaDoor
open Go.RowKit

def wireN (ls : List (List UInt8)) : Nat := (ls.map fun x => (frmB x).length).sum
theorem wireN_take (ls : List (List UInt8)) (k : Nat) (h : k < ls.length) : wireN (ls.take (k + 1)) = wireN (ls.take k) + (frmB ls[k]).length := by
  unfold wireN
  rw [List.take_succ_eq_append_getElem h, List.map_append, List.sum_append]; simp
theorem wireN_le (ls : List (List UInt8)) (k : Nat) : wireN (ls.take k) ≤ wireN ls := by
  have : wireN ls = wireN (ls.take k) + wireN (ls.drop k) := by
    unfold wireN
    rw [← List.sum_append, ← List.map_append, List.take_append_drop]
  omega
set_option maxRecDepth 100000 in
set_option maxHeartbeats 2000000 in
theorem walk_FeedCounts (A : Option Addr) (n c : Nat) (l : List UInt8) (hn : l.length = n) (A' : Option Addr) (n' c' : Nat) (l' : List UInt8) (hn' : l'.length = n') (w : World) (h : Sl w A n c 1 (bcells l)) (h' : Sl w A' n' c' 1 (bcells l')) (hctx : FCtx w) :
    Calls Tryd.prog 4 #[.slice A n c, .slice A' n' c'] w fun e w' => e = .returned (.bool true) ∧ Below w.heap.size w w' := by
  have hcm := h.cap
  have hnc := h.le
  have hcm' := h'.cap
  have hnc' := h'.le
  unfold maxLen at hcm hcm'
  have HS := Lib.hid h
  have HS' := Lib.hid h'
  clear h h'
  by_cases hbig : 3000 < n ∨ 3000 < n'
  · rcases (show 3000 < n ∨ (¬ 3000 < n ∧ 3000 < n') by omega) with h | ⟨h1, h⟩
    all_goals
      clear hbig
      go_enter Tryd.func4, Tryd.ntmps4
      go_wp2_with fail
      refine (awake04 w hctx).mono ?_
      rintro e w1 ⟨rfl, hb1⟩
      go_wp2
      go_ret
      exact ⟨rfl, hb1⟩
  · have hs1 : ¬ 3000 < n := by omega
    have hs2 : ¬ 3000 < n' := by omega
    clear hbig
    obtain ⟨q1, q2, q3⟩ := feed_lens (l ++ l')
    obtain ⟨q4, q5⟩ := feed_counts (l ++ l').length (l ++ l') (Nat.le_refl _)
    have q6 := feed_kept_short (l ++ l')
    have q7 := feed_need (feed_kept (l ++ l').length (l ++ l') (Nat.le_refl _))
    rw [List.length_append] at q1 q2 q3 q5
    go_enter Tryd.func4, Tryd.ntmps4
    go_wp2_with fail
    refine (awake04 w hctx).mono ?_
    rintro e w1 ⟨rfl, hb1⟩
    have H1 := Lib.hid (in_fine feed_In (HS.out.on hb1) hn (HS'.out.on hb1) hn' (by omega) (by omega) (hctx.on hb1) (l ++ l') rfl)
    rw [show InFine (l ++ l') w1 = fun e w' => ∃ A c B d, e = .returned (.tuple #[.slice A (feed (l ++ l')).2.2.length c, .slice B (feed (l ++ l')).1.length d, .int .i64 ((feed (l ++ l')).2.1 : Nat), .int .i64 0]) ∧ Sl w' A (feed (l ++ l')).2.2.length c 1 (bcells (feed (l ++ l')).2.2) ∧ SlL w' B (feed (l ++ l')).1.length d (feed (l ++ l')).1 ∧ Below w1.heap.size w1 w' from rfl] at H1
    generalize (feed (l ++ l')).2.2 = t2 at *
    generalize (feed (l ++ l')).2.1 = t1 at *
    generalize (feed (l ++ l')).1 = t0 at *
    have Q4 := Lib.hid (List.all_eq_true.1 q4)
    have Q5 := Lib.hid (show t1 + t2.length + wireN t0 = n + n' by unfold wireN; omega)
    have Q7 := Lib.hid q7
    clear q4 q5 q7 HS HS'
    go_wp2_with fail
    refine H1.out.mono ?_
    rintro e w2 ⟨A2, c2, B2, d2, rfl, hs2', hl2, hb2⟩
    have hB2 : Below w.heap.size w w2 := hb1.trans (hb2.mono hb1.size)
    have HK := Lib.hid hs2'
    have HL := Lib.hid hl2
    clear H1 hs2' hl2
    go_wp2_with fail
    go_loopw [9, 10] (fun s9 s10 wr => ∃ k sm : Nat, s10 = .int .i64 (k : Nat) ∧ s9 = .int .i64 (sm : Nat) ∧ k ≤ t0.length ∧ sm ≤ 6000 ∧ Hid (sm = t1 + t2.length + wireN (t0.take k)) ∧ Below w2.heap.size w2 wr) (fun _ s10 _ => t0.length - (intOf s10).toNat)
    case atStart => exact ⟨0, t1 + t2.length, rfl, by go_num, Nat.zero_le _, by have := Q5.out; omega, Lib.hid (by simp [wireN]), Below.refl _ _⟩
    case round =>
      obtain ⟨k, sm, rfl, rfl, hk, hsm, Hk, hb⟩ := hrel
      have hB : Below w.heap.size w wr := hB2.trans (hb.mono hB2.size)
      by_cases hlt : k < t0.length
      · obtain ⟨b, off, rfl, B, m, d, hc, he⟩ := (HL.out.on hb).get hlt
        have hR := Q4.out _ (List.getElem_mem hlt)
        have hm : (t0[k]).length = m := by have := he.sl.len; rw [bcells_len] at this; omega
        have hp := frame_Put B m d t0[k] wr he.sl hm (by have := frmR_len hR; omega) (hctx.on hB)
        obtain ⟨e1, e2⟩ := frmE_ok hR
        rw [show FPutPost t0[k] wr = fun e w' => ∃ v, e = .returned (.tuple #[v, .int .i64 0]) ∧ Moz w' wr.heap.size v (frmB t0[k]).length (bcells (frmB t0[k])) ∧ Below wr.heap.size wr w' from by
          funext e w'; unfold FPutPost; rw [e1, e2]] at hp
        have Hp := Lib.hid hp
        have hle := wireN_le t0 (k + 1)
        have ht := wireN_take t0 k hlt
        have hsm2 : sm + (frmB t0[k]).length ≤ 6000 := by have := Q5.out; have := Hk.out; omega
        have Hk2 := Lib.hid (show sm + (frmB t0[k]).length = t1 + t2.length + wireN (t0.take (k + 1)) by have := Hk.out; omega)
        clear hp he hR e1 e2 hle ht Hk
        generalize (frmB t0[k]).length = fl at *
        generalize bcells (frmB t0[k]) = fc at *
        have hki : (0 : Int) ≤ (k : Int) := by omega
        have hkl : (k : Int) < (t0.length : Int) := by omega
        go_wp2_with fail
        refine Hp.out.mono ?_
        rintro e w3 ⟨v, rfl, hmo, hb3⟩
        obtain ⟨A3, c3, rfl, _, _⟩ := hmo.sl
        have hb3' : Below w2.heap.size w2 w3 := hb.trans (hb3.mono hb.size)
        clear Hp hmo
        go_wp2
        go_roundw
        case rel => exact ⟨k + 1, sm + fl, by go_num, by go_num, by omega, hsm2, Hk2, hb3'⟩
        case measure => simp [intOf]; omega
      · obtain rfl : k = t0.length := by omega
        have hfin : sm = n + n' := by have := Hk.out; rw [List.take_length] at this; have := Q5.out; omega
        have H2 := Lib.hid (in_fine feed_In (HK.out.on hb) rfl (pb := []) (n' := 0) (c' := 0) (A' := none) (Sl.none_ wr 1) rfl (by omega) (by omega) (hctx.on hB) t2 (List.append_nil _))
        rw [show InFine t2 wr = fun e w' => ∃ A c B d, e = .returned (.tuple #[.slice A t2.length c, .slice B 0 d, .int .i64 0, .int .i64 0]) ∧ Sl w' A t2.length c 1 (bcells t2) ∧ SlL w' B 0 d [] ∧ Below wr.heap.size wr w' from by
          funext e w'; unfold InFine; rw [Q7.out]; rfl] at H2
        go_wp2_with fail
        refine H2.out.mono ?_
        rintro e w3 ⟨A3, c3, B3, d3, rfl, hs3, _, hb3⟩
        have hB3 : Below w.heap.size w w3 := hB.trans (hb3.mono hB.size)
        have k1 := conv_sl hs3
        have k2 := conv_sl ((HK.out.on hb).on hb3)
        subst hfin
        clear H2 hs3 HK Hk
        go_wp2
        go_ret
        exact ⟨rfl, hB3⟩
end Go.Proofs.YtacaipnjedfdoaaDoor
