/-
  Layer 3's laws: the walk of FrameGoes.
-/
import Derived.Test.YtidmgolahdkmlaaDoorLaw03
import Derived.Test.YtidmgolahdkmlaaDoorFieldOpen
namespace Go.Proofs.YtidmgolahdkmlaaDoor
open Go.RowKit

set_option maxRecDepth 100000 in
set_option maxHeartbeats 2000000 in
theorem walk_FrameGoes (A : Option Addr) (n c : Nat) (l : List UInt8) (hn : l.length = n) (w : World) (h : Sl w A n c 1 (bcells l)) (hctx : FCtx w) :
    Calls Tryd.prog 6 #[.slice A n c] w fun e w' => e = .returned (.bool true) ∧ Below w.heap.size w w' := by
  have hcm := h.cap
  have hnc := h.le
  unfold maxLen at hcm
  obtain ⟨ka, hka⟩ : ∃ k, k = min n 3000 := ⟨_, rfl⟩
  have hma : min (n : Int) 3000 = (ka : Int) := by omega
  have ka1 : ka ≤ n := by omega
  have ka2 : ka ≤ 3000 := by omega
  have hf := h.front ka ka1
  rw [bcells_take] at hf
  have HF := Lib.hid hf
  have hll : (l.take ka).length = ka := by rw [List.length_take]; omega
  clear hka h hf hn
  generalize l.take ka = l0 at *
  go_enter Tryd.func6, Tryd.ntmps6
  go_wp2_with fail
  refine (awake03 w hctx).mono ?_
  rintro e w1 ⟨rfl, hb1⟩
  go_wp2_with fail
  go_loopw [0, 4] (fun s i wr => ∃ (A' : Option Addr) (c' : Nat) (rem : List UInt8) (k : Nat), s = .slice A' rem.length c' ∧ i = .int .i64 k ∧ Hid (Sl w A' rem.length c' 1 (bcells rem)) ∧ rem.length + k ≤ ka ∧ c' ≤ 9223372036854775807 ∧ rem.length ≤ c' ∧ Below w.heap.size w wr) (fun _ i _ => 3001 - (intOf i).toNat)
  case atStart => exact ⟨A, c, l0, 0, by rw [hll], rfl, by rw [hll]; exact HF, by omega, hcm, by omega, hb1⟩
  case round =>
    obtain ⟨A', c', rem, k, rfl, rfl, HSr, hrk, hc', hle', hb⟩ := hrel
    have hnx := frame_Next A' rem.length c' rem wr (HSr.out.on hb) rfl (by omega) (hctx.on hb)
    have hki : (k : Int) ≤ (ka : Int) := by omega
    clear hma HF
    rcases nxt_sound rem with hx | ⟨hx, hN1, hN2⟩ | ⟨x, N, hx, hE, hV, hN1, hN2, hxN⟩
    · rw [show NextPost rem wr = fun e w' => ∃ A n c, e = .returned (.tuple #[.int .i64 0, .slice A n c, .int .i64 0]) ∧ Sl w' A n c 1 [] ∧ Below wr.heap.size wr w' ∧ Fm A from by
        funext e w'; unfold NextPost; rw [hx]; rfl] at hnx
      clear hx
      go_wp2_with fail
      refine hnx.mono ?_
      rintro e w2 ⟨A2, n2, c2, rfl, hs2, hb2, _⟩
      obtain rfl : n2 = 0 := by have := hs2.len; simp at this; omega
      have hB2 : Below w.heap.size w w2 := hb.trans (hb2.mono hb.size)
      clear hnx hs2
      go_wp2
      go_ret
      exact ⟨rfl, hB2⟩
    · obtain ⟨b, off, rfl⟩ : ∃ b off, A' = some ⟨b, off, none⟩ := by
        rcases HSr.out.row with h' | ⟨b, off, e, _⟩
        · have := congrArg List.length h'; rw [bcells_len, List.length_nil] at this; omega
        · exact ⟨b, off, e⟩
      rw [show NextPost rem wr = fun e w' => ∃ A n c, e = .returned (.tuple #[.int .i64 2, .slice A n c, .int .i64 (junkN rem : Nat)]) ∧ Sl w' A n c 1 [] ∧ Below wr.heap.size wr w' ∧ Fm A from by
        funext e w'; unfold NextPost; rw [hx]; rfl] at hnx
      clear hx
      generalize junkN rem = N at *
      have hN0 : ((N : Int) == 0) = false := by rw [beq_eq_false_iff_ne]; omega
      have hN3 : ¬ ((rem.length : Int) < (N : Int)) := by omega
      go_wp2_with fail
      refine hnx.mono ?_
      rintro e w2 ⟨A2, n2, c2, rfl, hs2, hb2, _⟩
      obtain rfl : n2 = 0 := by have := hs2.len; simp at this; omega
      have hBN : Below w.heap.size w w2 := hb.trans (hb2.mono hb.size)
      clear hnx hs2
      have hdl : (rem.drop N).length = rem.length - N := List.length_drop
      by_cases hcN : c' = N
      · obtain rfl : rem.length = N := by omega
        subst hcN
        have hsN := HSr.out.cut rem.length (Nat.le_refl _)
        rw [if_pos rfl, bcells_drop, Nat.sub_self] at hsN
        have HsN := Lib.hid hsN
        clear hsN
        go_wp2
        go_roundw
        case rel => exact ⟨some ⟨b, off, none⟩, 0, rem.drop rem.length, k + 1, by rw [hdl, Nat.sub_self], by go_num, by rw [hdl, Nat.sub_self]; exact HsN, by rw [hdl]; omega, by omega, by rw [hdl]; omega, by go_grown⟩
        case measure => simp [intOf]; omega
      · have hsN := HSr.out.cut N hN2
        rw [if_neg hcN, Option.map_some, addr_at, bcells_drop] at hsN
        have HsN := Lib.hid hsN
        clear hsN
        go_wp2
        go_roundw
        case rel => exact ⟨some ⟨b, off + N, none⟩, c' - N, rem.drop N, k + 1, by rw [hdl], by go_num, by rw [hdl]; exact HsN, by rw [hdl]; omega, by omega, by rw [hdl]; omega, hBN⟩
        case measure => simp [intOf]; omega
    · obtain ⟨b, off, rfl⟩ : ∃ b off, A' = some ⟨b, off, none⟩ := by
        rcases HSr.out.row with h' | ⟨b, off, e, _⟩
        · have := congrArg List.length h'; rw [bcells_len, List.length_nil] at this; omega
        · exact ⟨b, off, e⟩
      rw [show NextPost rem wr = fun e w' => ∃ A n c, e = .returned (.tuple #[.int .i64 1, .slice A n c, .int .i64 (N : Nat)]) ∧ Sl w' A n c 1 (bcells x) ∧ Below wr.heap.size wr w' ∧ Fm A from by
        funext e w'; unfold NextPost; rw [hx]] at hnx
      clear hx
      have hN0 : ((N : Int) == 0) = false := by rw [beq_eq_false_iff_ne]; omega
      have hN3 : ¬ ((rem.length : Int) < (N : Int)) := by omega
      go_wp2_with fail
      refine hnx.mono ?_
      rintro e w2 ⟨A2, n2, c2, rfl, hs2, hb2, _⟩
      obtain rfl : n2 = x.length := by have := hs2.len; rw [bcells_len] at this; omega
      have hB2 : Below w.heap.size w w2 := hb.trans (hb2.mono hb.size)
      have hput := frame_Put A2 x.length c2 x w2 hs2 rfl (by omega) (hctx.on hB2)
      rw [show FPutPost x w2 = fun e w' => ∃ f, e = .returned (.tuple #[f, .int .i64 0]) ∧ Moz w' w2.heap.size f (rem.take N).length (bcells (rem.take N)) ∧ Below w2.heap.size w2 w' from by
        funext e w'; unfold FPutPost; rw [hE, hV]] at hput
      have hVl : (rem.take N).length = N := by rw [List.length_take]; omega
      rw [hVl] at hput
      have hN4 : (0 : Int) ≤ (N : Int) := by omega
      have hN5 : (N : Int) ≤ (c' : Int) := by omega
      clear hnx hs2 hE hV
      go_wp2_with fail
      refine hput.mono ?_
      rintro e w3 ⟨f, rfl, hmo, hb3⟩
      have hB3 : Below w.heap.size w w3 := hB2.trans (hb3.mono hB2.size)
      obtain ⟨Af, cf, rfl, hsf, _⟩ := hmo.sl
      have hbq : ∀ q, Below w3.heap.size w3 (w3.drewN q) := fun q => ⟨rfl, rfl, rfl, Nat.le_refl _, fun _ _ => rfl⟩
      have hfr := HSr.out.front N hN2
      rw [bcells_take] at hfr
      have k1 := fun q => conv_sl (hsf.on (hbq q))
      have k2 := fun q => conv_sl ((hfr.on hB3).on (hbq q))
      clear hput hmo hsf hfr hbq
      generalize (⟨(rem.take N).toArray⟩ : ByteArray) = S at *
      go_wp2
      go_quiet (fail)
      clear k1 k2
      have hBN : Below w.heap.size w (w3.drewN nq) := ⟨hB3.os, hB3.tape, hB3.output, hB3.size, hB3.block⟩
      have hdl : (rem.drop N).length = rem.length - N := List.length_drop
      by_cases hcN : c' = N
      · obtain rfl : rem.length = N := by omega
        subst hcN
        have hsN := HSr.out.cut rem.length (Nat.le_refl _)
        rw [if_pos rfl, bcells_drop, Nat.sub_self] at hsN
        have HsN := Lib.hid hsN
        clear hsN
        go_wp2
        go_roundw
        case rel => exact ⟨some ⟨b, off, none⟩, 0, rem.drop rem.length, k + 1, by rw [hdl, Nat.sub_self], by go_num, by rw [hdl, Nat.sub_self]; exact HsN, by rw [hdl]; omega, by omega, by rw [hdl]; omega, by go_grown⟩
        case measure => simp [intOf]; omega
      · have hsN := HSr.out.cut N hN2
        rw [if_neg hcN, Option.map_some, addr_at, bcells_drop] at hsN
        have HsN := Lib.hid hsN
        clear hsN
        go_wp2
        go_roundw
        case rel => exact ⟨some ⟨b, off + N, none⟩, c' - N, rem.drop N, k + 1, by rw [hdl], by go_num, by rw [hdl]; exact HsN, by rw [hdl]; omega, by omega, by rw [hdl]; omega, hBN⟩
        case measure => simp [intOf]; omega
end Go.Proofs.YtidmgolahdkmlaaDoor
