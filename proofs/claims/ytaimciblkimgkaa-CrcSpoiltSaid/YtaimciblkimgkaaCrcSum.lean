/-
  Layer 8: the program's own sums of parts of bytes: sumOf, Sum: their contracts.
-/
import Derived.Test.YtaimciblkimgkaaCrcOnce
import Derived.Test.YtaimciblkimgkaaLaw08
import Derived.Test.YtaimciblkimgkaaPts
namespace Go.Proofs.Ytaimciblkimgkaa
open Go.RowKit

theorem crc_step (a : Nat) (c : UInt8) : crcByte a c = a / 256 ^^^ crc8 (a % 256 ^^^ c.toNat) := by
  have hc := UInt8.toNat_lt c
  unfold crcByte
  rw [crc8_split]
  have h1 : (a ^^^ c.toNat) % 256 = a % 256 ^^^ c.toNat := by
    rw [show (256 : Nat) = 2 ^ 8 from rfl, Nat.xor_mod_two_pow, Nat.mod_eq_of_lt (a := c.toNat) (by omega)]
  have h2 : (a ^^^ c.toNat) / 256 = a / 256 := by
    rw [show (256 : Nat) = 2 ^ 8 from rfl, Nat.xor_div_two_pow, Nat.div_eq_of_lt (a := c.toNat) (by omega), Nat.xor_zero]
  rw [h1, h2, Nat.xor_comm]
theorem ones_xor {a : Nat} (h : a < 4294967296) : 4294967295 ^^^ a = 4294967295 - a := by
  have h1 := congrArg BitVec.toNat (BitVec.allOnes_xor (x := BitVec.ofNat 32 a))
  rw [BitVec.toNat_xor, BitVec.toNat_not, BitVec.toNat_allOnes, BitVec.toNat_ofNat, Nat.mod_eq_of_lt (by simpa using h)] at h1
  simpa using h1
theorem zeroS : (Try.prog.info? 62).bind (·.zero) = some (.agg (#[.int .u32 0, .int .i32 0, .int .u32 0] ++ Array.replicate 256 (.int .u32 0))) := by kernel_rfl
/-- A block of sums that aren't made. -/
theorem sums_new : ∃ cs : Array Value, (∀ w : World, (zeroValue 62).run Try.prog w = .ok (.agg cs) w) ∧ ∀ (w : World) (t : TypeId), Made (w.alloc (.cells cs t)) w.heap.size := by
  refine ⟨#[.int .u32 0, .int .i32 0, .int .u32 0] ++ Array.replicate 256 (.int .u32 0), fun w => ?_, fun w t => .inr ?_⟩
  · have h := zeroS
    cases hi : Try.prog.info? 62 with
    | none => rw [hi] at h; cases h
    | some i =>
      rw [hi] at h
      have h : i.zero = _ := h
      simp [zeroValue, typeInfo, hi, h]
  · have hB := Box.new w (#[.int .u32 0, .int .i32 0, .int .u32 0] ++ Array.replicate 256 (.int .u32 0)) t
    refine ⟨(hB.cell 0).trans (by rw [Array.getElem?_append_left (by decide)]; rfl), (hB.cell 1).trans (by rw [Array.getElem?_append_left (by decide)]; rfl), fun j hj => (hB.cell (3 + j)).trans ?_, hB.free⟩
    rw [Array.getElem?_append_right (by show 3 ≤ 3 + j; omega)]
    show (Array.replicate 256 (Value.int .u32 0))[3 + j - 3]? = _
    rw [show 3 + j - 3 = j by omega, Array.getElem?_replicate, if_pos hj]
    rfl
set_option maxRecDepth 100000 in
set_option maxHeartbeats 1000000 in
theorem own_sumOf (g off m : Nat) (ps : List Pt) (w : World) (hps : Pts w ps) (hrow : Row w (some ⟨g, off, none⟩) (ps.map Pt.val)) (hm : ps.length = m) (hm2 : m ≤ 1000) (hsz : PtsSz ps) :
    Calls Try.prog 18 #[.slice (some ⟨g, off, none⟩) m m] w fun e w' => e = .returned (.int .u32 (sumC (joined ps) : Nat)) ∧ Below w.heap.size w w' := by
  have HP := Lib.hid hps
  have HR := Lib.hid hrow
  have HZ := Lib.hid hsz
  clear hps hrow hsz
  go_enter Try.func18, Try.ntmps18
  obtain ⟨cs, hz, hmade⟩ := sums_new
  have HM := Lib.hid (hmade w 62)
  have HB0 := Lib.hid ((Below.refl w.heap.size w).alloc (Nat.le_refl _) (.cells cs 62))
  clear hmade
  go_upto_region 2 with (fail)
  generalize w.alloc (.cells cs 62) = w0 at *
  clear hz
  have Hbz := Lib.hid HB0.out.size
  go_wp2
  go_loopw [4, 11] (fun s4 s11 wr => ∃ i : Nat, i ≤ m ∧ s11 = .int .i64 (i : Nat) ∧ s4 = .int .u32 (crcRun 4294967295 (joined (ps.take i)) : Nat) ∧ Hid (Made wr w.heap.size) ∧ Hid (Below w.heap.size w wr)) (fun _ s11 _ => m - (intOf s11).toNat)
  case atStart => exact ⟨0, by omega, rfl, rfl, HM, HB0⟩
  case round =>
    clear HM HB0 Hbz
    obtain ⟨i, hi, rfl, rfl, HM, HB⟩ := hrel
    by_cases hlt : i < m
    · have hip : i < ps.length := by omega
      have hmem : ps[i] ∈ ps := List.getElem_mem hip
      have HJ := Lib.hid (joined_take hip)
      have HS := Lib.hid ((HP.out.on HB.out) _ hmem)
      have hpn := HZ.out _ hmem
      have hcell : wr.cell? ⟨g, off + i, none⟩ = some ps[i].val := by
        rcases (HR.out.on HB.out) with h0 | ⟨b', o', e, hc⟩
        · rw [List.map_eq_nil_iff] at h0; rw [h0] at hip; exact absurd hip (by simp)
        · injection e with e; injection e with e1 e2 _; subst e1; subst e2
          exact hc i _ (by rw [List.getElem?_map, List.getElem?_eq_getElem hip]; rfl)
      have hii : (i : Int) < (m : Int) := by omega
      generalize ps[i] = p at *
      obtain ⟨A, n, c, l⟩ := p
      replace hcell : wr.cell? ⟨g, off + i, none⟩ = some (.slice A n c) := hcell
      replace hpn : n ≤ 1000000 := hpn
      have Hl := Lib.hid (show l.length = n from by have := HS.out.len; rw [bcells_len] at this; exact this.trans (Nat.mul_one _))
      have hcap : c ≤ 9223372036854775807 := by have := HS.out.cap; unfold maxLen at this; exact Nat.le_trans this (by omega)
      have hnc : n ≤ c := HS.out.le
      have HE := Lib.hid hmem
      clear hmem
      have HX := Lib.hid (show crcRun 4294967295 (joined (ps.take i)) = crcRun 4294967295 (joined (ps.take i) ++ l.take 0) from by simp)
      go_wp2
      go_loopw [4, 17] (fun s4 s17 wq => ∃ k : Nat, k ≤ n ∧ s17 = .int .i64 (k : Nat) ∧ s4 = .int .u32 (crcRun 4294967295 (joined (ps.take i) ++ l.take k) : Nat) ∧ Hid (Made wq w.heap.size) ∧ Hid (Below w.heap.size w wq)) (fun _ s17 _ => n - (intOf s17).toNat)
      case atStart => exact ⟨0, by omega, rfl, by rw [HX.out], HM, HB⟩
      case round =>
        clear HM HX hcell
        obtain ⟨k, hk, rfl, rfl, HM, HB2⟩ := hrel
        by_cases hkn : k < n
        · have hkl : k < l.length := by rw [Hl.out]; exact hkn
          obtain ⟨b, o, rfl, hbc⟩ := ((HP.out.on HB2.out) _ HE.out).row.byte hkl
          have HT := Lib.hid (show crcRun 4294967295 (joined (ps.take i) ++ l.take (k + 1)) = crcByte (crcRun 4294967295 (joined (ps.take i) ++ l.take k)) l[k] from by
            rw [List.take_succ_eq_append_getElem hkl, ← List.append_assoc, crcRun_app]; rfl)
          have ha := crcRun_lt (show 4294967295 < 4294967296 by decide) (joined (ps.take i) ++ l.take k)
          generalize crcRun 4294967295 (joined (ps.take i) ++ l.take k) = a at *
          have hc8 := UInt8.toNat_lt l[k]
          rw [crc_step] at HT
          generalize l[k].toNat = x at *
          have hx1 : bits .xor .u8 ((a : Int) % 256) (x : Int) = ((a % 256 ^^^ x : Nat) : Int) := by
            rw [show (a : Int) % 256 = ((a % 256 : Nat) : Int) by omega]
            exact u8_xor_nat _ _ (by omega) (by omega)
          have hy : a % 256 ^^^ x < 256 := Nat.xor_lt_two_pow (n := 8) (by omega) (by omega)
          generalize a % 256 ^^^ x = y at *
          have hx2 : bits .xor .u32 ((a : Int) / 256) ((crc8 y : Nat) : Int) = ((a / 256 ^^^ crc8 y : Nat) : Int) := by
            rw [show (a : Int) / 256 = ((a / 256 : Nat) : Int) by omega]
            exact u32_xor_nat _ _ (by omega) (crc8_lt (by omega))
          have Hof := Lib.hid (own_of w.heap.size y hy wr HM.out)
          go_wp2_with fail
          refine Hof.out.mono ?_
          rintro e w3 ⟨rfl, hm3, hb3⟩
          have HM3 := Lib.hid hm3
          have HB3 := Lib.hid (HB2.out.trans hb3)
          clear Hof hm3 hb3 hbc
          go_wp2
          go_roundw
          case rel => exact ⟨k + 1, by omega, by go_num, by rw [HT.out], HM3, HB3⟩
          case measure => simp [intOf]; omega
        · obtain rfl : k = n := by omega
          have HF := Lib.hid (show crcRun 4294967295 (joined (ps.take (i + 1))) = crcRun 4294967295 (joined (ps.take i) ++ l.take k) from by rw [HJ.out, List.take_of_length_le (Nat.le_of_eq Hl.out)])
          go_wp2
          go_roundw
          case rel => exact ⟨i + 1, by omega, by go_num, by rw [HF.out], HM, HB2⟩
          case measure => simp [intOf]; omega
    · obtain rfl : i = m := by omega
      have hrt := crcRun_lt (show 4294967295 < 4294967296 by decide) (joined (ps.take i))
      have HF := Lib.hid (show sumC (joined ps) = 4294967295 - crcRun 4294967295 (joined (ps.take i)) from by rw [List.take_of_length_le (Nat.le_of_eq hm)]; rfl)
      generalize crcRun 4294967295 (joined (ps.take i)) = a at *
      have hx : bits .xor .u32 IntKind.u32.max (a : Int) = ((4294967295 - a : Nat) : Int) := (u32_xor_nat 4294967295 a (by decide) hrt).trans (congrArg Int.ofNat (ones_xor hrt))
      go_wp2
      go_ret
      exact ⟨by rw [HF.out]; rfl, HB.out⟩
theorem own_Sum8 (A : Option Addr) (n c : Nat) (l : List UInt8) (W : World) (hl : l.length = n) (hn : n ≤ 6000) (h : Sl W A n c 1 (bcells l)) :
    Calls Try.prog 14 #[.slice A n c] W fun e W' => e = .returned (.int .u32 (sumC l : Nat)) ∧ Below W.heap.size W W' := by
  have hB := (Below.refl W.heap.size W).alloc (Nat.le_refl _) (.cells #[.slice A n c] 22)
  have Hsm := Lib.hid (own_sumOf W.heap.size 0 1 [⟨A, n, c, l⟩] (W.alloc (.cells #[.slice A n c] 22)) (.cons (h.on hB) (Pts.nil _)) (parts_row rfl) rfl (by decide) (.cons (by omega) .nil))
  rw [show joined [⟨A, n, c, l⟩] = l from by simp [joined]] at Hsm
  clear h
  go_enter Try.func14, Try.ntmps14
  go_wp2_with fail
  refine Hsm.out.mono ?_
  rintro e w1 ⟨rfl, hb⟩
  go_wp2
  go_ret
  exact ⟨rfl, hB.trans (hb.mono (by simp))⟩
end Go.Proofs.Ytaimciblkimgkaa
