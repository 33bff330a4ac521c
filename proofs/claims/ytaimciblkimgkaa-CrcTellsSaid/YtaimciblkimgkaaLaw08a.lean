/-
  Layer 8's laws: the contracts of the landed code; CrcRight.
-/
import Derived.Test.YtaimciblkimgkaaCrcAllRun
import Derived.Test.YtaimciblkimgkaaLaw08
import Derived.Lib.MinMax
namespace Go.Proofs.Ytaimciblkimgkaa
open Go.RowKit

theorem crcC : CrcC where
  sum := fun A n c l W hl hn h => own_Sum8 A n c l W hl hn h
  put := fun A n c r W hl hn h => own_Put8 A n c r W hl hn h
  next := fun A n c b W hl hn h => (own_Next8 A n c b hl W h (by omega)).mono fun e w' ⟨A1, m, c1, he, hel, hb⟩ => ⟨A1, m, c1, he, by have := hel.sl.len; rw [bcells_len] at this; omega, hel.sl, hb⟩
theorem Moz8.slice {w : World} {base n : Nat} {v : Value} {l : List UInt8} (h : Moz8 w base v n (bcells l)) : ∃ A c, v = .slice A n c ∧ Sl w A n c 1 (bcells l) := by
  rcases h with ⟨rfl, rfl, h⟩ | h
  · exact ⟨none, 0, rfl, by rw [h]; exact Sl.none_ _ _⟩
  · obtain ⟨g, c, hv, hs, _⟩ := h.sl
    exact ⟨_, c, hv, hs⟩
set_option maxRecDepth 100000 in
set_option maxHeartbeats 4000000 in
theorem walk_CrcRight (A : Option Addr) (n c : Nat) (l : List UInt8) (hl : l.length = n) (W : World) (h : Sl W A n c 1 (bcells l)) (_ : True) :
    Calls Try.prog 3 #[.slice A n c] W fun e W' => e = .returned (.bool true) ∧ Below W.heap.size W W' := by
  have HA := Lib.hid (awake08 crcC W)
  have hcap : c ≤ 9223372036854775807 := by have := h.cap; unfold maxLen at this; omega
  have hnc := h.le
  obtain ⟨m, hm⟩ : ∃ m : Nat, (m : Int) = min (n : Int) 5000 := ⟨(min (n : Int) 5000).toNat, by omega⟩
  have hmn : m ≤ n ∧ m ≤ 5000 := by omega
  have hmm : min (n : Int) 5000 = (m : Int) := hm.symm
  clear hm
  have Hl := Lib.hid (show (l.take m).length = m by rw [List.length_take, hl]; omega)
  have HS := Lib.hid (fun (V : World) (hb : Below W.heap.size W V) => (sl_front h m hmn.1).on hb)
  clear h hl
  generalize l.take m = b at *
  have h1 : m ≤ 6000 := by omega
  have h2 : m ≤ 1000000 := by omega
  go_enter Try.func3, Try.ntmps3
  go_wp2_with fail
  refine HA.out.mono ?_
  rintro e w1 ⟨rfl, hb1⟩
  have Hp := Lib.hid (own_Put8 A m c b w1 Hl.out h1 (HS.out w1 hb1))
  go_wp2_with fail
  refine Hp.out.mono ?_
  clear Hp
  rintro e w2 ⟨v, rfl, hmo, hb2'⟩
  obtain ⟨A2, c2, rfl, hs2⟩ := hmo.slice
  have hb2 := hb1.trans (hb2'.mono hb1.size)
  have Hp := Lib.hid (ref_Put8 A m c b Hl.out w2 (HS.out w2 hb2) h2)
  clear hmo hb1 hb2'
  go_wp2_with fail
  refine Hp.out.mono ?_
  clear Hp
  rintro e w3 ⟨A3, m3, c3, rfl, rfl, hs3, hb3'⟩
  have hb3 := hb2.trans (hb3'.mono hb2.size)
  have hs2 := hs2.on hb3'
  have Hp := Lib.hid (own_Next8 A m c b Hl.out w3 (HS.out w3 hb3) h2)
  clear hb2 hb3'
  go_wp2_with fail
  refine Hp.out.mono ?_
  clear Hp
  rintro e w4 ⟨A4, m4, c4, rfl, hel4, hb4'⟩
  have hb4 := hb3.trans (hb4'.mono hb3.size)
  have hs2 := hs2.on hb4'
  have hs3 := hs3.on hb4'
  have hs4 := hel4.sl
  have Hp := Lib.hid (ref_Next8 A m c b Hl.out w4 (HS.out w4 hb4) h2)
  clear hb3 hb4' hel4
  go_wp2_with fail
  refine Hp.out.mono ?_
  clear Hp
  rintro e w5 ⟨A5, m5, c5, rfl, hs5', hb5'⟩
  have hb5 := hb4.trans (hb5'.mono hb4.size)
  have hs2 := hs2.on hb5'
  have hs3 := hs3.on hb5'
  have hs4 := hs4.on hb5'
  have hs5 := hs5' w5 (HS.out w5 hb5)
  have Hp := Lib.hid (own_All8 A m c b Hl.out w5 (HS.out w5 hb5) h2)
  clear hb4 hb5' hs5'
  go_wp2_with fail
  refine Hp.out.mono ?_
  clear Hp
  rintro e w6 ⟨A6, m6, c6, rfl, hs6, hb6'⟩
  have hb6 := hb5.trans (hb6'.mono hb5.size)
  have hs2 := hs2.on hb6'
  have hs3 := hs3.on hb6'
  have hs4 := hs4.on hb6'
  have hs5 := hs5.on hb6'
  have Hp := Lib.hid (ref_All8 A m c b Hl.out w6 (HS.out w6 hb6) h2)
  clear hb5 hb6'
  go_wp2_with fail
  refine Hp.out.mono ?_
  clear Hp
  rintro e w7 ⟨A7, m7, c7, rfl, hs7, hb7'⟩
  have hb7 := hb6.trans (hb7'.mono hb6.size)
  have hs2 := hs2.on hb7'
  have hs3 := hs3.on hb7'
  have hs4 := hs4.on hb7'
  have hs5 := hs5.on hb7'
  have hs6 := hs6.on hb7'
  have Hp := Lib.hid (own_Sum8 A m c b w7 Hl.out h1 (HS.out w7 hb7))
  clear hb6 hb7'
  go_wp2_with fail
  refine Hp.out.mono ?_
  clear Hp
  rintro e w8 ⟨rfl, hb8'⟩
  have hb8 := hb7.trans (hb8'.mono hb7.size)
  have hs2 := hs2.on hb8'
  have hs3 := hs3.on hb8'
  have hs4 := hs4.on hb8'
  have hs5 := hs5.on hb8'
  have hs6 := hs6.on hb8'
  have hs7 := hs7.on hb8'
  have Hp := Lib.hid (ref_Sum8 A m c b Hl.out w8 (HS.out w8 hb8) h2)
  clear hb7 hb8'
  go_wp2_with fail
  refine Hp.out.mono ?_
  clear Hp
  rintro e w9 ⟨rfl, hb9'⟩
  have hb9 := hb8.trans (hb9'.mono hb8.size)
  have k2 := conv_sl (hs2.on hb9')
  have k3 := conv_sl (hs3.on hb9')
  have k4 := conv_sl (hs4.on hb9')
  have k5 := conv_sl (hs5.on hb9')
  have hs6 := hs6.on hb9'
  have hs7 := hs7.on hb9'
  have hm6 := hs6.len
  have hm7 := hs7.len
  clear hb8 hb9' hs2 hs3 hs4 hs5
  have hle : (allS b).1.length ≤ 1000000 := by have := allS_len b; rw [Hl.out] at this; omega
  have Hp := ref_Same8 A6 m6 c6 _ A7 m7 c7 _ w9 hs6 hs7 (by omega) (by omega)
  rw [show decide ((allS b).1 = (allS b).1) = true from by simp] at Hp
  have Hp := Lib.hid Hp
  clear hs6 hs7
  generalize (⟨(putV b).toArray⟩ : ByteArray) = S1 at *
  generalize (⟨((nextC b).1).toArray⟩ : ByteArray) = S2 at *
  generalize (nextC b).2.1 = x1 at *
  generalize (nextC b).2.2 = x2 at *
  generalize (allS b).2 = x3 at *
  generalize putE b = x4 at *
  generalize sumC b = x5 at *
  go_wp2_with fail
  refine Hp.out.mono ?_
  clear Hp
  rintro e w10 ⟨rfl, hb10⟩
  go_wp2
  go_ret
  exact ⟨rfl, hb9.trans (hb10.mono hb9.size)⟩
end Go.Proofs.Ytaimciblkimgkaa
