/-
  Layer 4, feed: the document's own way: its contracts.
-/
import Derived.Test.YtacaipnjedfdoaaDoorFeedMath
import Derived.Test.YtacaipnjedfdoaaDoorLst
import Derived.Test.YtacaipnjedfdoaaDoorFrmRefNext
namespace Go.Proofs.YtacaipnjedfdoaaDoor
open Go.RowKit

theorem infoS : (Tryd.prog.info? 22).map (fun i => (i.zero, i.size, i.bytes)) = some (some (.slice none 0 0), 1, 24) := by kernel_rfl
theorem str_ne {a b : List UInt8} (h : ¬ a = b) : ((⟨a.toArray⟩ : ByteArray).toList == (⟨b.toArray⟩ : ByteArray).toList) = false := by
  rw [ByteArray.toList_eq, ByteArray.toList_eq]; simpa using h
set_option maxRecDepth 100000 in
set_option maxHeartbeats 1000000 in
theorem ref_Same4 (A1 : Option Addr) (n1 c1 : Nat) (ls : List (List UInt8)) (A2 : Option Addr) (n2 c2 : Nat) (ks : List (List UInt8)) (w : World) (h1 : SlL w A1 n1 c1 ls) (h2 : SlL w A2 n2 c2 ks) (hl1 : n1 ≤ 1000000) (hl2 : n2 ≤ 1000000) :
    Calls Tryd.prog 8 #[.slice A1 n1 c1, .slice A2 n2 c2] w fun e w' => e = .returned (.bool (decide (ls = ks))) ∧ Below w.heap.size w w' := by
  have e1 := h1.len
  have e2 := h2.len
  have H1 := Lib.hid h1
  have H2 := Lib.hid h2
  clear h1 h2
  by_cases hne : n1 = n2
  · subst hne
    go_enter Tryd.func8, Tryd.ntmps8
    go_wp2
    go_loopw [5] (fun i wr => ∃ k : Nat, i = .int .i64 k ∧ k ≤ n1 ∧ Hid (ls.take k = ks.take k) ∧ Below w.heap.size w wr) (fun i _ => n1 - (intOf i).toNat)
    case atStart => exact ⟨0, rfl, Nat.zero_le _, Lib.hid rfl, Below.refl _ _⟩
    case round =>
      obtain ⟨k, rfl, hk, Hk, hb⟩ := hrel
      by_cases hlt : k < n1
      · obtain ⟨b1, o1, rfl, B1, m1, d1, hc1, he1⟩ := (H1.out.on hb).get (show k < ls.length by omega)
        obtain ⟨b2, o2, rfl, B2, m2, d2, hc2, he2⟩ := (H2.out.on hb).get (show k < ks.length by omega)
        have hki : (0 : Int) ≤ (k : Int) := by omega
        have hkl : (k : Int) < (n1 : Int) := by omega
        have hbq : ∀ q, Below wr.heap.size wr (wr.drewN q) := fun q => ⟨rfl, rfl, rfl, Nat.le_refl _, fun _ _ => rfl⟩
        have q1 := fun q => conv_sl (he1.sl.on (hbq q))
        have q2 := fun q => conv_sl (he2.sl.on (hbq q))
        by_cases heq : ls[k] = ks[k]
        · have Hk2 := Lib.hid (show ls.take (k + 1) = ks.take (k + 1) by rw [List.take_succ_eq_append_getElem (show k < ls.length by omega), List.take_succ_eq_append_getElem (show k < ks.length by omega), Hk.out, heq])
          rw [heq] at q1
          clear Hk heq he1 he2 hbq
          generalize (⟨(ks[k]).toArray⟩ : ByteArray) = S at *
          go_wp2
          go_quiet (fail)
          clear q1 q2
          go_wp2
          go_roundw
          case rel => exact ⟨k + 1, by go_num, by omega, Hk2, ⟨hb.os, hb.tape, hb.output, hb.size, hb.block⟩⟩
          case measure => simp [intOf]; omega
        · have hF := Lib.hid (show decide (ls = ks) = false from decide_eq_false fun h => heq (by subst h; rfl))
          have hS := str_ne heq
          clear Hk heq he1 he2 hbq
          generalize (⟨(ls[k]).toArray⟩ : ByteArray) = S1 at *
          generalize (⟨(ks[k]).toArray⟩ : ByteArray) = S2 at *
          go_wp2
          go_quiet (fail)
          clear q1 q2
          go_wp2
          go_ret
          exact ⟨retB hF.out.symm, ⟨hb.os, hb.tape, hb.output, hb.size, hb.block⟩⟩
      · obtain rfl : k = n1 := by omega
        have hT := Lib.hid (show decide (ls = ks) = true from decide_eq_true (by have := Hk.out; rwa [List.take_of_length_le (by omega), List.take_of_length_le (by omega)] at this))
        go_wp2
        go_ret
        exact ⟨retB hT.out.symm, hb⟩
  · have hF := Lib.hid (show decide (ls = ks) = false from decide_eq_false fun h => hne (by rw [← e1, ← e2, h]))
    have hnn : ((n1 : Int) == (n2 : Int)) = false := by rw [beq_eq_false_iff_ne]; omega
    go_enter Tryd.func8, Tryd.ntmps8
    go_wp2
    go_ret
    exact ⟨retB hF.out.symm, Below.refl _ _⟩
def inE (kb pb : List UInt8) : Int := if 16384 ≤ kb.length ∨ 65536 < pb.length then 4 else 0
def inV (kb pb : List UInt8) : List (List UInt8) × Nat × List UInt8 := if 16384 ≤ kb.length ∨ 65536 < pb.length then ([], 0, kb) else feed (kb ++ pb)
/-- What In hands back. -/
def InPost (kb pb : List UInt8) (w : World) (e : Ending) (w' : World) : Prop :=
  ∃ A n c B m d, e = .returned (.tuple #[.slice A n c, .slice B m d, .int .i64 ((inV kb pb).2.1 : Nat), .int .i64 (inE kb pb)]) ∧ Sl w' A n c 1 (bcells (inV kb pb).2.2) ∧ SlL w' B m d (inV kb pb).1 ∧ Below w.heap.size w w' ∧ (inE kb pb = 0 → Typed w' A 5)
theorem results_tmp4 {fn : Func} {t u v x : Tmp} (h : fn.results = #[.tmp t, .tmp u, .tmp v, .tmp x]) (tmps : Array Value) (P : Program) (w : World) :
    (results fn tmps).run P w = .ok (.tuple #[tmps.getD t undef, tmps.getD u undef, tmps.getD v undef, tmps.getD x undef]) w := by
  simp [results, h]
theorem one_slice (A : Option Addr) (n c : Nat) : ∀ u ∈ [Value.slice A n c], u.oneCell' = true := by intro u hu; simp at hu; subst hu; rfl
theorem in_long {kb pb : List UInt8} (h : 16384 ≤ kb.length ∨ 65536 < pb.length) : inE kb pb = 4 ∧ inV kb pb = ([], 0, kb) := ⟨if_pos h, if_pos h⟩
theorem in_short {kb pb : List UInt8} (h : ¬ (16384 ≤ kb.length ∨ 65536 < pb.length)) : inE kb pb = 0 ∧ inV kb pb = feed (kb ++ pb) := ⟨if_neg h, if_neg h⟩
theorem row_slice {w : World} {base n : Nat} {v : Value} {vs : List Value} {t : TypeId} {ls : List (List UInt8)} (h : w.ownsRow base t 1 v n vs) (hl : Lst w vs ls) : ∃ B d, v = .slice B n d ∧ SlL w B n d ls := by
  obtain ⟨B, d, hv, hs, _⟩ := Sl.of_own h
  exact ⟨B, d, hv, vs, hs, hl⟩
end Go.Proofs.YtacaipnjedfdoaaDoor
