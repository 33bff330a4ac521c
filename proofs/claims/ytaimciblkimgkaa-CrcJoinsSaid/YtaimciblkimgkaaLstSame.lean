/-
  Slices of slices of bytes, wherever these lie; two of them compared: the document's Same.
-/
import Derived.Test.YtaimciblkimgkaaLst
import Derived.Lib.Hide
import Derived.WalkKit
import Derived.WalkSmall
import Derived.WalkSpells
import Derived.IntWalk
import Derived.BigQuiet
import Derived.Handy
import Derived.Deep.Quiet
import Derived.Deep.QuietTactic
namespace Go.Proofs.Ytaimciblkimgkaa
open Go.RowKit

/-- These cells are slices that read so. -/
def Lss (w : World) (vs : List Value) (ls : List (List UInt8)) : Prop := vs.length = ls.length ∧ ∀ (i : Nat) (l : List UInt8), ls[i]? = some l → ∃ A n c, vs[i]? = some (Value.slice A n c) ∧ Sl w A n c 1 (bcells l)
theorem Lss.nil (w : World) : Lss w [] [] := ⟨rfl, fun i l h => by simp at h⟩
theorem Lss.on {w w' : World} {vs : List Value} {ls : List (List UInt8)} (h : Lss w vs ls) (hb : Below w.heap.size w w') : Lss w' vs ls :=
  ⟨h.1, fun i l hl => by obtain ⟨A, n, c, e, he⟩ := h.2 i l hl; exact ⟨A, n, c, e, he.on hb⟩⟩
theorem Lss.add {w : World} {vs : List Value} {ls : List (List UInt8)} (h : Lss w vs ls) {A : Option Addr} {n c : Nat} {l : List UInt8} (hs : Sl w A n c 1 (bcells l)) : Lss w (vs ++ [.slice A n c]) (ls ++ [l]) := by
  refine ⟨by rw [List.length_append, List.length_append, h.1]; rfl, fun i l' hl => ?_⟩
  rcases Nat.lt_or_ge i ls.length with hi | hi
  · rw [List.getElem?_append_left hi] at hl
    obtain ⟨A, n, c, e, he⟩ := h.2 i l' hl
    exact ⟨A, n, c, by rw [List.getElem?_append_left (by rw [h.1]; exact hi)]; exact e, he⟩
  · rw [List.getElem?_append_right hi] at hl
    match hj : i - ls.length, hl with
    | 0, hl => cases hl; exact ⟨A, n, c, by rw [List.getElem?_append_right (by rw [h.1]; exact hi), h.1, hj]; rfl, hs⟩
theorem Lss.of {w : World} {vs : List Value} {ls : List (List UInt8)} (h : Lst w vs ls) : Lss w vs ls := ⟨h.1, fun i l hl => by obtain ⟨A, n, c, e, he⟩ := h.2 i l hl; exact ⟨A, n, c, e, he.sl⟩⟩
theorem Lss.take {w : World} {vs : List Value} {ls : List (List UInt8)} (h : Lss w vs ls) (k : Nat) : Lss w (vs.take k) (ls.take k) := by
  refine ⟨by rw [List.length_take, List.length_take, h.1], fun i l hl => ?_⟩
  rw [List.getElem?_take] at hl
  split at hl
  · rename_i hik
    obtain ⟨A, n, c, e, he⟩ := h.2 i l hl
    exact ⟨A, n, c, by rw [List.getElem?_take, if_pos hik]; exact e, he⟩
  · cases hl
/-- A slice of slices of bytes: its head, and what its elements read as. -/
def SlS (w : World) (A : Option Addr) (n c : Nat) (ls : List (List UInt8)) : Prop := ∃ vs, Sl w A n c 1 vs ∧ Lss w vs ls
theorem SlS.on {w w' : World} {A : Option Addr} {n c : Nat} {ls : List (List UInt8)} (h : SlS w A n c ls) (hb : Below w.heap.size w w') : SlS w' A n c ls := by
  obtain ⟨vs, h1, h2⟩ := h; exact ⟨vs, h1.on hb, h2.on hb⟩
theorem SlS.len {w : World} {A : Option Addr} {n c : Nat} {ls : List (List UInt8)} (h : SlS w A n c ls) : ls.length = n := by
  obtain ⟨vs, h1, h2⟩ := h
  have := h1.len; rw [← h2.1]; omega
theorem SlS.le {w : World} {A : Option Addr} {n c : Nat} {ls : List (List UInt8)} (h : SlS w A n c ls) : n ≤ c ∧ c ≤ maxLen := by
  obtain ⟨vs, h1, h2⟩ := h
  exact ⟨h1.le, h1.cap⟩
theorem SlS.none_ (w : World) : SlS w none 0 0 [] := ⟨[], Sl.none_ _ _, Lss.nil _⟩
theorem SlS.take {w : World} {A : Option Addr} {n c : Nat} {ls : List (List UInt8)} (h : SlS w A n c ls) (k : Nat) (hk : k ≤ n) : SlS w A k c (ls.take k) := by
  obtain ⟨vs, h1, h2⟩ := h
  have hl := h1.len
  have hle := h1.le
  refine ⟨vs.take k, ⟨by rw [List.length_take]; omega, by omega, h1.cap, fun hA => ?_, h1.row.take k⟩, h2.take k⟩
  have := h1.nil hA
  omega
/-- An element of it, as a cell. -/
theorem SlS.get {w : World} {A : Option Addr} {n c : Nat} {ls : List (List UInt8)} (h : SlS w A n c ls) {k : Nat} (hk : k < ls.length) :
    ∃ b off, A = some ⟨b, off, none⟩ ∧ ∃ B m d, w.cell? ⟨b, off + k, none⟩ = some (Value.slice B m d) ∧ Sl w B m d 1 (bcells ls[k]) := by
  obtain ⟨vs, h1, h2⟩ := h
  obtain ⟨B, m, d, e, he⟩ := h2.2 k _ (List.getElem?_eq_getElem hk)
  rcases h1.row with h0 | ⟨b, off, hA, hc⟩
  · subst h0; simp at e
  · exact ⟨b, off, hA, B, m, d, hc k _ e, he⟩
theorem SlS.of_own {w : World} {base n : Nat} {v : Value} {vs : List Value} {t : TypeId} {ls : List (List UInt8)} (h : w.ownsRow base t 1 v n vs) (hl : Lss w vs ls) : ∃ B d, v = .slice B n d ∧ SlS w B n d ls := by
  obtain ⟨B, d, hv, hs, _⟩ := Sl.of_own h
  exact ⟨B, d, hv, vs, hs, hl⟩
theorem infoSs : (Try.prog.info? 22).map (fun i => (i.zero, i.size, i.bytes)) = some (some (.slice none 0 0), 1, 24) := by kernel_rfl
theorem cell1s (A : Option Addr) (n c : Nat) : ∀ u ∈ [Value.slice A n c], u.oneCell' = true := by intro u hu; simp at hu; subst hu; rfl
theorem box_news8 (w : World) (v : Value) (t : TypeId) (j : Nat) (u : Value) (hu : [v][j]? = some u) : (w.alloc (.cells #[v] t)).cell? ((⟨w.heap.size, 0, none⟩ : Addr).add j) = some u := by
  match j, hu with
  | 0, hu =>
    cases hu
    rw [addr_at, (Box.new w #[v] t).cell]
    rfl
theorem str_ne8 {a b : List UInt8} (h : ¬ a = b) : ((⟨a.toArray⟩ : ByteArray).toList == (⟨b.toArray⟩ : ByteArray).toList) = false := by
  rw [ByteArray.toList_eq, ByteArray.toList_eq]; simpa using h
theorem ret_b {b b' : Bool} (h : b = b') : Ending.returned (.bool b) = .returned (.bool b') := by rw [h]
set_option maxRecDepth 100000 in
set_option maxHeartbeats 1000000 in
theorem ref_Same8 (A1 : Option Addr) (n1 c1 : Nat) (ls : List (List UInt8)) (A2 : Option Addr) (n2 c2 : Nat) (ks : List (List UInt8)) (w : World) (h1 : SlS w A1 n1 c1 ls) (h2 : SlS w A2 n2 c2 ks) (hl1 : n1 ≤ 1000000) (hl2 : n2 ≤ 1000000) :
    Calls Try.prog 16 #[.slice A1 n1 c1, .slice A2 n2 c2] w fun e w' => e = .returned (.bool (decide (ls = ks))) ∧ Below w.heap.size w w' := by
  have e1 := h1.len
  have e2 := h2.len
  have H1 := Lib.hid h1
  have H2 := Lib.hid h2
  clear h1 h2
  by_cases hne : n1 = n2
  · subst hne
    go_enter Try.func16, Try.ntmps16
    go_wp2
    go_loopw [5] (fun i wr => ∃ k : Nat, i = .int .i64 k ∧ k ≤ n1 ∧ Hid (ls.take k = ks.take k) ∧ Below w.heap.size w wr) (fun i _ => n1 - (intOf i).toNat)
    case atStart => exact ⟨0, rfl, Nat.zero_le _, Lib.hid rfl, Below.refl _ _⟩
    case round =>
      obtain ⟨k, rfl, hk, Hk, hb⟩ := hrel
      by_cases hlt : k < n1
      · obtain ⟨b1, o1, rfl, B1, m1, d1, hc1, he1⟩ := (H1.out.on hb).get (show k < ls.length by omega)
        obtain ⟨b2, o2, rfl, B2, m2, d2, hc2, he2⟩ := (H2.out.on hb).get (show k < ks.length by omega)
        have hki : (0 : Int) ≤ (k : Int) := by omega
        have hkl : (k : Int) < (n1 : Int) := by omega
        have hbq : ∀ q, Below wr.heap.size wr (wr.drewN q) := fun q => ⟨rfl, rfl, rfl, Nat.le_refl _, fun _ _ => rfl⟩
        have q1 := fun q => conv_sl (he1.on (hbq q))
        have q2 := fun q => conv_sl (he2.on (hbq q))
        by_cases heq : ls[k] = ks[k]
        · have Hk2 := Lib.hid (show ls.take (k + 1) = ks.take (k + 1) by rw [List.take_succ_eq_append_getElem (show k < ls.length by omega), List.take_succ_eq_append_getElem (show k < ks.length by omega), Hk.out, heq])
          rw [heq] at q1
          clear Hk heq he1 he2 hbq
          generalize (⟨(ks[k]).toArray⟩ : ByteArray) = S at *
          go_wp2
          go_quiet (fail)
          clear q1 q2
          go_wp2
          go_roundw
          case rel => exact ⟨k + 1, by go_num, by omega, Hk2, ⟨hb.os, hb.tape, hb.output, hb.size, hb.block⟩⟩
          case measure => simp [intOf]; omega
        · have hF := Lib.hid (show decide (ls = ks) = false from decide_eq_false fun h => heq (by subst h; rfl))
          have hS := str_ne8 heq
          clear Hk heq he1 he2 hbq
          generalize (⟨(ls[k]).toArray⟩ : ByteArray) = S1 at *
          generalize (⟨(ks[k]).toArray⟩ : ByteArray) = S2 at *
          go_wp2
          go_quiet (fail)
          clear q1 q2
          go_wp2
          go_ret
          exact ⟨ret_b hF.out.symm, ⟨hb.os, hb.tape, hb.output, hb.size, hb.block⟩⟩
      · obtain rfl : k = n1 := by omega
        have hT := Lib.hid (show decide (ls = ks) = true from decide_eq_true (by have := Hk.out; rwa [List.take_of_length_le (by omega), List.take_of_length_le (by omega)] at this))
        go_wp2
        go_ret
        exact ⟨ret_b hT.out.symm, hb⟩
  · have hF := Lib.hid (show decide (ls = ks) = false from decide_eq_false fun h => hne (by rw [← e1, ← e2, h]))
    have hnn : ((n1 : Int) == (n2 : Int)) = false := by rw [beq_eq_false_iff_ne]; omega
    go_enter Try.func16, Try.ntmps16
    go_wp2
    go_ret
    exact ⟨ret_b hF.out.symm, Below.refl _ _⟩
end Go.Proofs.Ytaimciblkimgkaa
