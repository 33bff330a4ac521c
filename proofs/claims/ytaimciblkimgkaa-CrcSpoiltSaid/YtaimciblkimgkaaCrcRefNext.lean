/-
  Layer 8: the document's Next.
-/
import Derived.Test.YtaimciblkimgkaaCrcRefPut
import Derived.Test.YtaimciblkimgkaaConv
import Derived.Deep.Quiet
import Derived.Deep.QuietTactic
namespace Go.Proofs.Ytaimciblkimgkaa
open Go.RowKit

theorem be2_of (x y : UInt8) : be2 (x.toNat * 256 + y.toNat) = [x, y] := by
  have := x.toNat_lt
  have := y.toNat_lt
  unfold be2
  rw [show (x.toNat * 256 + y.toNat) / 256 = x.toNat by omega, show (x.toNat * 256 + y.toNat) % 256 = y.toNat by omega]
  simp
/-- A record that is whole: it is right where it is the one that Put makes of its bytes. -/
theorem next_iff {x y : UInt8} {t : List UInt8} {L : Nat} (hL : x.toNat * 256 + y.toNat = L) (h1 : ¬ (L = 0 ∨ 4096 < L)) (h2 : 4 + L ≤ t.length) :
    nextC (x :: y :: t) = if putC ((t.drop 4).take L) = (x :: y :: t).take (6 + L) then ((t.drop 4).take L, 6 + L, 0) else ([], 0, 11) := by
  have hl : lenC (x :: y :: t) = L := hL
  have hr : ((t.drop 4).take L).length = L := by rw [List.length_take, List.length_drop]; omega
  have hd6 : (x :: y :: t).drop 6 = t.drop 4 := rfl
  have hd2 : (x :: y :: t).drop 2 = t := rfl
  have ht2 : (x :: y :: t).take 2 = [x, y] := rfl
  have hb : be2 L = [x, y] := by rw [← hL]; exact be2_of x y
  unfold nextC
  rw [hl, if_neg (by simp only [List.length_cons]; omega), if_neg h1, if_neg (by simp only [List.length_cons]; omega), hd6, hd2, ht2]
  have he : (t.take 4 = be4 (sumC ([x, y] ++ (t.drop 4).take L))) ↔ putC ((t.drop 4).take L) = (x :: y :: t).take (6 + L) := by
    have e1 : putC ((t.drop 4).take L) = [x, y] ++ (be4 (sumC ([x, y] ++ (t.drop 4).take L)) ++ (t.drop 4).take L) := by
      unfold putC recSum
      rw [hr, hb]
    have e2 : (x :: y :: t).take (6 + L) = [x, y] ++ (t.take 4 ++ (t.drop 4).take L) := by
      rw [show 6 + L = (4 + L) + 1 + 1 by omega, List.take_succ_cons, List.take_succ_cons, List.take_add]
      rfl
    rw [e1, e2]
    constructor
    · intro h; rw [← h]
    · intro h
      exact (List.append_cancel_right (List.append_cancel_left h)).symm
  by_cases h : t.take 4 = be4 (sumC ([x, y] ++ (t.drop 4).take L))
  · rw [if_pos h, if_pos (he.1 h)]
  · rw [if_neg h, if_neg (fun e => h (he.2 e))]
theorem strNe8 {a b : List UInt8} (h : ¬ a = b) : ((⟨a.toArray⟩ : ByteArray).toList == (⟨b.toArray⟩ : ByteArray).toList) = false := by
  rw [ByteArray.toList_eq, ByteArray.toList_eq]; simpa using h
/-- What the document's Next hands back: the record is a part of b: it reads so wherever b does. -/
def NextPost8 (A0 : Option Addr) (n0 c0 : Nat) (b : List UInt8) (w : World) (e : Ending) (w' : World) : Prop :=
  ∃ A m c, e = .returned (.tuple #[.slice A m c, .int .i64 ((nextC b).2.1 : Nat), .int .i64 (nextC b).2.2]) ∧ (∀ V, Sl V A0 n0 c0 1 (bcells b) → Sl V A m c 1 (bcells (nextC b).1)) ∧ Below w.heap.size w w'
theorem next_bad {A0 : Option Addr} {n0 c0 : Nat} {b : List UInt8} {W : World} {e : Int} (h : nextC b = ([], 0, e)) (W' : World) (hb : Below W.heap.size W W') : NextPost8 A0 n0 c0 b W (.returned (.tuple #[.slice none 0 0, .int .i64 0, .int .i64 e])) W' :=
  ⟨none, 0, 0, by rw [h]; rfl, fun V _ => by rw [h]; exact Sl.none_ _ _, hb⟩
theorem next_good {A0 : Option Addr} {n0 c0 : Nat} {b r : List UInt8} {k m c : Nat} {W : World} {A : Option Addr} (h : nextC b = (r, k, 0)) (hs : ∀ V, Sl V A0 n0 c0 1 (bcells b) → Sl V A m c 1 (bcells r)) (v : Int) (hv : v = (k : Int)) (W' : World) (hb : Below W.heap.size W W') : NextPost8 A0 n0 c0 b W (.returned (.tuple #[.slice A m c, .int .i64 v, .int .i64 0])) W' :=
  ⟨A, m, c, by rw [h, hv], fun V hV => by rw [h]; exact hs V hV, hb⟩
theorem sl_front {W : World} {A : Option Addr} {n c : Nat} {b : List UInt8} (h : Sl W A n c 1 (bcells b)) (k : Nat) (hk : k ≤ n) : Sl W A k c 1 (bcells (b.take k)) := by
  have hl := h.len
  have hle := h.le
  rw [bcells_len] at hl
  refine ⟨by rw [bcells_len, List.length_take]; omega, by omega, h.cap, fun hA => ?_, by rw [← bcells_take]; exact h.row.take k⟩
  have := h.nil hA
  omega
theorem sl_part {W : World} {g off n c : Nat} {b : List UInt8} (h : Sl W (some ⟨g, off, none⟩) n c 1 (bcells b)) (k m : Nat) (hk : k + m ≤ n) : Sl W (some ⟨g, off + k, none⟩) m (c - k) 1 (bcells ((b.drop k).take m)) := by
  have hl := h.len
  have hle := h.le
  have hcap := h.cap
  rw [bcells_len] at hl
  refine ⟨by rw [bcells_len, List.length_take, List.length_drop]; omega, by omega, by omega, fun hA => by (cases hA), ?_⟩
  have hr := (h.row.drop k).take m
  rw [bcells_drop, bcells_take, Option.map_some, addr_at] at hr
  exact hr
theorem sl_tail {W : World} {g off n c : Nat} {b : List UInt8} (h : Sl W (some ⟨g, off, none⟩) n c 1 (bcells b)) (k : Nat) (hk : k ≤ n) : Sl W (some ⟨g, off + k, none⟩) (n - k) (c - k) 1 (bcells (b.drop k)) := by
  have hl := h.len
  rw [bcells_len] at hl
  have hp := sl_part h k (n - k) (by omega)
  rw [List.take_of_length_le (by rw [List.length_drop]; omega)] at hp
  exact hp
set_option maxRecDepth 100000 in
set_option maxHeartbeats 1000000 in
theorem ref_Next8 (A : Option Addr) (n c : Nat) (b : List UInt8) (hl : b.length = n) (W : World) (h : Sl W A n c 1 (bcells b)) (hn : n ≤ 1000000) :
    Calls Try.prog 11 #[.slice A n c] W (NextPost8 A n c b W) := by
  have HS := Lib.hid h
  have hle := h.le
  have hcm := h.cap
  unfold maxLen at hcm
  by_cases h6 : n < 6
  · have HP := Lib.hid (next_bad (A0 := A) (n0 := n) (c0 := c) (W := W) (show nextC b = ([], 0, 2) from if_pos (by omega)))
    have h6i : (n : Int) < 6 := by omega
    clear hl h
    go_enter Try.func11, Try.ntmps11
    go_wp2
    go_ret3
    exact HP.out _ (Below.refl _ _)
  · obtain ⟨x, y, t, rfl⟩ : ∃ x y t, b = x :: y :: t := by
      rcases b with _ | ⟨x, _ | ⟨y, t⟩⟩
      · simp at hl; omega
      · simp at hl; omega
      · exact ⟨x, y, t, rfl⟩
    obtain ⟨g, off, rfl, hb0⟩ := h.row.byte (k := 0) (by simp)
    obtain ⟨_, _, e, hb1⟩ := h.row.byte (k := 1) (by simp)
    injection e with e
    injection e with e1 e2 _
    subst e1; subst e2
    simp only [List.getElem_cons_zero, List.getElem_cons_succ, Nat.add_zero] at hb0 hb1
    have hi0 : (0 : Int) < (n : Int) := by omega
    have hi1 : (1 : Int) < (n : Int) := by omega
    obtain ⟨L, hL⟩ : ∃ L : Nat, x.toNat * 256 + y.toNat = L := ⟨_, rfl⟩
    have hLi : (x.toNat : Int) * 256 + (y.toNat : Int) = (L : Int) := by omega
    have hx := x.toNat_lt
    have hy := y.toNat_lt
    have hL1 : L < 65536 := by omega
    have h6i : ¬ (n : Int) < 6 := by omega
    have hlt : t.length + 2 = n := by simpa using hl
    clear h
    by_cases hz : L = 0 ∨ 4096 < L
    · have HP := Lib.hid (next_bad (A0 := some ⟨g, off, none⟩) (n0 := n) (c0 := c) (W := W) (show nextC (x :: y :: t) = ([], 0, 3) from by unfold nextC; rw [hl, if_neg h6]; exact if_pos (by rw [show lenC (x :: y :: t) = L from hL]; exact hz)))
      clear hL
      rcases hz with hz | hz
      · have hz1 : ((L : Int) == 0) = true := by rw [beq_iff_eq]; omega
        go_enter Try.func11, Try.ntmps11
        go_wp2_with fail
        go_quiet (fail)
        go_wp2
        go_ret3
        exact HP.out _ ⟨rfl, rfl, rfl, Nat.le_refl _, fun _ _ => rfl⟩
      · have hz1 : ((L : Int) == 0) = false := by rw [beq_eq_false_iff_ne]; omega
        have hz2 : (4096 : Int) < (L : Int) := by omega
        go_enter Try.func11, Try.ntmps11
        go_wp2_with fail
        go_quiet (fail)
        go_wp2
        go_ret3
        exact HP.out _ ⟨rfl, rfl, rfl, Nat.le_refl _, fun _ _ => rfl⟩
    · have hz1 : ((L : Int) == 0) = false := by rw [beq_eq_false_iff_ne]; omega
      have hz2 : ¬ (4096 : Int) < (L : Int) := by omega
      by_cases hs : n < 6 + L
      · have HP := Lib.hid (next_bad (A0 := some ⟨g, off, none⟩) (n0 := n) (c0 := c) (W := W) (show nextC (x :: y :: t) = ([], 0, 2) from by unfold nextC; rw [hl, if_neg h6, show lenC (x :: y :: t) = L from hL, if_neg hz]; exact if_pos hs))
        have hsi : (n : Int) < 6 + (L : Int) := by omega
        clear hL
        go_enter Try.func11, Try.ntmps11
        go_wp2_with fail
        go_quiet (fail)
        go_wp2
        go_ret3
        exact HP.out _ ⟨rfl, rfl, rfl, Nat.le_refl _, fun _ _ => rfl⟩
      · have HN := Lib.hid (next_iff hL hz (t := t) (by omega))
        have hsi : ¬ (n : Int) < 6 + (L : Int) := by omega
        have hcL : ¬ (c : Int) < 6 + (L : Int) := by omega
        have hL2 : 1 ≤ L ∧ L ≤ 4096 := by omega
        have hlr : ((t.drop 4).take L).length = L := by rw [List.length_take, List.length_drop]; omega
        have hr : ∀ V, Sl V (some ⟨g, off, none⟩) n c 1 (bcells (x :: y :: t)) → Sl V (some ⟨g, off + 6, none⟩) L (c - 6) 1 (bcells ((t.drop 4).take L)) := fun V hV => sl_part hV 6 L (by omega)
        have hf : Sl W (some ⟨g, off, none⟩) (6 + L) c 1 (bcells ((x :: y :: t).take (6 + L))) := ⟨by rw [bcells_len, List.length_take, hl]; omega, by omega, HS.out.cap, (fun e => by cases e), by rw [← bcells_take]; exact HS.out.row.take _⟩
        have Hr := Lib.hid hr
        have Hlr := Lib.hid hlr
        have Hf := Lib.hid hf
        have Hput := Lib.hid (fun (V : World) (hb : Below W.heap.size W V) => (ref_Put8 _ L (c - 6) _ hlr V ((Hr.out W HS.out).on hb) (by omega)).mono fun e w' ⟨A, m, c', he, hm, hs, hbw⟩ => (show ∃ A c', e = Ending.returned (.tuple #[.slice A (L + 6) c', .int .i64 0]) ∧ Sl w' A (L + 6) c' 1 (bcells (putC ((t.drop 4).take L))) ∧ Below W.heap.size W w' from by
          rw [show putE ((t.drop 4).take L) = 0 from by unfold putE; rw [hlr, if_neg hz]] at he
          rw [show putV ((t.drop 4).take L) = putC ((t.drop 4).take L) from by unfold putV; rw [hlr, if_neg hz]] at hm hs
          rw [putC_len, hlr] at hm
          subst hm
          exact ⟨A, c', he, hs, hb.trans (hbw.mono hb.size)⟩))
        clear hL hz hr hf hlr
        go_enter Try.func11, Try.ntmps11
        go_wp2_with fail
        go_quiet (fail)
        go_wp2_with fail
        have hbd : Below W.heap.size W (W.drewN nq) := ⟨rfl, rfl, rfl, Nat.le_refl _, fun _ _ => rfl⟩
        refine (Hput.out _ hbd).mono ?_
        rintro e w1 ⟨A1, c1, rfl, sl1, hb1⟩
        have hbq : ∀ q, Below w1.heap.size w1 (w1.drewN q) := fun q => ⟨rfl, rfl, rfl, Nat.le_refl _, fun _ _ => rfl⟩
        have q1 := fun q => conv_sl (sl1.on (hbq q))
        have q2 := fun q => conv_sl (Hf.out.on (hb1.trans ((hbq q).mono hb1.size)))
        have q10 := conv_sl sl1
        have q20 := conv_sl (Hf.out.on hb1)
        by_cases heq : putC ((t.drop 4).take L) = (x :: y :: t).take (6 + L)
        · have HN1 := Lib.hid (HN.out.trans (if_pos heq))
          rw [heq] at q1 q10
          clear HN heq sl1 Hput hbq
          generalize (⟨((x :: y :: t).take (6 + L)).toArray⟩ : ByteArray) = S at *
          go_wp2_with fail
          go_quiet (fail)
          clear q1 q2 q10 q20
          go_wp2
          go_ret3
          refine next_good (m := 6 + L - 6) HN1.out (by rw [show 6 + L - 6 = L by omega]; exact Hr.out) (6 + (L : Int)) (by omega) _ ?_
          exact ⟨hb1.os, hb1.tape, hb1.output, hb1.size, hb1.block⟩
        · have HN1 := Lib.hid (next_bad (A0 := some ⟨g, off, none⟩) (n0 := n) (c0 := c) (W := W) (HN.out.trans (if_neg heq)))
          have hS := strNe8 heq
          clear HN heq sl1 Hput hbq
          generalize (⟨(putC ((t.drop 4).take L)).toArray⟩ : ByteArray) = S1 at *
          generalize (⟨((x :: y :: t).take (6 + L)).toArray⟩ : ByteArray) = S2 at *
          go_wp2_with fail
          go_quiet (fail)
          clear q1 q2 q10 q20
          go_wp2
          go_ret3
          exact HN1.out _ ⟨hb1.os, hb1.tape, hb1.output, hb1.size, hb1.block⟩
end Go.Proofs.Ytaimciblkimgkaa
