/-
  Layer 8's laws: the contracts of crc's calls; the fixed answer.
-/
import Derived.Test.YtaimciblkimgkaaCrcRefPut
import Derived.Test.YtaimciblkimgkaaConv
namespace Go.Proofs.Ytaimciblkimgkaa
open Go.RowKit

/-- nil, or a row that the call may write behind. -/
def Moz8 (w : World) (base : Nat) (v : Value) (n : Nat) (xs : List Value) : Prop := (v = .slice none 0 0 ∧ n = 0 ∧ xs = []) ∨ Mo w base v n xs
/-- The contracts of layer 8's calls (All's is apart). -/
structure CrcC : Prop where
  sum : ∀ (A : Option Addr) (n c : Nat) (l : List UInt8) (W : World), l.length = n → n ≤ 6000 → Sl W A n c 1 (bcells l) → Calls Try.prog 14 #[.slice A n c] W fun e W' => e = .returned (.int .u32 (sumC l : Nat)) ∧ Below W.heap.size W W'
  put : ∀ (A : Option Addr) (n c : Nat) (r : List UInt8) (W : World), r.length = n → n ≤ 6000 → Sl W A n c 1 (bcells r) → Calls Try.prog 8 #[.slice A n c] W fun e W' => ∃ v, e = .returned (.tuple #[v, .int .i64 (putE r)]) ∧ Moz8 W' W.heap.size v (putV r).length (bcells (putV r)) ∧ Below W.heap.size W W'
  next : ∀ (A : Option Addr) (n c : Nat) (b : List UInt8) (W : World), b.length = n → n ≤ 6000 → Sl W A n c 1 (bcells b) → Calls Try.prog 10 #[.slice A n c] W fun e W' => ∃ A m c, e = .returned (.tuple #[.slice A m c, .int .i64 ((nextC b).2.1 : Nat), .int .i64 (nextC b).2.2]) ∧ (nextC b).1.length = m ∧ Sl W' A m c 1 (bcells (nextC b).1) ∧ Below W.heap.size W W'
theorem convConst8 (W : World) (C : Array Value) (n m m' : Nat) (hm : C.size = m) (hm' : m' = m + 1) : (convert 22 22 (.slice (some ⟨W.heap.size, 0, none⟩) n n)).run Try.prog (W.alloc (.cells C 5)) = .ok (.slice (some ⟨W.heap.size, 0, none⟩) n n) (W.alloc (.cells C 5 (m, m'))) := by
  subst hm; subst hm'
  exact Lib.run_convert_bytes_const W _ _ C n n Try.underlying22 Try.underlying5
theorem sl_lit8 (w : World) (cs : Array Value) (t : TypeId) (n m m' : Nat) (l : List UInt8) (hs : cs.size = n) (hm : m = n) (hx : cs.toList = bcells l) (hn : n ≤ maxLen) : Sl (w.alloc (.cells cs t (m, m'))) (some ⟨w.heap.size, 0, none⟩) n n 1 (bcells l) := by
  obtain ⟨g, c, hv, h, _⟩ := Mo.of_block (base := w.heap.size) (n := n) (cap := n) (Nat.le_refl _) (heap_alloc_new w (.cells cs t (m, m'))) (.inr (show cs.size ≤ m by omega)) hs (show cs.toList.take n = bcells l by rw [← hx]; exact List.take_of_length_le (by rw [Array.length_toList]; omega)) (Nat.le_refl _) hn |>.sl
  injection hv with hv1 _ hv2
  injection hv1 with hv1
  injection hv1 with hv1 _ _
  subst hv1; subst hv2
  exact h
set_option maxRecDepth 100000 in
set_option maxHeartbeats 1000000 in
theorem awake08 (C : CrcC) (w : World) : Calls Try.prog 7 #[] w fun e w' => e = .returned (.bool true) ∧ Below w.heap.size w w' := by
  obtain ⟨i0, hi, iz0, iz1, iz2⟩ := info_parts infoB8
  have k1 := fun W : World => convConst8 W #[.int .u8 97] 1 1 2 rfl rfl
  have k9 := fun W : World => convConst8 W #[.int .u8 49, .int .u8 50, .int .u8 51, .int .u8 52, .int .u8 53, .int .u8 54, .int .u8 55, .int .u8 56, .int .u8 57] 9 9 10 rfl rfl
  have hB0 := (Below.refl w.heap.size w).alloc (Nat.le_refl _) (.cells #[.int .u8 97] 5 (1, 2))
  have hs1 := sl_lit8 w #[.int .u8 97] 5 1 1 2 [97] rfl rfl rfl (by decide)
  have hput := C.put _ 1 1 [97] _ rfl (by decide) hs1
  have e1 : putE [97] = 0 := rfl
  have e2 : putV [97] = putC [97] := rfl
  have Hput := Lib.hid (hput.mono fun e w' ⟨v, he, hm, hb⟩ => (show ∃ v, e = Ending.returned (.tuple #[v, .int .i64 0]) ∧ Mo w' w.heap.size v 7 (bcells (putC [97])) ∧ Below (w.heap.size + 1) (w.alloc (.cells #[.int .u8 97] 5 (1, 2))) w' from by
    rw [e1] at he
    rw [e2, putC_len] at hm
    rw [World.size_alloc] at hm hb
    rcases hm with ⟨_, h0, _⟩ | hm
    · cases h0
    · exact ⟨v, he, hm.base_le (by omega), hb⟩))
  clear hput hs1 e1 e2
  go_enter Try.func7, Try.ntmps7
  go_wp2_with fail
  refine Hput.out.mono ?_
  rintro e w1 ⟨v, rfl, own1, hb1⟩
  have hz1 := hb1.size
  simp only [World.size_alloc] at hz1
  have hB1 : Below w.heap.size w w1 := hB0.trans (hb1.mono (by omega))
  obtain ⟨g1, c1, rfl, hs1, hg1, hg2⟩ := own1.sl
  clear Hput k1
  go_wp2_with (at_builtin; refine wpList_append_mo rfl (.tmp 13) (.tmp 14) 22 rfl w.heap.size 5 i0 Try.underlying22 hi iz0 iz1 iz2 _ _ _ rfl (own1.alloc _) (some ⟨w1.heap.size, 0, none⟩) 2 2 (bcells [1, 2]) rfl (sl_new w1 _ 2 _ _ rfl rfl (by decide)) (bcells_one8 _) (by decide) (by omega) (by simp; omega) ?_)
  intro v3 w3 own3 hg3 _
  have hB3 := (own1.alloc _).below (hB1.alloc (by omega) _) hg3 (by simp; omega) (Nat.le_refl _)
  have own3' : Mo w3 w.heap.size v3 9 (bcells (putC [97] ++ [1, 2])) := own3.cast (by rw [bcells_app]) rfl
  obtain ⟨g3, c3, rfl, hs3, _⟩ := own3'.sl
  have Hnx := Lib.hid ((C.next _ 9 c3 (putC [97] ++ [1, 2]) w3 (by rw [List.length_append, putC_len]; rfl) (by decide) hs3).mono fun e w' ⟨A, m, c, he, h1, h2, h3⟩ => (show ∃ A c, e = Ending.returned (.tuple #[.slice A 1 c, .int .i64 7, .int .i64 0]) ∧ Sl w' A 1 c 1 (bcells [97]) ∧ Below w3.heap.size w3 w' from by
    rw [next_put (by decide)] at he h1 h2
    obtain rfl : m = 1 := h1.symm
    exact ⟨A, c, he, h2, h3⟩))
  clear own3 own3' hs3 hg3 own1 hs1
  go_wp2_with fail
  refine Hnx.out.mono ?_
  rintro e w4 ⟨A4, c4, rfl, hs4, hb4⟩
  have hB4 : Below w.heap.size w w4 := hB3.trans (hb4.mono hB3.size)
  have hB5 := hB4.alloc hB4.size (.cells #[.int .u8 49, .int .u8 50, .int .u8 51, .int .u8 52, .int .u8 53, .int .u8 54, .int .u8 55, .int .u8 56, .int .u8 57] 5 (9, 10))
  have hs5 := sl_lit8 w4 #[.int .u8 49, .int .u8 50, .int .u8 51, .int .u8 52, .int .u8 53, .int .u8 54, .int .u8 55, .int .u8 56, .int .u8 57] 5 9 9 10 [49, 50, 51, 52, 53, 54, 55, 56, 57] rfl rfl rfl (by decide)
  have Hsm := Lib.hid ((C.sum _ 9 9 [49, 50, 51, 52, 53, 54, 55, 56, 57] _ rfl (by decide) hs5).mono fun e w' ⟨he, hb⟩ => (show e = Ending.returned (.int .u32 3421780262) ∧ Below (w4.heap.size + 1) (w4.alloc (.cells #[.int .u8 49, .int .u8 50, .int .u8 51, .int .u8 52, .int .u8 53, .int .u8 54, .int .u8 55, .int .u8 56, .int .u8 57] 5 (9, 10))) w' from ⟨by rw [sumC_test] at he; exact he, by rw [World.size_alloc] at hb; exact hb⟩))
  have HS4 := Lib.hid (hs4.on ((Below.refl w4.heap.size w4).alloc (Nat.le_refl _) (.cells #[.int .u8 49, .int .u8 50, .int .u8 51, .int .u8 52, .int .u8 53, .int .u8 54, .int .u8 55, .int .u8 56, .int .u8 57] 5 (9, 10))))
  clear hs5 Hnx hs4
  go_wp2_with fail
  refine Hsm.out.mono ?_
  rintro e w6 ⟨rfl, hb6⟩
  have hB6 : Below w.heap.size w w6 := hB5.trans (hb6.mono (by have := hB4.size; omega))
  have hcv := conv_sl (l := [97]) (HS4.out.on (by rw [World.size_alloc]; exact hb6))
  clear Hsm HS4 k9
  go_wp2
  go_ret
  exact ⟨rfl, hB6⟩
end Go.Proofs.Ytaimciblkimgkaa
