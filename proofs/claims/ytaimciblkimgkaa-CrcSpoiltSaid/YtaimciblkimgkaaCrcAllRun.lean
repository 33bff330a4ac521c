/-
  Layer 8: all records at the beginning: the document's own way, and the program's: the contracts.
-/
import Derived.Test.YtaimciblkimgkaaCrcNext
import Derived.Test.YtaimciblkimgkaaCrcAll
import Derived.Test.YtaimciblkimgkaaLstSame
namespace Go.Proofs.Ytaimciblkimgkaa
open Go.RowKit

def AllPost8 (b : List UInt8) (w : World) (e : Ending) (w' : World) : Prop :=
  ∃ B m d, e = .returned (.tuple #[.slice B m d, .int .i64 ((allS b).2 : Nat)]) ∧ SlS w' B m d (allS b).1 ∧ Below w.heap.size w w'
theorem allS_step {T r : List UInt8} {rs : List (List UInt8)} {p : Nat} (h : allS T = (rs ++ (allS (T.drop p)).1, p + (allS (T.drop p)).2)) (hn : nextC (T.drop p) = (r, 6 + r.length, 0)) :
    allS T = ((rs ++ [r]) ++ (allS (T.drop (p + (6 + r.length)))).1, (p + (6 + r.length)) + (allS (T.drop (p + (6 + r.length)))).2) := by
  rw [h, allS_good hn, List.drop_drop]
  simp
  omega
theorem allS_end {T : List UInt8} {rs : List (List UInt8)} {p : Nat} {e : Int} (h : allS T = (rs ++ (allS (T.drop p)).1, p + (allS (T.drop p)).2)) (hn : nextC (T.drop p) = ([], 0, e)) (he : e ≠ 0) : allS T = (rs, p) := by
  rw [h, allS_bad hn he]
  simp
set_option maxRecDepth 100000 in
set_option maxHeartbeats 2000000 in
theorem ref_All8 (A : Option Addr) (n c : Nat) (T : List UInt8) (hl : T.length = n) (w : World) (h : Sl w A n c 1 (bcells T)) (hn : n ≤ 1000000) :
    Calls Try.prog 13 #[.slice A n c] w (AllPost8 T w) := by
  have hcm := h.cap
  have hle := h.le
  unfold maxLen at hcm
  have HS := Lib.hid h
  have Hl := Lib.hid hl
  obtain ⟨s0, hsi, sz0, sz1, sz2⟩ := info_parts infoSs
  clear h hl
  go_enter Try.func13, Try.ntmps13
  go_wp2
  go_loopw [4, 5] (fun s4 s5 wr => ∃ (p : Nat) (rs : List (List UInt8)) (vs : List Value), s5 = .int .i64 (p : Nat) ∧ p ≤ n ∧ rs.length ≤ p ∧ wr.ownsRow w.heap.size 22 1 s4 rs.length vs ∧ Hid (Lss w vs rs) ∧
      Hid (allS T = (rs ++ (allS (T.drop p)).1, p + (allS (T.drop p)).2)) ∧ Below w.heap.size w wr) (fun _ s5 _ => n - (intOf s5).toNat)
  case atStart => exact ⟨0, [], [], rfl, by omega, by simp, World.ownsRow_nil _ _ _ _, Lib.hid (Lss.nil _), Lib.hid (by simp), Below.refl _ _⟩
  case round =>
    obtain ⟨p, rs, vs, rfl, hpn, hrp, hown, HL, HF, hb⟩ := hrel
    by_cases hlt : p < n
    · obtain ⟨g, off, rfl⟩ : ∃ g off, A = some ⟨g, off, none⟩ := by
        rcases HS.out.row with h0 | ⟨g, off, e, _⟩
        · have := HS.out.len; rw [h0] at this; simp at this; omega
        · exact ⟨g, off, e⟩
      have hcp : ¬ c = p := by omega
      have hpi : (p : Int) < (n : Int) := by omega
      have hrl : (T.drop p).length = n - p := by rw [List.length_drop, Hl.out]
      have Hsl := Lib.hid (sl_tail HS.out p hpn)
      have Hnx := Lib.hid (ref_Next8 (some ⟨g, off + p, none⟩) (n - p) (c - p) (T.drop p) hrl wr (Hsl.out.on hb) (by omega))
      rcases next_cases (T.drop p) with ⟨e, he, hx⟩ | ⟨r, hx, h1, h2⟩
      · have Hnx := Lib.hid (Hnx.out.mono fun e1 w' ⟨A, m, c, he1, _, hb1⟩ => (show ∃ A m c, e1 = Ending.returned (.tuple #[.slice A m c, .int .i64 0, .int .i64 e]) ∧ Below wr.heap.size wr w' from by rw [hx] at he1; exact ⟨A, m, c, he1, hb1⟩))
        have HE := Lib.hid (allS_end HF.out hx he)
        have heb : (e != (0 : Int)) = true := by rw [bne_iff_ne]; exact he
        clear hx HF he
        go_wp2_with fail
        refine Hnx.out.mono ?_
        rintro e w2 ⟨A2, m2, c2, rfl, hb2⟩
        obtain ⟨B, d, rfl, hsl⟩ := SlS.of_own (own_on hown hb2) ((HL.out.on hb).on hb2)
        have HR := Lib.hid hsl
        clear Hnx hown HL hsl
        go_wp2
        go_ret2
        exact ⟨B, rs.length, d, by rw [HE.out]; rfl, by rw [HE.out]; exact HR.out, hb.trans (hb2.mono hb.size)⟩
      · rw [hrl] at h2
        have Hnx := Lib.hid (Hnx.out.mono fun e1 w' ⟨A, m, c, he1, hs1, hb1⟩ => (show ∃ A m c, e1 = Ending.returned (.tuple #[.slice A m c, .int .i64 ((6 + r.length : Nat) : Int), .int .i64 0]) ∧ Sl w A m c 1 (bcells r) ∧ Below wr.heap.size wr w' from by
          have hs2 := hs1 w Hsl.out
          rw [hx] at he1 hs2; exact ⟨A, m, c, he1, hs2, hb1⟩))
        have HF2 := Lib.hid (allS_step HF.out hx)
        have h7 : 7 ≤ 6 + r.length := by omega
        clear hx HF
        generalize 6 + r.length = N at *
        go_wp2_with fail
        refine Hnx.out.mono ?_
        rintro e w2 ⟨A2, n2, c2, rfl, hs2, hb2⟩
        have hb2' : Below w.heap.size w w2 := hb.trans (hb2.mono hb.size)
        have own2 := own_on hown hb2
        have hz2 := hb2'.size
        have HL2 := Lib.hid (HL.out.add hs2)
        clear Hnx hown HL hs2 Hsl
        go_wp2_with (at_builtin; refine wpList_append_own _ rfl (.tmp 25) (.tmp 27) 33 rfl w.heap.size 22 s0 (.slice none 0 0) 1 24 Try.underlying33 hsi sz0 sz1 sz2 rfl (by decide) _ _ _ rfl (own2.alloc _) ⟨w2.heap.size, 0, none⟩ 1 1 [.slice A2 n2 c2] rfl rfl (box_news8 w2 _ _) (cell1s _ _ _) ?e3 ?e4 ?e5 ?_)
        case e3 => unfold maxLen; omega
        case e4 => omega
        case e5 => simp; omega
        intro v3 w3 own3 hg3 _
        have hb3 := below_own (hb2'.alloc hz2 _) hg3 (by simp; omega) (own2.alloc _)
        have own4 : w3.ownsRow w.heap.size 22 1 v3 (rs ++ [r]).length (vs ++ [.slice A2 n2 c2]) := own_cast own3 rfl (by simp)
        clear hg3 own3 own2
        go_wp2
        go_roundw
        case rel => exact ⟨p + N, rs ++ [r], vs ++ [.slice A2 n2 c2], by go_num, by omega, by simp; omega, own4, HL2, HF2, hb3⟩
        case measure => simp [intOf]; omega
    · obtain rfl : p = n := by omega
      have HE := Lib.hid (allS_end (e := 2) HF.out (by rw [List.drop_eq_nil_of_le (by rw [Hl.out]; omega)]; rfl) (by decide))
      obtain ⟨B, d, rfl, hsl⟩ := SlS.of_own hown (HL.out.on hb)
      have HR := Lib.hid hsl
      clear HF hown HL
      go_wp2
      go_ret2
      exact ⟨B, rs.length, d, by rw [HE.out]; rfl, by rw [HE.out]; exact HR.out, hb⟩
set_option maxRecDepth 100000 in
set_option maxHeartbeats 2000000 in
theorem own_All8 (A : Option Addr) (n c : Nat) (T : List UInt8) (hl : T.length = n) (w : World) (h : Sl w A n c 1 (bcells T)) (hn : n ≤ 1000000) :
    Calls Try.prog 12 #[.slice A n c] w (AllPost8 T w) := by
  have hcm := h.cap
  have hle := h.le
  unfold maxLen at hcm
  have HS := Lib.hid h
  have Hl := Lib.hid hl
  obtain ⟨s0, hsi, sz0, sz1, sz2⟩ := info_parts infoSs
  clear h hl
  go_enter Try.func12, Try.ntmps12
  go_wp2
  go_loopw [4, 5] (fun s4 s5 wr => ∃ (p : Nat) (rs : List (List UInt8)) (vs : List Value), s5 = .int .i64 (p : Nat) ∧ p ≤ n ∧ rs.length ≤ p ∧ wr.ownsRow w.heap.size 22 1 s4 rs.length vs ∧ Hid (Lst wr vs rs) ∧
      Hid (allS T = (rs ++ (allS (T.drop p)).1, p + (allS (T.drop p)).2)) ∧ Below w.heap.size w wr) (fun _ s5 _ => n + 1 - (intOf s5).toNat)
  case atStart => exact ⟨0, [], [], rfl, by omega, by simp, World.ownsRow_nil _ _ _ _, Lib.hid (Lst.nil _), Lib.hid (by simp), Below.refl _ _⟩
  case round =>
    obtain ⟨p, rs, vs, rfl, hpn, hrp, hown, HL, HF, hb⟩ := hrel
    have hrl : (T.drop p).length = n - p := by rw [List.length_drop, Hl.out]
    by_cases hlt : p < n
    · obtain ⟨g, off, rfl⟩ : ∃ g off, A = some ⟨g, off, none⟩ := by
        rcases HS.out.row with h0 | ⟨g, off, e, _⟩
        · have := HS.out.len; rw [h0] at this; simp at this; omega
        · exact ⟨g, off, e⟩
      have hcp : ¬ c = p := by omega
      have Hnx := Lib.hid (own_Next8 (some ⟨g, off + p, none⟩) (n - p) (c - p) (T.drop p) hrl wr ((sl_tail HS.out p hpn).on hb) (by omega))
      rcases next_cases (T.drop p) with ⟨e, he, hx⟩ | ⟨r, hx, h1, h2⟩
      · have Hnx := Lib.hid (Hnx.out.mono fun e1 w' ⟨A, m, c, he1, _, hb1⟩ => (show ∃ A m c, e1 = Ending.returned (.tuple #[.slice A m c, .int .i64 0, .int .i64 e]) ∧ Below wr.heap.size wr w' from by rw [hx] at he1; exact ⟨A, m, c, he1, hb1⟩))
        have HE := Lib.hid (allS_end HF.out hx he)
        have heb : (e != (0 : Int)) = true := by rw [bne_iff_ne]; exact he
        clear hx HF he
        go_wp2_with fail
        refine Hnx.out.mono ?_
        rintro e w2 ⟨A2, m2, c2, rfl, hb2⟩
        obtain ⟨B, d, rfl, hsl⟩ := SlS.of_own (own_on hown hb2) (Lss.of ((HL.out).on hb2))
        have HR := Lib.hid hsl
        clear Hnx hown HL hsl
        go_wp2
        go_ret2
        exact ⟨B, rs.length, d, by rw [HE.out]; rfl, by rw [HE.out]; exact HR.out, hb.trans (hb2.mono hb.size)⟩
      · rw [hrl] at h2
        have Hnx := Lib.hid (Hnx.out.mono fun e1 w' ⟨A, m, c, he1, hs1, hb1⟩ => (show ∃ A m c, e1 = Ending.returned (.tuple #[.slice A m c, .int .i64 ((6 + r.length : Nat) : Int), .int .i64 0]) ∧ El w' A m c r ∧ Below wr.heap.size wr w' from by
          rw [hx] at he1 hs1; exact ⟨A, m, c, he1, hs1, hb1⟩))
        have HF2 := Lib.hid (allS_step HF.out hx)
        have h7 : 7 ≤ 6 + r.length := by omega
        clear hx HF
        generalize 6 + r.length = N at *
        go_wp2_with fail
        refine Hnx.out.mono ?_
        rintro e w2 ⟨A2, n2, c2, rfl, hel2, hb2⟩
        have hb2' : Below w.heap.size w w2 := hb.trans (hb2.mono hb.size)
        have own2 := own_on hown hb2
        have hz2 := hb2'.size
        have hl2 := (HL.out.on hb2).app (Lst.one hel2)
        have HL3 := Lib.hid (hl2.on ((Below.refl w2.heap.size w2).alloc (Nat.le_refl _) (.cells #[.slice A2 n2 c2] 22)))
        clear Hnx hown HL hel2 hl2
        go_wp2_with (at_builtin; refine wpList_append_own _ rfl (.tmp 21) (.tmp 23) 33 rfl w.heap.size 22 s0 (.slice none 0 0) 1 24 Try.underlying33 hsi sz0 sz1 sz2 rfl (by decide) _ _ _ rfl (own2.alloc _) ⟨w2.heap.size, 0, none⟩ 1 1 [.slice A2 n2 c2] rfl rfl (box_news8 w2 _ _) (cell1s _ _ _) ?e3 ?e4 ?e5 ?_)
        case e3 => unfold maxLen; omega
        case e4 => omega
        case e5 => simp; omega
        intro v3 w3 own3 hg3 _
        have hb3 := below_own (hb2'.alloc hz2 _) hg3 (by simp; omega) (own2.alloc _)
        have HL4 := Lib.hid (HL3.out.grown hg3 (own2.alloc _) (by decide))
        have own4 : w3.ownsRow w.heap.size 22 1 v3 (rs ++ [r]).length (vs ++ [.slice A2 n2 c2]) := own_cast own3 rfl (by simp)
        clear hg3 own3 own2 HL3
        go_wp2
        go_roundw
        case rel => exact ⟨p + N, rs ++ [r], vs ++ [.slice A2 n2 c2], by go_num, by omega, by simp; omega, own4, HL4, HF2, hb3⟩
        case measure => simp [intOf]; omega
    · obtain rfl : p = n := by omega
      have hd0 : T.drop p = [] := List.drop_eq_nil_of_le (by rw [Hl.out]; omega)
      have HE := Lib.hid (allS_end (e := 2) HF.out (by rw [hd0]; rfl) (by decide))
      have Hnx := Lib.hid (fun (A1 : Option Addr) (c1 : Nat) (hs : Sl wr A1 0 c1 1 (bcells [])) => (own_Next8 A1 0 c1 [] rfl wr hs (by decide)).mono fun e1 w' ⟨A, m, c, he1, _, hb1⟩ => (show ∃ A m c, e1 = Ending.returned (.tuple #[.slice A m c, .int .i64 0, .int .i64 2]) ∧ Below wr.heap.size wr w' from ⟨A, m, c, he1, hb1⟩))
      clear HF
      rcases A with _ | ⟨g, off, sp⟩
      · obtain ⟨rfl, rfl⟩ := HS.out.nil rfl
        have Hnx := Lib.hid (Hnx.out none 0 (Sl.none_ _ _))
        go_wp2_with fail
        refine Hnx.out.mono ?_
        rintro e w2 ⟨A2, m2, c2, rfl, hb2⟩
        obtain ⟨B, d, rfl, hsl⟩ := SlS.of_own (own_on hown hb2) (Lss.of ((HL.out).on hb2))
        have HR := Lib.hid hsl
        clear Hnx hown HL hsl
        go_wp2
        go_ret2
        exact ⟨B, rs.length, d, by rw [HE.out]; rfl, by rw [HE.out]; exact HR.out, hb.trans (hb2.mono hb.size)⟩
      · by_cases hcp : c = p
        · subst hcp
          have Hnx := Lib.hid (Hnx.out (some ⟨g, off, sp⟩) 0 ⟨rfl, by omega, by unfold maxLen; omega, (fun e => by cases e), .inl rfl⟩)
          go_wp2_with fail
          refine Hnx.out.mono ?_
          rintro e w2 ⟨A2, m2, c2, rfl, hb2⟩
          obtain ⟨B, d, rfl, hsl⟩ := SlS.of_own (own_on hown hb2) (Lss.of ((HL.out).on hb2))
          have HR := Lib.hid hsl
          clear Hnx hown HL hsl
          go_wp2
          go_ret2
          exact ⟨B, rs.length, d, by rw [HE.out]; rfl, by rw [HE.out]; exact HR.out, hb.trans (hb2.mono hb.size)⟩
        · have Hnx := Lib.hid (Hnx.out (some (Addr.add ⟨g, off, sp⟩ p)) (c - p) ⟨rfl, by omega, by unfold maxLen; omega, (fun e => by cases e), .inl rfl⟩)
          go_wp2_with fail
          refine Hnx.out.mono ?_
          rintro e w2 ⟨A2, m2, c2, rfl, hb2⟩
          obtain ⟨B, d, rfl, hsl⟩ := SlS.of_own (own_on hown hb2) (Lss.of ((HL.out).on hb2))
          have HR := Lib.hid hsl
          clear Hnx hown HL hsl
          go_wp2
          go_ret2
          exact ⟨B, rs.length, d, by rw [HE.out]; rfl, by rw [HE.out]; exact HR.out, hb.trans (hb2.mono hb.size)⟩
end Go.Proofs.Ytaimciblkimgkaa
