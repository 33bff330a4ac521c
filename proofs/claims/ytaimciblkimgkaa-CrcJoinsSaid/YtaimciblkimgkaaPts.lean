/-
  Parts of bytes that stand one behind the other: slices, and what they read as; slices.Concat of any number of them.
-/
import Derived.Test.YtaimciblkimgkaaGrow
namespace Go.Proofs.Ytaimciblkimgkaa
open Go.RowKit

/-- A part: a slice, and what it reads as. -/
structure Pt where
  A : Option Addr
  n : Nat
  c : Nat
  l : List UInt8
def Pt.val (p : Pt) : Value := .slice p.A p.n p.c
def Pts (w : World) (ps : List Pt) : Prop := ∀ p ∈ ps, Sl w p.A p.n p.c 1 (bcells p.l)
theorem Pts.on {w w' : World} {ps : List Pt} (h : Pts w ps) (hb : Below w.heap.size w w') : Pts w' ps := fun p hp => (h p hp).on hb
theorem Pts.nil (w : World) : Pts w [] := fun p hp => by cases hp
theorem Pts.cons {w : World} {A : Option Addr} {n c : Nat} {l : List UInt8} {ps : List Pt} (h : Sl w A n c 1 (bcells l)) (hs : Pts w ps) : Pts w (⟨A, n, c, l⟩ :: ps) := fun p hp => by
  rcases List.mem_cons.1 hp with rfl | hp
  · exact h
  · exact hs p hp
def PtsSz (ps : List Pt) : Prop := ∀ p ∈ ps, p.n ≤ 1000000
theorem PtsSz.nil : PtsSz [] := fun p hp => by cases hp
theorem PtsSz.cons {A : Option Addr} {n c : Nat} {l : List UInt8} {ps : List Pt} (h : n ≤ 1000000) (hs : PtsSz ps) : PtsSz (⟨A, n, c, l⟩ :: ps) := fun p hp => by
  rcases List.mem_cons.1 hp with rfl | hp
  · exact h
  · exact hs p hp
def joined (ps : List Pt) : List UInt8 := ps.flatMap (·.l)
theorem joined_take {ps : List Pt} {i : Nat} (h : i < ps.length) : joined (ps.take (i + 1)) = joined (ps.take i) ++ ps[i].l := by
  unfold joined
  rw [List.take_succ_eq_append_getElem h, List.flatMap_append]
  simp
/-- The parts that a call lays down in one row. -/
theorem parts_row {w : World} {ps : List Pt} {cs : Array Value} {t : TypeId} (h : cs.toList = ps.map Pt.val) : Row (w.alloc (.cells cs t)) (some ⟨w.heap.size, 0, none⟩) (ps.map Pt.val) := by
  refine .inr ⟨_, 0, rfl, fun i u hu => ?_⟩
  rw [Nat.zero_add, (Box.new w cs t).cell i]
  rw [← h] at hu; simpa using hu
theorem parts_cell {w : World} {g off : Nat} {ps : List Pt} (h : Row w (some ⟨g, off, none⟩) (ps.map Pt.val)) {i : Nat} (hi : i < ps.length) : w.cell? ⟨g, off + i, none⟩ = some ps[i].val := by
  rcases h with h0 | ⟨b', o', e, hc⟩
  · rw [List.map_eq_nil_iff] at h0; rw [h0] at hi; exact absurd hi (by simp)
  · injection e with e; injection e with e1 e2 _; subst e1; subst e2
    exact hc i _ (by rw [List.getElem?_map, List.getElem?_eq_getElem hi]; rfl)
def sizeL (ps : List Pt) : Nat := (ps.map (·.n)).sum
theorem sizeL_take {ps : List Pt} {i : Nat} (h : i < ps.length) : sizeL (ps.take (i + 1)) = sizeL (ps.take i) + ps[i].n := by
  unfold sizeL
  rw [List.take_succ_eq_append_getElem h, List.map_append, List.sum_append]
  simp
theorem sizeL_le (ps : List Pt) (i : Nat) : sizeL (ps.take i) ≤ sizeL ps := by
  conv => rhs; rw [← List.take_append_drop i ps]
  unfold sizeL
  rw [List.map_append, List.sum_append]
  exact Nat.le_add_right ..
theorem bcells_oneP (l : List UInt8) : ∀ u ∈ bcells l, u.oneCell' = true := by
  intro u hu
  unfold bcells at hu
  obtain ⟨c, _, rfl⟩ := List.mem_map.1 hu
  rfl
set_option maxRecDepth 100000 in
set_option maxHeartbeats 2000000 in
theorem own_concat (g off m : Nat) (ps : List Pt) (w : World) (hps : Pts w ps) (hrow : Row w (some ⟨g, off, none⟩) (ps.map Pt.val)) (hm : ps.length = m) (hm2 : m ≤ 1000) (hsz : sizeL ps ≤ 2000000) :
    Calls Try.prog 19 #[.slice (some ⟨g, off, none⟩) m m] w fun e w' => ∃ v, e = .returned v ∧ w'.ownsRow w.heap.size 5 1 v (sizeL ps) (bcells (joined ps)) ∧ Below w.heap.size w w' := by
  have HP := Lib.hid hps
  have HR := Lib.hid hrow
  obtain ⟨i0, hi, iz0, iz1, iz2⟩ := info_parts infoGrow
  clear hps hrow
  go_enter Try.func19, Try.ntmps19
  go_wp2
  go_loopw [3, 11] (fun s3 s11 wr => wr = w ∧ ∃ i : Nat, i ≤ m ∧ s11 = .int .i64 (i : Nat) ∧ s3 = .int .i64 (sizeL (ps.take i) : Nat)) (fun _ s11 _ => m - (intOf s11).toNat)
  case atStart => exact ⟨rfl, 0, by omega, rfl, rfl⟩
  case round =>
    obtain ⟨hw, i, hile, rfl, rfl⟩ := hrel
    subst wr
    by_cases hlt : i < m
    · have hip : i < ps.length := by omega
      have hcell := parts_cell HR.out hip
      have HT := Lib.hid (sizeL_take hip)
      have hle := sizeL_le ps (i + 1)
      rw [HT.out] at hle
      have hii : (i : Int) < (m : Int) := by omega
      generalize sizeL (ps.take i) = z at *
      generalize ps[i] = p at *
      obtain ⟨A, n, c, l⟩ := p
      replace hcell : w.cell? ⟨g, off + i, none⟩ = some (.slice A n c) := hcell
      replace hle : z + n ≤ sizeL ps := hle
      replace HT : Hid (sizeL (ps.take (i + 1)) = z + n) := HT
      have hn0 : (0 : Int) ≤ (n : Int) := by omega
      go_wp2
      go_roundw
      case rel => exact ⟨by first | rfl | trivial, i + 1, by omega, by go_num, by rw [HT.out]; go_num⟩
      case measure => simp [intOf]; omega
    · obtain rfl : i = m := by omega
      have HS := Lib.hid (show sizeL (ps.take i) = sizeL ps from by rw [List.take_of_length_le (Nat.le_of_eq hm)])
      rw [HS.out]
      generalize hz : sizeL ps = z at *
      have HZ := Lib.hid hz
      clear hz
      have Hgr := Lib.hid (grow_nil z w hsz)
      go_wp2_with fail
      refine Hgr.out.mono ?_
      rintro e w2 ⟨v, rfl, hown, hb⟩
      go_wp2
      go_loopw [6, 27] (fun s6 s27 ww => ∃ k : Nat, k ≤ i ∧ s27 = .int .i64 (k : Nat) ∧ Hid (Below w.heap.size w ww) ∧ Hid (ww.ownsRow w.heap.size 5 1 s6 (sizeL (ps.take k)) (bcells (joined (ps.take k))))) (fun _ s27 _ => i - (intOf s27).toNat)
      case atStart => exact ⟨0, by omega, rfl, Lib.hid hb, Lib.hid hown⟩
      case round =>
        clear hown hb Hgr
        obtain ⟨k, hk, rfl, HB, HO⟩ := hrel
        by_cases hlt : k < i
        · have hip : k < ps.length := by omega
          have hmem : ps[k] ∈ ps := List.getElem_mem hip
          have hcell := parts_cell (HR.out.on HB.out) hip
          have hsl := (HP.out.on HB.out) _ hmem
          have HT := Lib.hid (sizeL_take hip)
          have HJ := Lib.hid (joined_take hip)
          have hle := sizeL_le ps (k + 1)
          rw [HT.out, HZ.out] at hle
          have hki : (k : Int) < (i : Int) := by omega
          have hown := HO.out
          generalize sizeL (ps.take k) = y at *
          generalize joined (ps.take k) = J at *
          generalize ps[k] = p at *
          obtain ⟨A, n, c, l⟩ := p
          replace hcell : wr.cell? ⟨g, off + k, none⟩ = some (.slice A n c) := hcell
          replace hle : y + n ≤ z := hle
          replace HT : Hid (sizeL (ps.take (k + 1)) = y + n) := HT
          replace HJ : Hid (joined (ps.take (k + 1)) = J ++ l) := HJ
          have hx : Sl wr A n c 1 (bcells l) := hsl
          have hzw := HB.out.size
          clear hsl hmem
          go_wp2_with (at_builtin; refine wpList_append_sl rfl (.tmp 31) (.tmp 32) 22 rfl w.heap.size 5 i0 (.int .u8 0) 1 1 Try.underlying22 hi iz0 iz1 iz2 rfl (by decide) _ _ _ rfl hown A n c (bcells l) rfl hx (bcells_oneP _) ?c3 ?c4 ?c5 ?_)
          case c3 => unfold maxLen; omega
          case c4 => omega
          case c5 => omega
          intro v3 w3 own3 hg3
          have HB3 := Lib.hid (below_own HB.out hg3 hzw hown)
          have HO3 := Lib.hid (show w3.ownsRow w.heap.size 5 1 v3 (sizeL (ps.take (k + 1))) (bcells (joined (ps.take (k + 1)))) from by rw [HT.out, HJ.out, bcells_app]; exact own3)
          clear hg3 hown hx hcell own3
          go_wp2
          go_roundw
          case rel => exact ⟨k + 1, by omega, by go_num, HB3, HO3⟩
          case measure => simp [intOf]; omega
        · obtain rfl : k = i := by omega
          have hown := HO.out
          rw [List.take_of_length_le (Nat.le_of_eq hm), HZ.out] at hown
          have HO2 := Lib.hid hown
          clear hown
          go_wp2
          go_ret
          exact ⟨_, rfl, by rw [HZ.out]; exact HO2.out, HB.out⟩
end Go.Proofs.Ytaimciblkimgkaa
