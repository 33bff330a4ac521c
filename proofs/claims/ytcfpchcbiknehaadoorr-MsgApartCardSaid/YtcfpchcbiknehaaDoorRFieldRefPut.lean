/-
  Layer 2: the document's answer for Put: its contract.
-/
import Derived.Test.YtcfpchcbiknehaaDoorRFieldRef
import Derived.Lib.ConvBytes
namespace Go.Proofs.YtcfpchcbiknehaaDoorR
open Go.RowKit

theorem below_bytes {B : Nat} {a w : World} (h : Below B a w) (hB : B ≤ w.heap.size) (e : TypeId) (s : ByteArray) : Below B a (Lib.bytesWorld w e s) :=
  ⟨h.os, h.tape, h.output, by rw [Lib.bytesWorld_size]; exact Nat.le_succ_of_le h.size, fun k hk => (Lib.bytesWorld_at_old w e s k (by omega)).trans (h.block k hk)⟩
theorem bytes_news (w : World) (e : TypeId) (s : ByteArray) (j : Nat) (u : Value) (hu : (bcells s.data.toList)[j]? = some u) : (Lib.bytesWorld w e s).cell? ((⟨w.heap.size, 0, none⟩ : Addr).add j) = some u := by
  rw [addr_at, Nat.zero_add]
  have hj : j < s.data.toList.length := by
    rcases Nat.lt_or_ge j s.data.toList.length with h | h
    · exact h
    · rw [List.getElem?_eq_none (by rw [bcells_len]; exact h)] at hu; cases hu
  rw [Lib.bytesWorld_cell w e s j (by simpa using hj), ← hu, bcells_get hj, List.getD, List.getElem?_eq_getElem hj]
  rfl
theorem bcells_one (l : List UInt8) : ∀ u ∈ bcells l, u.oneCell' = true := by
  intro u hu
  simp only [bcells, List.mem_map] at hu
  obtain ⟨_, _, rfl⟩ := hu
  rfl
theorem box_news (w : World) (v : Value) (t : TypeId) (j : Nat) (u : Value) (hu : [v][j]? = some u) : (w.alloc (.cells #[v] t)).cell? ((⟨w.heap.size, 0, none⟩ : Addr).add j) = some u := by
  match j, hu with
  | 0, hu => cases hu; exact (Box.new w #[v] t).cell 0
theorem one_cell1 (k : IntKind) (n : Int) : ∀ u ∈ [Value.int k n], u.oneCell' = true := by intro u hu; simp at hu; subst hu; rfl
theorem runBytes (w : World) (s : ByteArray) : (convert 9 28 (.string s)).run Tryd.prog w = .ok (.slice (some ⟨w.heap.size, 0, none⟩) s.size (grownCap w s.size 0 5)) (Lib.bytesWorld w 5 s) :=
  Lib.run_convert_string_bytes w 9 28 5 s Tryd.underlying9 Tryd.underlying28 Tryd.underlying5

set_option maxRecDepth 100000 in
set_option maxHeartbeats 1000000 in
theorem ref_FPut (A : Option Addr) (c : Nat) (l : List Fld) (w : World) (h : Row w A (fcells l)) (hv : ∀ f ∈ l, f.val.size ≤ 1000000) (hl : l.length ≤ 1000000) :
    Calls Tryd.prog 22 #[.slice A l.length c] w (PutPost l w) := by
  have HR := Lib.hid h; clear h
  have HV := Lib.hid hv; clear hv
  have kc := runBytes
  obtain ⟨i0, hi, iz0, iz1, iz2⟩ := info_parts infoB
  by_cases hlong : 100 < l.length
  · have ⟨e1, e2⟩ := putE_long hlong
    have HP : Hid (∀ e w', e = .returned (.tuple #[.slice none 0 0, .int .i64 4]) ∧ Below w.heap.size w w' → PutPost l w e w') := fun e w' h => ⟨none, 0, 0, by rw [e1]; exact h.1, by rw [e2]; exact Sl.none_ _ _, h.2, .inl rfl⟩
    clear e1 e2
    go_enter Tryd.func22, Tryd.ntmps22
    go_wp2
    go_ret2
    exact HP.out _ _ ⟨rfl, Below.refl _ _⟩
  · have hBad : Hid (l.all Fld.right = false → ∀ e w', e = .returned (.tuple #[.slice none 0 0, .int .i64 1]) ∧ Below w.heap.size w w' → PutPost l w e w') := fun ha e w' h => by
      have ⟨e1, e2⟩ := putE_arg hlong ha
      exact ⟨none, 0, 0, by rw [e1]; exact h.1, by rw [e2]; exact Sl.none_ _ _, h.2, .inl rfl⟩
    have hGood : Hid (l.all Fld.right = true → ∀ e w' v n, w'.ownsRow w.heap.size 5 1 v n (bcells (putL l)) → e = .returned (.tuple #[v, .int .i64 0]) ∧ Below w.heap.size w w' → PutPost l w e w') := fun ha e w' v n ho h => by
      have ⟨e1, e2⟩ := putE_ok hlong ha
      obtain ⟨A, c, rfl, hs, fm⟩ := Sl.of_own ho
      exact ⟨A, n, c, by rw [e1]; exact h.1, by rw [e2]; exact hs, h.2, fm⟩
    go_enter Tryd.func22, Tryd.ntmps22
    go_wp2
    go_loopw [4, 5] (fun v i wr => ∃ k : Nat, k ≤ l.length ∧ i = .int .i64 k ∧ Hid ((l.take k).all Fld.right = true) ∧ wr.ownsRow w.heap.size 5 1 v (putL (l.take k)).length (bcells (putL (l.take k))) ∧ Below w.heap.size w wr) (fun _ i _ => l.length - (intOf i).toNat)
    case atStart => exact ⟨0, Nat.zero_le _, rfl, rfl, World.ownsRow_nil _ _ _ _, Below.refl _ _⟩
    case round =>
      obtain ⟨k, hk, rfl, H, hown, hb⟩ := hrel
      by_cases hlt : k < l.length
      · have hrow := HR.out.on hb
        obtain ⟨b, off, rfl, g0, g1⟩ := HR.out.fld hlt
        have hz := hb.size
        have hbw := cell_lt g0
        have hcl : Hid (∀ W, Below w.heap.size w W → W.cell? ⟨b, off + k * 2, none⟩ = some (.int .i64 l[k].tag) ∧ W.cell? ⟨b, off + k * 2 + 1, none⟩ = some (.string l[k].val)) :=
          fun W hW => ⟨(hW.cell (p := ⟨b, _, none⟩) hbw).trans g0, (hW.cell (p := ⟨b, _, none⟩) hbw).trans g1⟩
        have ⟨h0, h1⟩ := hcl.out wr hb
        clear g0 g1 hrow
        have Ht := Lib.hid (all_take_f l k hlt)
        have Hp := Lib.hid (putL_take l k hlt)
        have Hbad := Lib.hid (all_bad l k hlt)
        have hsz := HV.out _ (List.getElem_mem hlt)
        have Hlen := Lib.hid (putL_len H.out)
        have hright := ref_FRight l[k].tag l[k].val (by unfold maxLen; omega)
        have hf : Hid (l[k].right = true → rightT l[k].tag = true ∧ l[k].val.size ≤ 256) := fun h => by
          simp only [Fld.right, Bool.and_eq_true] at h
          exact ⟨h.1, by have := (rightV_iff.1 h.2).2.1; simpa using this⟩
        have er : (Fld.mk l[k].tag l[k].val).right = l[k].right := rfl
        rw [er] at hright
        generalize l[k].tag = t at *
        generalize l[k].val = s at *
        generalize l[k].right = r at *
        have Hright := Lib.hid hright; clear hright er
        go_wp2_with fail
        refine (Hright.out _).mono ?_
        rintro e w1 ⟨rfl, hb1⟩
        (obtain ⟨hc1, hf1⟩ := bcell hb1; have hz1 := hb1.size; (repeat (first | rw [World.size_alloc] at hz1 | rw [World.size_setCell] at hz1 | rw [World.size_drew] at hz1)); have hB1 : Below w.heap.size w w1 := Below.trans (by go_grown) (hb1.mono (by go_size)))
        rcases r with _ | _
        · have HB := Lib.hid (hBad.out (Hbad.out rfl))
          go_wp2
          go_ret2
          exact HB.out _ _ ⟨rfl, hB1⟩
        · have ⟨ft, fs⟩ := hf.out rfl
          have ⟨t0, t1⟩ := rightT_iff.1 ft
          have hsh := show_len ft
          clear hf Hbad
          have hshow : Hid (∀ w, Calls Tryd.prog 41 #[.int .i64 t] w fun e w' => e = .returned (.string ⟨(showL t).toArray⟩) ∧ w = w') := fun w => ref_Show t w
          rw [← size_mk] at hsh
          have hown1 := own_on hown hb1
          have hpl := Hlen.out.1
          have htl : (l.take k).length ≤ 100 := by simp; omega
          generalize hq : putL (l.take k) = q at *
          have Hq := Lib.hid hq; clear hq
          generalize hsl : (⟨(showL t).toArray⟩ : ByteArray) = S at *
          have HS := Lib.hid hsl; clear hsl
          clear Hlen Hright hown
          have ⟨q0, q1⟩ := hcl.out w1 hB1
          clear hc1 hf1 h0 h1
          have hown1' := own_on hown1 (below_bytes (Below.refl w1.heap.size w1) (Nat.le_refl _) 5 S)
          go_wp2_with (first | (go_at_call 41; refine (hshow.out _).mono ?_; rintro e w' ⟨rfl, rfl⟩) | (at_builtin; refine wpList_append_own _ rfl (.tmp 21) (.tmp 28) 28 rfl w.heap.size 5 i0 (.int .u8 0) 1 1 Tryd.underlying28 hi iz0 iz1 iz2 rfl (by decide) _ _ _ rfl hown1' ⟨w1.heap.size, 0, none⟩ S.size _ (bcells S.data.toList) rfl ?c1 (bytes_news w1 5 S) (bcells_one _) ?c3 ?c4 ?c5 ?_))
          case c1 => rw [bcells_len]; simp
          case c3 => unfold maxLen; omega
          case c4 => omega
          case c5 => rw [Lib.bytesWorld_size]; omega
          intro v3 w3 hown3 hgr3 _
          have hB3 := below_own (below_bytes hB1 (by omega) _ _) hgr3 (by rw [Lib.bytesWorld_size]; omega) hown1'
          have hz3 := hgr3.size
          rw [Lib.bytesWorld_size] at hz3
          have hn3 : q.length + S.size ≤ 40000 := by omega
          clear hgr3 hown1 hown1' q0 q1
          go_wp2_with (at_builtin; refine wpList_append_own _ rfl (.tmp 30) (.tmp 31) 28 rfl w.heap.size 5 i0 (.int .u8 0) 1 1 Tryd.underlying28 hi iz0 iz1 iz2 rfl (by decide) _ _ _ rfl (hown3.alloc _) ⟨w3.heap.size, 0, none⟩ 1 1 [.int .u8 61] rfl rfl (box_news w3 _ 5) (one_cell1 _ _) ?d3 ?d4 ?d5 ?_)
          case d3 => unfold maxLen; omega
          case d4 => omega
          case d5 => simp; omega
          intro v4 w4 hown4 hgr4 _
          have hB4 := below_own (hB3.alloc (by omega) _) hgr4 (by simp; omega) (hown3.alloc _)
          have hz4 := hgr4.size
          simp only [World.size_alloc] at hz4
          clear hgr4 hown3
          have ⟨q0, q1⟩ := hcl.out w4 hB4
          have hown4' := own_on hown4 (below_bytes (Below.refl w4.heap.size w4) (Nat.le_refl _) 5 s)
          go_wp2_with (at_builtin; refine wpList_append_own _ rfl (.tmp 33) (.tmp 39) 28 rfl w.heap.size 5 i0 (.int .u8 0) 1 1 Tryd.underlying28 hi iz0 iz1 iz2 rfl (by decide) _ _ _ rfl hown4' ⟨w4.heap.size, 0, none⟩ s.size _ (bcells s.data.toList) rfl ?e1 (bytes_news w4 5 s) (bcells_one _) ?e3 ?e4 ?e5 ?_)
          case e1 => rw [bcells_len]; simp
          case e3 => unfold maxLen; omega
          case e4 => omega
          case e5 => rw [Lib.bytesWorld_size]; omega
          intro v5 w5 hown5 hgr5 _
          have hB5 := below_own (below_bytes hB4 (by omega) _ _) hgr5 (by rw [Lib.bytesWorld_size]; omega) hown4'
          have hz5 := hgr5.size
          rw [Lib.bytesWorld_size] at hz5
          clear hgr5 hown4 hown4' q0 q1
          go_wp2_with (at_builtin; refine wpList_append_own _ rfl (.tmp 41) (.tmp 42) 28 rfl w.heap.size 5 i0 (.int .u8 0) 1 1 Tryd.underlying28 hi iz0 iz1 iz2 rfl (by decide) _ _ _ rfl (hown5.alloc _) ⟨w5.heap.size, 0, none⟩ 1 1 [.int .u8 1] rfl rfl (box_news w5 _ 5) (one_cell1 _ _) ?f3 ?f4 ?f5 ?_)
          case f3 => unfold maxLen; omega
          case f4 => omega
          case f5 => simp; omega
          intro v6 w6 hown6 hgr6 _
          have hB6 := below_own (hB5.alloc (by omega) _) hgr6 (by simp; omega) (hown5.alloc _)
          have e : putL (l.take (k + 1)) = q ++ (S.data.toList ++ ([61] ++ (s.data.toList ++ [1]))) := by rw [Hp.out, ← HS.out]
          have hown6' : w6.ownsRow w.heap.size 5 1 v6 (putL (l.take (k + 1))).length (bcells (putL (l.take (k + 1)))) := by
            rw [e]
            refine own_cast hown6 ?_ ?_
            · simp [bcells]
            · simp; omega
          have He := Lib.hid (Ht.out.trans (by rw [H.out]))
          clear e hown6 hgr6 hown5
          go_wp2
          go_roundw
          case rel => exact ⟨k + 1, by omega, by go_num, He, hown6', hB6⟩
          case measure => simp [intOf]; omega
      · obtain rfl : k = l.length := by omega
        have HH := H.out
        rw [List.take_length] at HH hown
        have HG := Lib.hid (hGood.out HH); clear HH
        go_wp2
        go_ret2
        exact HG.out _ _ _ _ hown ⟨rfl, hb⟩
end Go.Proofs.YtcfpchcbiknehaaDoorR
