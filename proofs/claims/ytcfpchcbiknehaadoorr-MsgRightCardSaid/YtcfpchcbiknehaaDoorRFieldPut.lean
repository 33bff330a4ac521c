/-
  Layer 2, field: the contract of Put.
-/
import Derived.Test.YtcfpchcbiknehaaDoorRFieldRead
namespace Go.Proofs.YtcfpchcbiknehaaDoorR
open Go.RowKit

theorem infoB : (Tryd.prog.info? 5).map (fun i => (i.zero, i.size, i.bytes)) = some (some (.int .u8 0), 1, 1) := by kernel_rfl
theorem size61 : (ByteArray.mk #[61]).size = 1 := rfl
def PutPost (l : List Fld) (w : World) (e : Ending) (w' : World) : Prop :=
  ∃ A n c, e = .returned (.tuple #[.slice A n c, .int .i64 (putE l)]) ∧ Sl w' A n c 1 (bcells (putV l)) ∧ Below w.heap.size w w' ∧ Fm A
theorem putE_long {l : List Fld} (h : 100 < l.length) : putE l = 4 ∧ putV l = [] := by simp [putV, putE, h]
theorem putE_arg {l : List Fld} (h : ¬ 100 < l.length) (ha : l.all Fld.right = false) : putE l = 1 ∧ putV l = [] := by simp [putV, putE, h, ha]
theorem putE_ok {l : List Fld} (h : ¬ 100 < l.length) (ha : l.all Fld.right = true) : putE l = 0 ∧ putV l = putL l := by simp [putV, putE, h, ha]
theorem all_take_f (l : List Fld) (k : Nat) (h : k < l.length) : (l.take (k + 1)).all Fld.right = ((l.take k).all Fld.right && l[k].right) := by
  rw [List.take_succ_eq_append_getElem h, List.all_append]; simp
theorem all_bad (l : List Fld) (k : Nat) (h : k < l.length) (hb : l[k].right = false) : l.all Fld.right = false := by
  rw [Bool.eq_false_iff]; intro ha
  have := List.all_eq_true.1 ha _ (List.getElem_mem h)
  rw [hb] at this; cases this
theorem putL_take (l : List Fld) (k : Nat) (h : k < l.length) : putL (l.take (k + 1)) = putL (l.take k) ++ (showL l[k].tag ++ ([61] ++ (l[k].val.data.toList ++ [1]))) := by
  rw [List.take_succ_eq_append_getElem h, putL_app]; simp [putL, fldB]

set_option maxRecDepth 100000 in
set_option maxHeartbeats 1000000 in
theorem field_Put (A : Option Addr) (c : Nat) (l : List Fld) (w : World) (h : Row w A (fcells l)) (hv : ∀ f ∈ l, f.val.size ≤ 1000000) (hl : l.length ≤ 1000000) (hctx : FCtx w) :
    Calls Tryd.prog 19 #[.slice A l.length c] w (PutPost l w) := by
  have HR := Lib.hid h; clear h
  have HV := Lib.hid hv; clear hv
  obtain ⟨i0, hi, iz0, iz1, iz2⟩ := info_parts infoB
  by_cases hlong : 100 < l.length
  · have ⟨e1, e2⟩ := putE_long hlong
    have HP : Hid (∀ e w', e = .returned (.tuple #[.slice none 0 0, .int .i64 4]) ∧ Below w.heap.size w w' → PutPost l w e w') := fun e w' h => ⟨none, 0, 0, by rw [e1]; exact h.1, by rw [e2]; exact Sl.none_ _ _, h.2, .inl rfl⟩
    clear e1 e2
    go_enter Tryd.func19, Tryd.ntmps19
    go_wp2
    go_ret2
    exact HP.out _ _ ⟨rfl, Below.refl _ _⟩
  · have hBad : Hid (l.all Fld.right = false → ∀ e w', e = .returned (.tuple #[.slice none 0 0, .int .i64 1]) ∧ Below w.heap.size w w' → PutPost l w e w') := fun ha e w' h => by
      have ⟨e1, e2⟩ := putE_arg hlong ha
      exact ⟨none, 0, 0, by rw [e1]; exact h.1, by rw [e2]; exact Sl.none_ _ _, h.2, .inl rfl⟩
    have hGood : Hid (l.all Fld.right = true → ∀ e w' v n, w'.ownsRow w.heap.size 5 1 v n (bcells (putL l)) → e = .returned (.tuple #[v, .int .i64 0]) ∧ Below w.heap.size w w' → PutPost l w e w') := fun ha e w' v n ho h => by
      have ⟨e1, e2⟩ := putE_ok hlong ha
      obtain ⟨A, c, rfl, hs, fm⟩ := Sl.of_own ho
      exact ⟨A, n, c, by rw [e1]; exact h.1, by rw [e2]; exact hs, h.2, fm⟩
    go_enter Tryd.func19, Tryd.ntmps19
    go_wp2
    go_loopw [4, 12] (fun v i wr => ∃ k : Nat, k ≤ l.length ∧ i = .int .i64 k ∧ Hid ((l.take k).all Fld.right = true) ∧ wr.ownsRow w.heap.size 5 1 v (putL (l.take k)).length (bcells (putL (l.take k))) ∧ Below w.heap.size w wr) (fun _ i _ => l.length - (intOf i).toNat)
    case atStart => exact ⟨0, Nat.zero_le _, rfl, rfl, World.ownsRow_nil _ _ _ _, Below.refl _ _⟩
    case round =>
      obtain ⟨k, hk, rfl, H, hown, hb⟩ := hrel
      by_cases hlt : k < l.length
      · obtain ⟨b, off, rfl, h0, h1⟩ := (HR.out.on hb).fld hlt
        have hz := hb.size
        have hbl := cell_lt h0
        have Ht := Lib.hid (all_take_f l k hlt)
        have Hp := Lib.hid (putL_take l k hlt)
        have Hbad := Lib.hid (all_bad l k hlt)
        have hsz := HV.out _ (List.getElem_mem hlt)
        have Hlen := Lib.hid (putL_len H.out)
        have hright := field_Right l[k] (by unfold maxLen; omega)
        have hf : Hid (l[k].right = true → rightT l[k].tag = true ∧ l[k].val.size ≤ 256) := fun h => by
          simp only [Fld.right, Bool.and_eq_true] at h
          exact ⟨h.1, by have := (rightV_iff.1 h.2).2.1; simpa using this⟩
        generalize l[k].tag = t at *
        generalize l[k].val = s at *
        generalize l[k].right = r at *
        have Hright := Lib.hid hright; clear hright
        go_wp2_with fail
        refine (Hright.out _).mono ?_
        rintro e w1 ⟨rfl, hb1⟩
        (obtain ⟨hc1, hf1⟩ := bcell hb1; have hz1 := hb1.size; (repeat (first | rw [World.size_alloc] at hz1 | rw [World.size_setCell] at hz1 | rw [World.size_drew] at hz1)); have hB1 : Below w.heap.size w w1 := Below.trans (by go_grown) (hb1.mono (by go_size)))
        have hlt1 : wr.heap.size < w1.heap.size := by omega
        rcases r with _ | _
        · have HB := Lib.hid (hBad.out (Hbad.out rfl))
          go_wp2
          go_ret2
          exact HB.out _ _ ⟨rfl, hB1⟩
        · have ⟨ft, fs⟩ := hf.out rfl
          have ⟨t0, t1⟩ := rightT_iff.1 ft
          have hsh := show_len ft
          clear hf Hbad
          have hshow : Hid (∀ w, FCtx w → Calls Tryd.prog 37 #[.int .i64 t] w fun e w' => e = .returned (.string ⟨(showL t).toArray⟩) ∧ Below w.heap.size w w') := fun w h => num_Show t (by omega) (by omega) w h.1
          rw [← size_mk] at hsh
          have hd : (⟨(showL t).toArray⟩ : ByteArray).data.toList = showL t := rfl
          have hcell := hc1 wr.heap.size
          go_wp2_with fail
          refine (hshow.out _ (hctx.on hB1)).mono ?_
          rintro e w2 ⟨rfl, hb2⟩
          (obtain ⟨hc2, hf2⟩ := bcell hb2; have hz2 := hb2.size; (repeat (first | rw [World.size_alloc] at hz2 | rw [World.size_setCell] at hz2 | rw [World.size_drew] at hz2)); have hB2 : Below w.heap.size w w2 := Below.trans (by go_grown) (hb2.mono (by go_size)))
          have hbox := ((Box.new wr #[.int .i64 t, .string s] 42).on hb1).on hb2
          have hown2 := own_on ((hown.alloc (.cells #[.int .i64 t, .string s] 42))) (hb1.trans (hb2.mono hb1.size))
          have hpl := Hlen.out.1
          have htl : (l.take k).length ≤ 100 := by simp; omega
          generalize hq : putL (l.take k) = q at *
          have Hq := Lib.hid hq; clear hq
          generalize hsl : (⟨(showL t).toArray⟩ : ByteArray) = S at *
          have HS := Lib.hid hsl; clear hsl
          have Hbox := Lib.hid hbox; clear hbox
          clear hc1 hf1 hc2 hf2 hcell hd Hlen hshow Hright
          go_wp2_with (at_builtin; refine Lib.wpList_append_own_string _ rfl (.tmp 19) (.tmp 22) 28 9 rfl w.heap.size 5 i0 Tryd.underlying28 Tryd.underlying9 hi iz0 iz1 iz2 _ _ _ rfl hown2 S rfl (by unfold maxLen; omega) (by omega) (by omega) ?_)
          intro v3 w3 hown3 hgr3 _
          have hB3 := below_own hB2 hgr3 (by omega) hown2
          have hbox3 := Hbox.out.grown hgr3 hown2 (by decide)
          have hz3 := hgr3.size
          have hn3 : q.length + S.size ≤ 40000 := by omega
          clear hgr3 hown2
          go_wp2_with (at_builtin; refine Lib.wpList_append_own_string _ rfl (.tmp 24) _ 28 9 rfl w.heap.size 5 i0 Tryd.underlying28 Tryd.underlying9 hi iz0 iz1 iz2 _ _ _ rfl hown3 ⟨#[61]⟩ rfl (by rw [size61]; unfold maxLen; omega) (by rw [size61]; omega) (by omega) ?_)
          intro v4 w4 hown4 hgr4 _
          have hB4 := below_own hB3 hgr4 (by omega) hown3
          have hbox4 := hbox3.grown hgr4 hown3 (by decide)
          have hz4 := hgr4.size
          clear hgr4 hown3 hbox3
          have hcs : w4.cell? ⟨wr.heap.size, 1, none⟩ = some (.string s) := hbox4.cell 1
          clear hbox4
          go_wp2_with (at_builtin; refine Lib.wpList_append_own_string _ rfl (.tmp 26) (.tmp 28) 28 9 rfl w.heap.size 5 i0 Tryd.underlying28 Tryd.underlying9 hi iz0 iz1 iz2 _ _ _ rfl hown4 s rfl (by unfold maxLen; omega) (by omega) (by omega) ?_)
          intro v5 w5 hown5 hgr5 _
          have hB5 := below_own hB4 hgr5 (by omega) hown4
          have hz5 := hgr5.size
          clear hgr5 hown4 hcs
          go_wp2_with (at_builtin; refine wpList_append_own _ rfl (.tmp 30) (.tmp 31) 28 rfl w.heap.size 5 i0 (.int .u8 0) 1 1 Tryd.underlying28 hi iz0 iz1 iz2 rfl (by decide) _ _ _ rfl (hown5.alloc _) ⟨w5.heap.size, 0, none⟩ 1 1 [.int .u8 1] rfl rfl ?c1 ?c2 ?c3 ?c4 ?c5 ?_)
          case c1 =>
            intro j u hu
            match j, hu with
            | 0, hu => cases hu; exact (Box.new w5 #[.int .u8 1] 5).cell 0
          case c2 => intro u hu; simp at hu; subst hu; rfl
          case c3 => unfold maxLen; omega
          case c4 => omega
          case c5 => simp; omega
          intro v6 w6 hown6 hgr6 _
          have hB6 := below_own (hB5.alloc (by omega) _) hgr6 (by simp; omega) (hown5.alloc _)
          have e : putL (l.take (k + 1)) = q ++ (S.data.toList ++ ([61] ++ (s.data.toList ++ [1]))) := by rw [Hp.out, ← HS.out]
          have hown6' : w6.ownsRow w.heap.size 5 1 v6 (putL (l.take (k + 1))).length (bcells (putL (l.take (k + 1)))) := by
            rw [e]
            refine own_cast hown6 ?_ ?_
            · simp [bcells_str, bcells]
            · simp; omega
          have He := Lib.hid (Ht.out.trans (by rw [H.out]))
          clear e hown6 hgr6 hown5
          go_wp2
          go_roundw
          case rel => exact ⟨k + 1, by omega, by go_num, He, hown6', hB6⟩
          case measure => simp [intOf]; omega
      · obtain rfl : k = l.length := by omega
        have HH := H.out
        rw [List.take_length] at HH hown
        have HG := Lib.hid (hGood.out HH); clear HH
        go_wp2
        go_ret2
        exact HG.out _ _ _ _ hown ⟨rfl, hb⟩
end Go.Proofs.YtcfpchcbiknehaaDoorR
