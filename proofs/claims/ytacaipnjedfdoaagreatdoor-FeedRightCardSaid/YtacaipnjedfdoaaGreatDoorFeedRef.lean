/-
  Layer 4, feed: the document's own way: its contracts.
-/
import Derived.Test.YtacaipnjedfdoaaGreatDoorFeedMath
import Derived.Test.YtacaipnjedfdoaaGreatDoorLst
import Derived.Test.YtacaipnjedfdoaaGreatDoorFrmRefNext
namespace Go.Proofs.YtacaipnjedfdoaaGreatDoor
open Go.RowKit

theorem infoS : (Tryz.prog.info? 22).map (fun i => (i.zero, i.size, i.bytes)) = some (some (.slice none 0 0), 1, 24) := by kernel_rfl
theorem str_ne {a b : List UInt8} (h : ¬ a = b) : ((⟨a.toArray⟩ : ByteArray).toList == (⟨b.toArray⟩ : ByteArray).toList) = false := by
  rw [ByteArray.toList_eq, ByteArray.toList_eq]; simpa using h
set_option maxRecDepth 100000 in
set_option maxHeartbeats 1000000 in
theorem ref_Same4 (A1 : Option Addr) (n1 c1 : Nat) (ls : List (List UInt8)) (A2 : Option Addr) (n2 c2 : Nat) (ks : List (List UInt8)) (w : World) (h1 : SlL w A1 n1 c1 ls) (h2 : SlL w A2 n2 c2 ks) (hl1 : n1 ≤ 1000000) (hl2 : n2 ≤ 1000000) :
    Calls Tryz.prog 7 #[.slice A1 n1 c1, .slice A2 n2 c2] w fun e w' => e = .returned (.bool (decide (ls = ks))) ∧ Below w.heap.size w w' := by
  have e1 := h1.len
  have e2 := h2.len
  have H1 := Lib.hid h1
  have H2 := Lib.hid h2
  clear h1 h2
  by_cases hne : n1 = n2
  · subst hne
    go_enter Tryz.func7, Tryz.ntmps7
    go_wp2
    go_loopw [5] (fun i wr => ∃ k : Nat, i = .int .i64 k ∧ k ≤ n1 ∧ Hid (ls.take k = ks.take k) ∧ Below w.heap.size w wr) (fun i _ => n1 - (intOf i).toNat)
    case atStart => exact ⟨0, rfl, Nat.zero_le _, Lib.hid rfl, Below.refl _ _⟩
    case round =>
      obtain ⟨k, rfl, hk, Hk, hb⟩ := hrel
      by_cases hlt : k < n1
      · obtain ⟨b1, o1, rfl, B1, m1, d1, hc1, he1⟩ := (H1.out.on hb).get (show k < ls.length by omega)
        obtain ⟨b2, o2, rfl, B2, m2, d2, hc2, he2⟩ := (H2.out.on hb).get (show k < ks.length by omega)
        have hki : (0 : Int) ≤ (k : Int) := by omega
        have hkl : (k : Int) < (n1 : Int) := by omega
        have hbq : ∀ q, Below wr.heap.size wr (wr.drewN q) := fun q => ⟨rfl, rfl, rfl, Nat.le_refl _, fun _ _ => rfl⟩
        have q1 := fun q => conv_sl (he1.sl.on (hbq q))
        have q2 := fun q => conv_sl (he2.sl.on (hbq q))
        by_cases heq : ls[k] = ks[k]
        · have Hk2 := Lib.hid (show ls.take (k + 1) = ks.take (k + 1) by rw [List.take_succ_eq_append_getElem (show k < ls.length by omega), List.take_succ_eq_append_getElem (show k < ks.length by omega), Hk.out, heq])
          rw [heq] at q1
          clear Hk heq he1 he2 hbq
          generalize (⟨(ks[k]).toArray⟩ : ByteArray) = S at *
          go_wp2
          go_quiet (fail)
          clear q1 q2
          go_wp2
          go_roundw
          case rel => exact ⟨k + 1, by go_num, by omega, Hk2, ⟨hb.os, hb.tape, hb.output, hb.size, hb.block⟩⟩
          case measure => simp [intOf]; omega
        · have hF := Lib.hid (show decide (ls = ks) = false from decide_eq_false fun h => heq (by subst h; rfl))
          have hS := str_ne heq
          clear Hk heq he1 he2 hbq
          generalize (⟨(ls[k]).toArray⟩ : ByteArray) = S1 at *
          generalize (⟨(ks[k]).toArray⟩ : ByteArray) = S2 at *
          go_wp2
          go_quiet (fail)
          clear q1 q2
          go_wp2
          go_ret
          exact ⟨retB hF.out.symm, ⟨hb.os, hb.tape, hb.output, hb.size, hb.block⟩⟩
      · obtain rfl : k = n1 := by omega
        have hT := Lib.hid (show decide (ls = ks) = true from decide_eq_true (by have := Hk.out; rwa [List.take_of_length_le (by omega), List.take_of_length_le (by omega)] at this))
        go_wp2
        go_ret
        exact ⟨retB hT.out.symm, hb⟩
  · have hF := Lib.hid (show decide (ls = ks) = false from decide_eq_false fun h => hne (by rw [← e1, ← e2, h]))
    have hnn : ((n1 : Int) == (n2 : Int)) = false := by rw [beq_eq_false_iff_ne]; omega
    go_enter Tryz.func7, Tryz.ntmps7
    go_wp2
    go_ret
    exact ⟨retB hF.out.symm, Below.refl _ _⟩
def inE (kb pb : List UInt8) : Int := if 16384 ≤ kb.length ∨ 65536 < pb.length then 4 else 0
def inV (kb pb : List UInt8) : List (List UInt8) × Nat × List UInt8 := if 16384 ≤ kb.length ∨ 65536 < pb.length then ([], 0, kb) else feed (kb ++ pb)
/-- What In hands back. -/
def InPost (kb pb : List UInt8) (w : World) (e : Ending) (w' : World) : Prop :=
  ∃ A n c B m d, e = .returned (.tuple #[.slice A n c, .slice B m d, .int .i64 ((inV kb pb).2.1 : Nat), .int .i64 (inE kb pb)]) ∧ Sl w' A n c 1 (bcells (inV kb pb).2.2) ∧ SlL w' B m d (inV kb pb).1 ∧ Below w.heap.size w w' ∧ (inE kb pb = 0 → Typed w' A 5)
theorem results_tmp4 {fn : Func} {t u v x : Tmp} (h : fn.results = #[.tmp t, .tmp u, .tmp v, .tmp x]) (tmps : Array Value) (P : Program) (w : World) :
    (results fn tmps).run P w = .ok (.tuple #[tmps.getD t undef, tmps.getD u undef, tmps.getD v undef, tmps.getD x undef]) w := by
  simp [results, h]
theorem one_slice (A : Option Addr) (n c : Nat) : ∀ u ∈ [Value.slice A n c], u.oneCell' = true := by intro u hu; simp at hu; subst hu; rfl
theorem in_long {kb pb : List UInt8} (h : 16384 ≤ kb.length ∨ 65536 < pb.length) : inE kb pb = 4 ∧ inV kb pb = ([], 0, kb) := ⟨if_pos h, if_pos h⟩
theorem in_short {kb pb : List UInt8} (h : ¬ (16384 ≤ kb.length ∨ 65536 < pb.length)) : inE kb pb = 0 ∧ inV kb pb = feed (kb ++ pb) := ⟨if_neg h, if_neg h⟩
theorem row_slice {w : World} {base n : Nat} {v : Value} {vs : List Value} {t : TypeId} {ls : List (List UInt8)} (h : w.ownsRow base t 1 v n vs) (hl : Lst w vs ls) : ∃ B d, v = .slice B n d ∧ SlL w B n d ls := by
  obtain ⟨B, d, hv, hs, _⟩ := Sl.of_own h
  exact ⟨B, d, hv, vs, hs, hl⟩
set_option maxRecDepth 100000 in
set_option maxHeartbeats 2000000 in
theorem ref_In4 (A : Option Addr) (n c : Nat) (kb : List UInt8) (A' : Option Addr) (n' c' : Nat) (pb : List UInt8) (w : World) (h : Sl w A n c 1 (bcells kb)) (hn : kb.length = n) (h' : Sl w A' n' c' 1 (bcells pb)) (hn' : pb.length = n') :
    Calls Tryz.prog 6 #[.slice A n c, .slice A' n' c'] w (InPost kb pb w) := by
  have hcm := h.cap
  have hle := h.le
  have hcm' := h'.cap
  have hle' := h'.le
  unfold maxLen at hcm hcm'
  have HK := Lib.hid h
  have HP := Lib.hid h'
  clear h h'
  by_cases hlong : 16384 ≤ n ∨ 65536 < n'
  · obtain ⟨e1, e2⟩ := in_long (kb := kb) (pb := pb) (by omega)
    have HR := Lib.hid (show ∀ w', Below w.heap.size w w' → ∀ e, e = .returned (.tuple #[.slice A n c, .slice none 0 0, .int .i64 0, .int .i64 4]) → InPost kb pb w e w' from fun w' hb e he => ⟨A, n, c, none, 0, 0, by rw [e1, e2]; exact he, by rw [e2]; exact HK.out.on hb, by rw [e2]; exact SlL.none_ _, hb, fun h0 => by rw [e1] at h0; cases h0⟩)
    clear e1 e2
    rcases (show 16384 ≤ n ∨ (n < 16384 ∧ 65536 < n') by omega) with hl | ⟨hl, hl'⟩
    · have hli : (16384 : Int) ≤ (n : Int) := by omega
      clear hlong
      go_enter Tryz.func6, Tryz.ntmps6
      go_wp2
      ((try simp only [Exit.inBlock, Exit.then]); refine bodyPost_ret (results_tmp4 rfl _ _ _) rfl ?_)
      exact HR.out _ (Below.refl _ _) _ rfl
    · clear hlong
      go_enter Tryz.func6, Tryz.ntmps6
      go_wp2
      ((try simp only [Exit.inBlock, Exit.then]); refine bodyPost_ret (results_tmp4 rfl _ _ _) rfl ?_)
      exact HR.out _ (Below.refl _ _) _ rfl
  · obtain ⟨e1, e2⟩ := in_short (kb := kb) (pb := pb) (by omega)
    have HR := Lib.hid (show ∀ w' (C : Option Addr) (q r : Nat) (B : Option Addr) (m d : Nat), Sl w' C q r 1 (bcells (feed (kb ++ pb)).2.2) → SlL w' B m d (feed (kb ++ pb)).1 → Below w.heap.size w w' → Typed w' C 5 → ∀ e, e = .returned (.tuple #[.slice C q r, .slice B m d, .int .i64 ((feed (kb ++ pb)).2.1 : Nat), .int .i64 0]) → InPost kb pb w e w' from
      fun w' C q r B m d hs hl hb ty e he => ⟨C, q, r, B, m, d, by rw [e1, e2]; exact he, by rw [e2]; exact hs, by rw [e2]; exact hl, hb, fun _ => ty⟩)
    have hn1 : n < 16384 := by omega
    have hn2 : n' ≤ 65536 := by omega
    have hn1i : ¬ ((16384 : Int) ≤ (n : Int)) := by omega
    clear e1 e2 hlong
    obtain ⟨i0, hi, iz0, iz1, iz2⟩ := info_parts infoB
    obtain ⟨s0, hsi, sz0, sz1, sz2⟩ := info_parts infoS
    go_enter Tryz.func6, Tryz.ntmps6
    have own0 : (w.alloc (.cells #[] 5)).ownsRow w.heap.size 5 1 (.slice (some ⟨w.heap.size, 0, none⟩) 0 0) 0 [] := World.ownsRow_lit (e := 5) (size := 1) w #[] 0 (Nat.le_refl _) (by decide) rfl
    have hB0 := (Below.refl w.heap.size w).alloc (Nat.le_refl _) (.cells #[] 5)
    have hx0 := HK.out.on hB0
    go_wp2_with (at_builtin; refine wpList_append_sl rfl (.tmp 24) (.tmp 25) 22 rfl w.heap.size 5 i0 (.int .u8 0) 1 1 Tryz.underlying22 hi iz0 iz1 iz2 rfl (by decide) _ _ _ rfl own0 A n c (bcells kb) rfl hx0 (bcells_one _) ?c3 ?c4 ?c5 ?_)
    case c3 => unfold maxLen; omega
    case c4 => omega
    intro v4 w4 own4 hg4
    have hb4 : Below w.heap.size w w4 := below_own hB0 hg4 (by simp) own0
    have hz4 := hb4.size
    have hy4 := HP.out.on hb4
    clear hg4 own0 hx0 hB0
    go_wp2_with (at_builtin; refine wpList_append_sl rfl (.tmp 26) (.tmp 27) 22 rfl w.heap.size 5 i0 (.int .u8 0) 1 1 Tryz.underlying22 hi iz0 iz1 iz2 rfl (by decide) _ _ _ rfl own4 A' n' c' (bcells pb) rfl hy4 (bcells_one _) ?d3 ?d4 ?d5 ?_)
    case d3 => unfold maxLen; omega
    case d4 => omega
    case d5 => omega
    intro v5 w5 own5 hg5
    have hb5 : Below w.heap.size w w5 := below_own hb4 hg5 (by omega) own4
    have hz5 := hb5.size
    have hTl : (kb ++ pb).length = n + n' := by rw [List.length_append]; omega
    obtain ⟨g, cb, rfl, hel⟩ := El.of_own (l := kb ++ pb) (own_cast own5 (by simp [bcells]) rfl)
    have hcb := hel.sl.le
    have hcbm := hel.sl.cap
    unfold maxLen at hcbm
    have HT := Lib.hid hel
    clear hg5 own4 hy4 own5 hel
    generalize kb ++ pb = T at *
    generalize hL : n + n' = L at *
    have hL9 : L ≤ 90000 := by omega
    go_wp2
    go_loopw [9, 10, 11] (fun s9 s10 s11 wr => ∃ (p jk : Nat) (bs : List (List UInt8)) (vs : List Value), s11 = .int .i64 (p : Nat) ∧ s10 = .int .i64 (jk : Nat) ∧ p ≤ L ∧ jk ≤ p ∧ bs.length ≤ p ∧ wr.ownsRow w5.heap.size 22 1 s9 bs.length vs ∧ Hid (Lst wr vs bs) ∧
      Hid (feed T = cat (bs, jk, []) (feed (T.drop p))) ∧ Below w5.heap.size w5 wr) (fun _ _ s11 _ => L - (intOf s11).toNat)
    case atStart => exact ⟨0, 0, [], [], rfl, rfl, by omega, by omega, by simp, World.ownsRow_nil _ _ _ _, Lst.nil _, Lib.hid (by simp [cat]), Below.refl _ _⟩
    case round =>
      obtain ⟨p, jk, bs, vs, rfl, rfl, hpL, hjp, hbp, hown, Hl, Hf, hb⟩ := hrel
      have hB : Below w.heap.size w wr := hb5.trans (hb.mono hz5)
      by_cases hlt : p < L
      · obtain ⟨gb, go', rfl⟩ : ∃ gb go', g = some ⟨gb, go', none⟩ := by
          rcases HT.out.fm with rfl | h
          · have := (HT.out.sl.nil rfl).1; omega
          · exact h
        have hcbp : ¬ cb = p := by omega
        have hel := (HT.out.on hb).cut p hpL (some ⟨gb, go' + p, none⟩) (by rw [if_neg hcbp, Option.map_some, addr_at])
        have hrl : (T.drop p).length = L - p := by rw [List.length_drop]; omega
        have hnx := ref_Next3T (some ⟨gb, go' + p, none⟩) (L - p) (cb - p) (T.drop p) wr hel.sl hrl (by omega)
        have Hel := Lib.hid hel
        have hpi : (p : Int) < (L : Int) := by omega
        clear hel
        generalize hR : T.drop p = R at *
        rcases nxt_sound R with hx | ⟨hx, hN1, hN2⟩ | ⟨x, N, hx, hE, hV, hN1, hN2, hxN⟩
        · rw [show NextPostT (some ⟨gb, go' + p, none⟩) R wr = fun e w' => ∃ A n c, e = .returned (.tuple #[.int .i64 0, .slice A n c, .int .i64 0]) ∧ Sl w' A n c 1 [] ∧ Below wr.heap.size wr w' ∧ Fm A ∧ (Typed wr (some ⟨gb, go' + p, none⟩) 5 → Typed w' A 5) from by
            funext e w'; unfold NextPostT; rw [hx]; rfl] at hnx
          have hfe := Hf.out
          rw [feed_need hx] at hfe
          have Hnx := Lib.hid hnx
          clear hx hnx Hf hR
          go_wp2_with fail
          refine Hnx.out.mono ?_
          rintro e w2 ⟨A2, n2, c2, rfl, _, hb2, _⟩
          have hB2 : Below w.heap.size w w2 := hB.trans (hb2.mono hB.size)
          obtain ⟨B, d, rfl, hsl⟩ := row_slice (own_on hown hb2) (Hl.out.on hb2)
          have HR2 := Lib.hid (HR.out w2 (some ⟨gb, go' + p, none⟩) (L - p) (cb - p) B bs.length d (by rw [hfe]; exact Hel.out.sl.on hb2) (by rw [hfe]; simpa [cat] using hsl) hB2 (Hel.out.on hb2).ty)
          rw [show (feed T).2.1 = jk by rw [hfe]; rfl] at HR2
          clear Hnx HR hfe hsl
          go_wp2
          ((try simp only [Exit.inBlock, Exit.then]); refine bodyPost_ret (results_tmp4 rfl _ _ _) rfl ?_)
          exact HR2.out _ rfl
        · rw [show NextPostT (some ⟨gb, go' + p, none⟩) R wr = fun e w' => ∃ A n c, e = .returned (.tuple #[.int .i64 2, .slice A n c, .int .i64 (junkN R : Nat)]) ∧ Sl w' A n c 1 [] ∧ Below wr.heap.size wr w' ∧ Fm A ∧ (Typed wr (some ⟨gb, go' + p, none⟩) 5 → Typed w' A 5) from by
            funext e w'; unfold NextPostT; rw [hx]; rfl] at hnx
          have hfe := Hf.out
          rw [feed_junk hx hN1 hN2, ← hR, List.drop_drop, hR] at hfe
          have Hnx := Lib.hid hnx
          rw [hrl] at hN2
          clear hx hnx Hf
          generalize junkN R = N at *
          have Hf2 := Lib.hid (show feed T = cat (bs, jk + N, []) (feed (T.drop (p + N))) by rw [hfe]; simp [cat]; omega)
          clear hfe hR Hel HR
          go_wp2_with fail
          refine Hnx.out.mono ?_
          rintro e w2 ⟨A2, n2, c2, rfl, _, hb2, _⟩
          have hb2' : Below w5.heap.size w5 w2 := hb.trans (hb2.mono hb.size)
          have own2 := own_on hown hb2
          have Hl2 := Lib.hid (Hl.out.on hb2)
          clear Hnx hown Hl
          go_wp2
          go_roundw
          case rel => exact ⟨p + N, jk + N, bs, vs, by go_num, by go_num, by omega, by omega, by omega, own2, Hl2, Hf2, hb2'⟩
          case measure => simp [intOf]; omega
        · rw [show NextPostT (some ⟨gb, go' + p, none⟩) R wr = fun e w' => ∃ A n c, e = .returned (.tuple #[.int .i64 1, .slice A n c, .int .i64 (N : Nat)]) ∧ Sl w' A n c 1 (bcells x) ∧ Below wr.heap.size wr w' ∧ Fm A ∧ (Typed wr (some ⟨gb, go' + p, none⟩) 5 → Typed w' A 5) from by
            funext e w'; unfold NextPostT; rw [hx]] at hnx
          have hfe := Hf.out
          rw [feed_frame hx hN1 hN2, ← hR, List.drop_drop] at hfe
          have Hnx := Lib.hid hnx
          rw [hrl] at hN2
          have Hf2 := Lib.hid (show feed T = cat (bs ++ [x], jk, []) (feed (T.drop (p + N))) by rw [hfe]; simp [cat])
          clear hx hnx Hf hE hV hfe hR HR
          go_wp2_with fail
          refine Hnx.out.mono ?_
          rintro e w2 ⟨A2, n2, c2, rfl, hs2, hb2, fm2, ty2⟩
          have hb2' : Below w5.heap.size w5 w2 := hb.trans (hb2.mono hb.size)
          have own2 := own_on hown hb2
          have hel2 : El w2 A2 n2 c2 x := ⟨hs2, ty2 Hel.out.ty, fm2⟩
          have hl2 := (Hl.out.on hb2).app (Lst.one hel2)
          have hz2 := hb2'.size
          have hl3 := hl2.on ((Below.refl w2.heap.size w2).alloc (Nat.le_refl _) (.cells #[.slice A2 n2 c2] 22))
          have Hl3 := Lib.hid hl3
          clear Hnx hown Hl hs2 hel2 hl2 hl3 ty2 fm2 Hel
          go_wp2_with (at_builtin; refine wpList_append_own _ rfl (.tmp 50) (.tmp 52) 24 rfl w5.heap.size 22 s0 (.slice none 0 0) 1 24 Tryz.underlying24 hsi sz0 sz1 sz2 rfl (by decide) _ _ _ rfl (own2.alloc _) ⟨w2.heap.size, 0, none⟩ 1 1 [.slice A2 n2 c2] rfl rfl (box_news w2 _ _) (one_slice _ _ _) ?e3 ?e4 ?e5 ?_)
          case e3 => unfold maxLen; omega
          case e4 => omega
          case e5 => simp; omega
          intro v3 w3 own3 hg3 _
          have hb3 := below_own (hb2'.alloc hz2 _) hg3 (by simp; omega) (own2.alloc _)
          have Hl4 := Lib.hid (Hl3.out.grown hg3 (own2.alloc _) (by decide))
          have own4 : w3.ownsRow w5.heap.size 22 1 v3 (bs ++ [x]).length (vs ++ [.slice A2 n2 c2]) := own_cast own3 rfl (by simp)
          clear hg3 own3 own2 Hl3
          go_wp2
          go_roundw
          case rel => exact ⟨p + N, jk, bs ++ [x], vs ++ [.slice A2 n2 c2], by go_num, by go_num, by omega, by omega, by simp; omega, own4, Hl4, Hf2, hb3⟩
          case measure => simp [intOf]; omega
      · obtain rfl : p = L := by omega
        have hfe := Hf.out
        rw [List.drop_eq_nil_of_le (by omega), feed_need nxt_nil] at hfe
        obtain ⟨B, d, rfl, hsl⟩ := row_slice hown Hl.out
        have HR2 := Lib.hid (HR.out wr none 0 0 B bs.length d (by rw [hfe]; exact Sl.none_ _ _) (by rw [hfe]; simpa [cat] using hsl) hB (Typed.none_ _ _))
        rw [show (feed T).2.1 = jk by rw [hfe]; rfl] at HR2
        clear HR hfe hsl Hf
        go_wp2
        ((try simp only [Exit.inBlock, Exit.then]); refine bodyPost_ret (results_tmp4 rfl _ _ _) rfl ?_)
        exact HR2.out _ rfl
end Go.Proofs.YtacaipnjedfdoaaGreatDoor
