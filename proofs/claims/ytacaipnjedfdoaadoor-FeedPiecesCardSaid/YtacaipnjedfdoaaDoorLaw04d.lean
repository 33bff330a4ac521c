/-
  Layer 4's laws: the walk of FeedPieces.
-/
import Derived.Test.YtacaipnjedfdoaaDoorLaw04
namespace Go.Proofs.YtacaipnjedfdoaaDoor
open Go.RowKit

theorem feed_step {l : List UInt8} {p e : Nat} (hpe : p ≤ e) {td : List (List UInt8)} {tk : Nat} {mb : List UInt8} (h : feed (l.take p) = (td, tk, mb)) :
    feed (l.take e) = (td ++ (feed (mb ++ (l.drop p).take (e - p))).1, tk + (feed (mb ++ (l.drop p).take (e - p))).2.1, (feed (mb ++ (l.drop p).take (e - p))).2.2) := by
  have e1 : l.take e = l.take p ++ (l.drop p).take (e - p) := by
    have := List.take_add (l := l) (i := p) (j := e - p)
    rwa [show p + (e - p) = e by omega] at this
  rw [e1, feed_cat (l.take p).length _ _ (Nat.le_refl _), h]; rfl
set_option maxRecDepth 100000 in
set_option maxHeartbeats 4000000 in
theorem walk_pieces (A : Option Addr) (n c : Nat) (l : List UInt8) (hn : l.length = n) (A' : Option Addr) (n' c' : Nat) (cu : List UInt8) (hn' : cu.length = n') (hn0 : ¬ n = 0) (w : World) (h : Sl w A n c 1 (bcells l)) (h' : Sl w A' n' c' 1 (bcells cu)) (hctx : FCtx w) :
    Calls Tryd.prog 3 #[.slice A n c, .slice A' n' c'] w fun e w' => e = .returned (.bool true) ∧ Below w.heap.size w w' := by
  have hcm := h.cap
  have hnc := h.le
  have hcm' := h'.cap
  have hnc' := h'.le
  unfold maxLen at hcm hcm'
  have HS := Lib.hid h
  have HC := Lib.hid h'
  clear h h'
  by_cases hbig : 3000 < n ∨ 60 < n'
  · rcases (show 3000 < n ∨ (¬ 3000 < n ∧ 60 < n') by omega) with h | ⟨h1, h⟩
    all_goals
      clear hbig
      go_enter Tryd.func3, Tryd.ntmps3
      go_wp2_with fail
      refine (awake04 w hctx).mono ?_
      rintro e w1 ⟨rfl, hb1⟩
      go_wp2
      go_ret
      exact ⟨rfl, hb1⟩
  · have hs1 : ¬ 3000 < n := by omega
    have hs2 : ¬ 60 < n' := by omega
    clear hbig
    obtain ⟨s0, hsi, sz0, sz1, sz2⟩ := info_parts infoS
    go_enter Tryd.func3, Tryd.ntmps3
    go_wp2_with fail
    refine (awake04 w hctx).mono ?_
    rintro e w1 ⟨rfl, hb1⟩
    have H1 := Lib.hid (in_fine feed_In (kb := []) (n := 0) (c := 0) (A := none) (Sl.none_ w1 1) rfl (HS.out.on hb1) hn (by omega) (by omega) (hctx.on hb1) l rfl)
    rw [show InFine l w1 = fun e w' => ∃ A c B d, e = .returned (.tuple #[.slice A (feed l).2.2.length c, .slice B (feed l).1.length d, .int .i64 ((feed l).2.1 : Nat), .int .i64 0]) ∧ Sl w' A (feed l).2.2.length c 1 (bcells (feed l).2.2) ∧ SlL w' B (feed l).1.length d (feed l).1 ∧ Below w1.heap.size w1 w' from rfl] at H1
    obtain ⟨q1, q2, q3⟩ := feed_lens l
    go_wp2_with fail
    refine H1.out.mono ?_
    rintro e w2 ⟨A2, c2, B2, d2, rfl, hs2', hl2, hb2⟩
    have hB2 : Below w.heap.size w w2 := hb1.trans (hb2.mono hb1.size)
    have HK := Lib.hid hs2'
    have HL := Lib.hid hl2
    have hFl := Lib.hid (show feed l = ((feed l).1, (feed l).2.1, (feed l).2.2) from rfl)
    clear H1 hs2' hl2
    generalize (feed l).2.2 = t2 at *
    generalize (feed l).2.1 = t1 at *
    generalize (feed l).1 = t0 at *
    go_wp2_with fail
    go_loopw [9, 10, 11, 12, 13] (fun s9 s10 s11 s12 s13 wr => ∃ (p tk k : Nat) (Am : Option Addr) (cm : Nat) (mb : List UInt8) (td : List (List UInt8)) (vs : List Value), s9 = .slice Am mb.length cm ∧ s11 = .int .i64 (tk : Nat) ∧ s12 = .int .i64 (p : Nat) ∧ s13 = .int .i64 (k : Nat) ∧ k ≤ n' + 1 ∧ p ≤ n ∧
      (k = n' + 1 → p = n) ∧ Hid (Sl wr Am mb.length cm 1 (bcells mb)) ∧ wr.ownsRow w2.heap.size 22 1 s10 td.length vs ∧ Hid (Lst wr vs td) ∧ Hid (feed (l.take p) = (td, tk, mb)) ∧ Below w2.heap.size w2 wr) (fun _ _ _ _ s13 _ => 62 - (intOf s13).toNat)
    case atStart => exact ⟨0, 0, 0, none, 0, [], [], [], rfl, rfl, rfl, rfl, by omega, by omega, by omega, Lib.hid (Sl.none_ _ _), World.ownsRow_nil _ _ _ _, Lib.hid (Lst.nil _), Lib.hid (feed_need nxt_nil), Below.refl _ _⟩
    case round =>
      obtain ⟨p, tk, k, Am, cm, mb, td, vs, rfl, rfl, rfl, rfl, hk, hp, hkp, Hm, hown, Hl, Hf, hb⟩ := hrel
      have hB : Below w.heap.size w wr := hB2.trans (hb.mono hB2.size)
      have hlens := feed_lens (l.take p)
      rw [Hf.out] at hlens
      obtain ⟨r1, r2, r3⟩ := hlens
      rw [List.length_take] at r1 r2 r3
      dsimp only at r1 r2 r3
      have hshort := feed_kept_short (l.take p)
      rw [Hf.out] at hshort
      dsimp only at hshort
      by_cases hkn : k = n' + 1
      · have hpn := hkp hkn
        have hf := Hf.out
        rw [hpn, List.take_of_length_le (by omega), hFl.out] at hf
        injection hf with f1 hf
        injection hf with f2 f3
        subst f1; subst f2; subst f3
        have hmo := Hm.out
        obtain ⟨B, d, rfl, hsl⟩ := row_slice hown Hl.out
        have k1 := conv_sl hmo
        have k2 := conv_sl (HK.out.on hb)
        have hsm := Lib.hid (ref_Same4 B _ d _ B2 _ d2 _ wr hsl (HL.out.on hb) (by omega) (by omega))
        rw [decide_eq_true rfl] at hsm
        have hki : ¬ ((k : Int) ≤ (n' : Int)) := by omega
        clear hmo hsl Hm Hl Hf hown hFl HK HL
        go_wp2_with fail
        refine hsm.out.mono ?_
        rintro e w4 ⟨rfl, hb4⟩
        have hB4 : Below w.heap.size w w4 := hB.trans (hb4.mono hB.size)
        clear hsm k1 k2
        go_wp2
        go_ret
        exact ⟨rfl, hB4⟩
      · obtain ⟨b, off, rfl⟩ : ∃ b off, A = some ⟨b, off, none⟩ := by
          rcases HS.out.row with h' | ⟨b, off, e, _⟩
          · have := congrArg List.length h'; rw [bcells_len, List.length_nil] at this; omega
          · exact ⟨b, off, e⟩
        by_cases hkn' : k < n'
        · have hkl : k < cu.length := by omega
          obtain ⟨b', off', rfl, hck⟩ := (HC.out.on hB).row.byte hkl
          have hx := (cu[k]).toNat_lt
          generalize (cu[k]).toNat = x at *
          obtain ⟨e, he⟩ : ∃ e, e = min (p + x) n := ⟨_, rfl⟩
          have hmin : min ((p : Int) + (x : Int)) (n : Int) = (e : Int) := by omega
          have hpe : p ≤ e := by omega
          have hen : e ≤ n := by omega
          have hki : (k : Int) < (n' : Int) := by omega
          clear he
          obtain ⟨A, hAA⟩ : ∃ A, A = some (⟨b, off, none⟩ : Addr) := ⟨_, rfl⟩
          rw [← hAA] at HS
          have hpb : ((l.drop p).take (e - p)).length = e - p := by rw [List.length_take, List.length_drop]; omega
          have hsl := (HS.out.on hB).cut p hp
          rw [bcells_drop] at hsl
          have hsl := hsl.front (e - p) (by omega)
          rw [bcells_take] at hsl
          have hst := feed_step (l := l) (p := p) (e := e) hpe Hf.out
          have hI := in_fineT feed_In Hm.out rfl hsl hpb (by omega) (by omega) (hctx.on hB) (mb ++ (l.drop p).take (e - p)) rfl
          have Hst := Lib.hid hst
          generalize mb ++ (l.drop p).take (e - p) = T at *
          rw [show InFineT T wr = fun e w' => ∃ A c B d, e = .returned (.tuple #[.slice A (feed T).2.2.length c, .slice B (feed T).1.length d, .int .i64 ((feed T).2.1 : Nat), .int .i64 0]) ∧ Sl w' A (feed T).2.2.length c 1 (bcells (feed T).2.2) ∧ SlL w' B (feed T).1.length d (feed T).1 ∧ Below wr.heap.size wr w' ∧ Typed w' A 5 from rfl] at hI
          have hlT := feed_lens (l.take e)
          rw [Hst.out, List.length_take] at hlT
          obtain ⟨g1, g2, g3⟩ := hlT
          dsimp only at g1 g2 g3
          rw [List.length_append] at g3
          have HI := Lib.hid hI
          clear hI hst hsl Hm Hf hpb
          generalize (feed T).2.2 = u2 at *
          generalize (feed T).2.1 = u1 at *
          generalize (feed T).1 = u0 at *
          subst hAA
          have hpei : (p : Int) ≤ (e : Int) := by omega
          have heci : (e : Int) ≤ (c : Int) := by omega
          by_cases hcp : c = p
          · obtain rfl : e = p := by omega
            subst hcp
            rw [if_pos rfl, Nat.sub_self] at HI
            go_wp2_with fail
            refine HI.out.mono ?_
            rintro e' w3 ⟨A3, c3, B3, d3, rfl, hs3, hl3, hb3, ty3⟩
            have hb3' : Below w2.heap.size w2 w3 := hb.trans (hb3.mono hb.size)
            have hz3 := hb3'.size
            obtain ⟨us, hsu, hlu⟩ := hl3
            have own3 := own_on hown hb3
            have Hl3 := Lib.hid ((Hl.out.on hb3).app hlu)
            have hu1 := hlu.cell1
            clear HI hown Hl hlu
            go_wp2_with (at_builtin; refine wpList_append_sl rfl (.tmp 72) (.tmp 73) 24 rfl w2.heap.size 22 s0 (.slice none 0 0) 1 24 Tryd.underlying24 hsi sz0 sz1 sz2 rfl (by decide) _ _ _ rfl own3 B3 u0.length d3 us rfl hsu hu1 ?e3 ?e4 ?e5 ?_)
            case e3 => unfold maxLen; omega
            case e4 => omega
            case e5 => omega
            intro v4 w4 own4 hg4
            have hb4 := below_own hb3' hg4 (by omega) own3
            have Hl4 := Lib.hid (Hl3.out.grown hg4 own3 (by decide))
            have Hk4 := Lib.hid (hs3.keep fun b9 off9 hA => by
              obtain ⟨cs9, fr9, hc9⟩ := ty3 b9 off9 hA
              refine hg4.block b9 (block_lt hc9) fun he9 => ?_
              rcases own3.2 with ⟨h0, _⟩ | ⟨g9, cap9, cur9, h9, _, hh9, _⟩
              · rw [h0] at he9; cases he9
              · rw [h9] at he9
                simp only [Value.ownBlock] at he9
                injection he9 with he9; subst he9
                rw [hc9] at hh9; injection hh9 with hh9; injection hh9 with _ h2; cases h2)
            have own5 : w4.ownsRow w2.heap.size 22 1 v4 (td ++ u0).length (vs ++ us) := own_cast own4 rfl (by rw [List.length_append])
            clear hg4 own3 own4 Hl3 hs3 hsu hu1 ty3
            go_wp2
            go_roundw
            case rel => exact ⟨_, tk + u1, k + 1, A3, c3, u2, td ++ u0, vs ++ us, rfl, by go_num, rfl, by go_num, by omega, by omega, by omega, Hk4, own5, Hl4, Hst, hb4⟩
            case measure => simp [intOf]; omega
          · rw [if_neg hcp, Option.map_some, addr_at] at HI
            go_wp2_with fail
            refine HI.out.mono ?_
            rintro e' w3 ⟨A3, c3, B3, d3, rfl, hs3, hl3, hb3, ty3⟩
            have hb3' : Below w2.heap.size w2 w3 := hb.trans (hb3.mono hb.size)
            have hz3 := hb3'.size
            obtain ⟨us, hsu, hlu⟩ := hl3
            have own3 := own_on hown hb3
            have Hl3 := Lib.hid ((Hl.out.on hb3).app hlu)
            have hu1 := hlu.cell1
            clear HI hown Hl hlu
            go_wp2_with (at_builtin; refine wpList_append_sl rfl (.tmp 72) (.tmp 73) 24 rfl w2.heap.size 22 s0 (.slice none 0 0) 1 24 Tryd.underlying24 hsi sz0 sz1 sz2 rfl (by decide) _ _ _ rfl own3 B3 u0.length d3 us rfl hsu hu1 ?e3 ?e4 ?e5 ?_)
            case e3 => unfold maxLen; omega
            case e4 => omega
            case e5 => omega
            intro v4 w4 own4 hg4
            have hb4 := below_own hb3' hg4 (by omega) own3
            have Hl4 := Lib.hid (Hl3.out.grown hg4 own3 (by decide))
            have Hk4 := Lib.hid (hs3.keep fun b9 off9 hA => by
              obtain ⟨cs9, fr9, hc9⟩ := ty3 b9 off9 hA
              refine hg4.block b9 (block_lt hc9) fun he9 => ?_
              rcases own3.2 with ⟨h0, _⟩ | ⟨g9, cap9, cur9, h9, _, hh9, _⟩
              · rw [h0] at he9; cases he9
              · rw [h9] at he9
                simp only [Value.ownBlock] at he9
                injection he9 with he9; subst he9
                rw [hc9] at hh9; injection hh9 with hh9; injection hh9 with _ h2; cases h2)
            have own5 : w4.ownsRow w2.heap.size 22 1 v4 (td ++ u0).length (vs ++ us) := own_cast own4 rfl (by rw [List.length_append])
            clear hg4 own3 own4 Hl3 hs3 hsu hu1 ty3
            go_wp2
            go_roundw
            case rel => exact ⟨_, tk + u1, k + 1, A3, c3, u2, td ++ u0, vs ++ us, rfl, by go_num, rfl, by go_num, by omega, by omega, by omega, Hk4, own5, Hl4, Hst, hb4⟩
            case measure => simp [intOf]; omega
        · obtain rfl : k = n' := by omega
          obtain ⟨e, rfl⟩ : ∃ e, e = n := ⟨n, rfl⟩
          have hpe : p ≤ e := hp
          have hen : e ≤ e := Nat.le_refl _
          have hki : ¬ ((k : Int) < (k : Int)) := by omega
          obtain ⟨A, hAA⟩ : ∃ A, A = some (⟨b, off, none⟩ : Addr) := ⟨_, rfl⟩
          rw [← hAA] at HS
          have hpb : ((l.drop p).take (e - p)).length = e - p := by rw [List.length_take, List.length_drop]; omega
          have hsl := (HS.out.on hB).cut p hp
          rw [bcells_drop] at hsl
          have hsl := hsl.front (e - p) (by omega)
          rw [bcells_take] at hsl
          have hst := feed_step (l := l) (p := p) (e := e) hpe Hf.out
          have hI := in_fineT feed_In Hm.out rfl hsl hpb (by omega) (by omega) (hctx.on hB) (mb ++ (l.drop p).take (e - p)) rfl
          have Hst := Lib.hid hst
          generalize mb ++ (l.drop p).take (e - p) = T at *
          rw [show InFineT T wr = fun e w' => ∃ A c B d, e = .returned (.tuple #[.slice A (feed T).2.2.length c, .slice B (feed T).1.length d, .int .i64 ((feed T).2.1 : Nat), .int .i64 0]) ∧ Sl w' A (feed T).2.2.length c 1 (bcells (feed T).2.2) ∧ SlL w' B (feed T).1.length d (feed T).1 ∧ Below wr.heap.size wr w' ∧ Typed w' A 5 from rfl] at hI
          have hlT := feed_lens (l.take e)
          rw [Hst.out, List.length_take] at hlT
          obtain ⟨g1, g2, g3⟩ := hlT
          dsimp only at g1 g2 g3
          rw [List.length_append] at g3
          have HI := Lib.hid hI
          clear hI hst hsl Hm Hf hpb
          generalize (feed T).2.2 = u2 at *
          generalize (feed T).2.1 = u1 at *
          generalize (feed T).1 = u0 at *
          subst hAA
          have hpei : (p : Int) ≤ (e : Int) := by omega
          have heci : (e : Int) ≤ (c : Int) := by omega
          by_cases hcp : c = p
          · obtain rfl : e = p := by omega
            subst hcp
            rw [if_pos rfl, Nat.sub_self] at HI
            go_wp2_with fail
            refine HI.out.mono ?_
            rintro e' w3 ⟨A3, c3, B3, d3, rfl, hs3, hl3, hb3, ty3⟩
            have hb3' : Below w2.heap.size w2 w3 := hb.trans (hb3.mono hb.size)
            have hz3 := hb3'.size
            obtain ⟨us, hsu, hlu⟩ := hl3
            have own3 := own_on hown hb3
            have Hl3 := Lib.hid ((Hl.out.on hb3).app hlu)
            have hu1 := hlu.cell1
            clear HI hown Hl hlu
            go_wp2_with (at_builtin; refine wpList_append_sl rfl (.tmp 72) (.tmp 73) 24 rfl w2.heap.size 22 s0 (.slice none 0 0) 1 24 Tryd.underlying24 hsi sz0 sz1 sz2 rfl (by decide) _ _ _ rfl own3 B3 u0.length d3 us rfl hsu hu1 ?e3 ?e4 ?e5 ?_)
            case e3 => unfold maxLen; omega
            case e4 => omega
            case e5 => omega
            intro v4 w4 own4 hg4
            have hb4 := below_own hb3' hg4 (by omega) own3
            have Hl4 := Lib.hid (Hl3.out.grown hg4 own3 (by decide))
            have Hk4 := Lib.hid (hs3.keep fun b9 off9 hA => by
              obtain ⟨cs9, fr9, hc9⟩ := ty3 b9 off9 hA
              refine hg4.block b9 (block_lt hc9) fun he9 => ?_
              rcases own3.2 with ⟨h0, _⟩ | ⟨g9, cap9, cur9, h9, _, hh9, _⟩
              · rw [h0] at he9; cases he9
              · rw [h9] at he9
                simp only [Value.ownBlock] at he9
                injection he9 with he9; subst he9
                rw [hc9] at hh9; injection hh9 with hh9; injection hh9 with _ h2; cases h2)
            have own5 : w4.ownsRow w2.heap.size 22 1 v4 (td ++ u0).length (vs ++ us) := own_cast own4 rfl (by rw [List.length_append])
            clear hg4 own3 own4 Hl3 hs3 hsu hu1 ty3
            go_wp2
            go_roundw
            case rel => exact ⟨_, tk + u1, k + 1, A3, c3, u2, td ++ u0, vs ++ us, rfl, by go_num, rfl, by go_num, by omega, by omega, by omega, Hk4, own5, Hl4, Hst, hb4⟩
            case measure => simp [intOf]; omega
          · rw [if_neg hcp, Option.map_some, addr_at] at HI
            go_wp2_with fail
            refine HI.out.mono ?_
            rintro e' w3 ⟨A3, c3, B3, d3, rfl, hs3, hl3, hb3, ty3⟩
            have hb3' : Below w2.heap.size w2 w3 := hb.trans (hb3.mono hb.size)
            have hz3 := hb3'.size
            obtain ⟨us, hsu, hlu⟩ := hl3
            have own3 := own_on hown hb3
            have Hl3 := Lib.hid ((Hl.out.on hb3).app hlu)
            have hu1 := hlu.cell1
            clear HI hown Hl hlu
            go_wp2_with (at_builtin; refine wpList_append_sl rfl (.tmp 72) (.tmp 73) 24 rfl w2.heap.size 22 s0 (.slice none 0 0) 1 24 Tryd.underlying24 hsi sz0 sz1 sz2 rfl (by decide) _ _ _ rfl own3 B3 u0.length d3 us rfl hsu hu1 ?e3 ?e4 ?e5 ?_)
            case e3 => unfold maxLen; omega
            case e4 => omega
            case e5 => omega
            intro v4 w4 own4 hg4
            have hb4 := below_own hb3' hg4 (by omega) own3
            have Hl4 := Lib.hid (Hl3.out.grown hg4 own3 (by decide))
            have Hk4 := Lib.hid (hs3.keep fun b9 off9 hA => by
              obtain ⟨cs9, fr9, hc9⟩ := ty3 b9 off9 hA
              refine hg4.block b9 (block_lt hc9) fun he9 => ?_
              rcases own3.2 with ⟨h0, _⟩ | ⟨g9, cap9, cur9, h9, _, hh9, _⟩
              · rw [h0] at he9; cases he9
              · rw [h9] at he9
                simp only [Value.ownBlock] at he9
                injection he9 with he9; subst he9
                rw [hc9] at hh9; injection hh9 with hh9; injection hh9 with _ h2; cases h2)
            have own5 : w4.ownsRow w2.heap.size 22 1 v4 (td ++ u0).length (vs ++ us) := own_cast own4 rfl (by rw [List.length_append])
            clear hg4 own3 own4 Hl3 hs3 hsu hu1 ty3
            go_wp2
            go_roundw
            case rel => exact ⟨_, tk + u1, k + 1, A3, c3, u2, td ++ u0, vs ++ us, rfl, by go_num, rfl, by go_num, by omega, by omega, by omega, Hk4, own5, Hl4, Hst, hb4⟩
            case measure => simp [intOf]; omega
set_option maxRecDepth 100000 in
set_option maxHeartbeats 4000000 in
theorem walk_pieces0 (A : Option Addr) (c : Nat) (A' : Option Addr) (n' c' : Nat) (cu : List UInt8) (hn' : cu.length = n') (w : World) (h : Sl w A 0 c 1 []) (h' : Sl w A' n' c' 1 (bcells cu)) (hctx : FCtx w) :
    Calls Tryd.prog 3 #[.slice A 0 c, .slice A' n' c'] w fun e w' => e = .returned (.bool true) ∧ Below w.heap.size w w' := by
  have hcm := h.cap
  have hcm' := h'.cap
  have hnc' := h'.le
  unfold maxLen at hcm hcm'
  have hAc : A = none → c = 0 := fun e => (h.nil e).2
  have HZ := Lib.hid (fun W : World => (⟨h.len, h.le, h.cap, h.nil, .inl rfl⟩ : Sl W A 0 c 1 (bcells [])))
  have HC := Lib.hid h'
  clear h h'
  by_cases hbig : 60 < n'
  · go_enter Tryd.func3, Tryd.ntmps3
    go_wp2_with fail
    refine (awake04 w hctx).mono ?_
    rintro e w1 ⟨rfl, hb1⟩
    go_wp2
    go_ret
    exact ⟨rfl, hb1⟩
  · obtain ⟨s0, hsi, sz0, sz1, sz2⟩ := info_parts infoS
    rcases A with _ | a
    · have := hAc rfl
      subst this
      clear hAc
      go_enter Tryd.func3, Tryd.ntmps3
      go_wp2_with fail
      refine (awake04 w hctx).mono ?_
      rintro e w1 ⟨rfl, hb1⟩
      have H1 := Lib.hid (in_fine feed_In (kb := []) (n := 0) (c := 0) (A := none) (Sl.none_ w1 1) rfl (HZ.out w1) rfl (by omega) (by omega) (hctx.on hb1) [] rfl)
      rw [show InFine [] w1 = fun e w' => ∃ A c B d, e = .returned (.tuple #[.slice A 0 c, .slice B 0 d, .int .i64 0, .int .i64 0]) ∧ Sl w' A 0 c 1 [] ∧ SlL w' B 0 d [] ∧ Below w1.heap.size w1 w' from by
        funext e w'; unfold InFine; rw [feed_need nxt_nil]; rfl] at H1
      go_wp2_with fail
      refine H1.out.mono ?_
      rintro e w2 ⟨A2, c2, B2, d2, rfl, hs2', hl2, hb2⟩
      have hB2 : Below w.heap.size w w2 := hb1.trans (hb2.mono hb1.size)
      have HK := Lib.hid hs2'
      have HL := Lib.hid hl2
      clear H1 hs2' hl2
      go_wp2_with fail
      go_loopw [9, 10, 11, 12, 13] (fun s9 s10 s11 s12 s13 wr => ∃ (k : Nat) (Am : Option Addr) (cm : Nat), s9 = .slice Am 0 cm ∧ s11 = .int .i64 0 ∧ s12 = .int .i64 0 ∧ s13 = .int .i64 (k : Nat) ∧ k ≤ n' + 1 ∧ Hid (Sl wr Am 0 cm 1 []) ∧ wr.ownsRow w2.heap.size 22 1 s10 0 [] ∧ Below w2.heap.size w2 wr) (fun _ _ _ _ s13 _ => 62 - (intOf s13).toNat)
      case atStart => exact ⟨0, none, 0, rfl, rfl, rfl, rfl, by omega, Lib.hid (Sl.none_ _ _), World.ownsRow_nil _ _ _ _, Below.refl _ _⟩
      case round =>
        obtain ⟨k, Am, cm, rfl, rfl, rfl, rfl, hk, Hm, hown, hb⟩ := hrel
        have hB : Below w.heap.size w wr := hB2.trans (hb.mono hB2.size)
        by_cases hkn : k = n' + 1
        · obtain ⟨B, d, rfl, hsl⟩ := row_slice hown (Lst.nil wr)
          have k1 := conv_sl (l := []) Hm.out
          have k2 := conv_sl (l := []) (HK.out.on hb)
          have hsm := Lib.hid (ref_Same4 B 0 d [] B2 0 d2 [] wr hsl (HL.out.on hb) (by omega) (by omega))
          rw [decide_eq_true rfl] at hsm
          have hki : ¬ ((k : Int) ≤ (n' : Int)) := by omega
          clear hsl Hm hown HK HL
          go_wp2_with fail
          refine hsm.out.mono ?_
          rintro e w4 ⟨rfl, hb4⟩
          have hB4 : Below w.heap.size w w4 := hB.trans (hb4.mono hB.size)
          clear hsm k1 k2
          go_wp2
          go_ret
          exact ⟨rfl, hB4⟩
        · have HI := Lib.hid (in_fineT feed_In (kb := []) Hm.out rfl (HZ.out wr) rfl (by omega) (by omega) (hctx.on hB) [] rfl)
          rw [show InFineT [] wr = fun e w' => ∃ A c B d, e = .returned (.tuple #[.slice A 0 c, .slice B 0 d, .int .i64 0, .int .i64 0]) ∧ Sl w' A 0 c 1 [] ∧ SlL w' B 0 d [] ∧ Below wr.heap.size wr w' ∧ Typed w' A 5 from by
            funext e w'; unfold InFineT; rw [feed_need nxt_nil]; rfl] at HI
          by_cases hkn' : k < n'
          · have hkl : k < cu.length := by omega
            obtain ⟨b', off', rfl, hck⟩ := (HC.out.on hB).row.byte hkl
            have hx := (cu[k]).toNat_lt
            generalize (cu[k]).toNat = x at *
            have hmin : min (x : Int) 0 = 0 := by omega
            have hki : (k : Int) < (n' : Int) := by omega
            go_wp2_with fail
            refine HI.out.mono ?_
            rintro e' w3 ⟨A3, c3, B3, d3, rfl, hs3, hl3, hb3, _⟩
            have hb3' : Below w2.heap.size w2 w3 := hb.trans (hb3.mono hb.size)
            have hz3 := hb3'.size
            obtain ⟨us, hsu, hlu⟩ := hl3
            obtain rfl : us = [] := List.eq_nil_of_length_eq_zero hlu.1
            have own3 := own_on hown hb3
            clear HI hown hlu
            go_wp2_with (at_builtin; refine wpList_append_sl rfl (.tmp 72) (.tmp 73) 24 rfl w2.heap.size 22 s0 (.slice none 0 0) 1 24 Tryd.underlying24 hsi sz0 sz1 sz2 rfl (by decide) _ _ _ rfl own3 B3 0 d3 [] rfl hsu (by simp) ?e3 ?e4 ?e5 ?_)
            case e3 => decide
            case e4 => omega
            case e5 => omega
            intro v4 w4 own4 hg4
            have hb4 := below_own hb3' hg4 (by omega) own3
            have Hk4 := Lib.hid (show Sl w4 A3 0 c3 1 [] from ⟨hs3.len, hs3.le, hs3.cap, hs3.nil, .inl rfl⟩)
            clear hg4 own3 hs3 hsu
            go_wp2
            go_roundw
            case rel => exact ⟨k + 1, A3, c3, rfl, rfl, rfl, by go_num, by omega, Hk4, own4, hb4⟩
            case measure => simp [intOf]; omega
          · obtain rfl : k = n' := by omega
            have hki : ¬ ((k : Int) < (k : Int)) := by omega
            go_wp2_with fail
            refine HI.out.mono ?_
            rintro e' w3 ⟨A3, c3, B3, d3, rfl, hs3, hl3, hb3, _⟩
            have hb3' : Below w2.heap.size w2 w3 := hb.trans (hb3.mono hb.size)
            have hz3 := hb3'.size
            obtain ⟨us, hsu, hlu⟩ := hl3
            obtain rfl : us = [] := List.eq_nil_of_length_eq_zero hlu.1
            have own3 := own_on hown hb3
            clear HI hown hlu
            go_wp2_with (at_builtin; refine wpList_append_sl rfl (.tmp 72) (.tmp 73) 24 rfl w2.heap.size 22 s0 (.slice none 0 0) 1 24 Tryd.underlying24 hsi sz0 sz1 sz2 rfl (by decide) _ _ _ rfl own3 B3 0 d3 [] rfl hsu (by simp) ?e3 ?e4 ?e5 ?_)
            case e3 => decide
            case e4 => omega
            case e5 => omega
            intro v4 w4 own4 hg4
            have hb4 := below_own hb3' hg4 (by omega) own3
            have Hk4 := Lib.hid (show Sl w4 A3 0 c3 1 [] from ⟨hs3.len, hs3.le, hs3.cap, hs3.nil, .inl rfl⟩)
            clear hg4 own3 hs3 hsu
            go_wp2
            go_roundw
            case rel => exact ⟨k + 1, A3, c3, rfl, rfl, rfl, by go_num, by omega, Hk4, own4, hb4⟩
            case measure => simp [intOf]; omega
    · clear hAc
      by_cases hc0 : c = 0
      · subst hc0
        go_enter Tryd.func3, Tryd.ntmps3
        go_wp2_with fail
        refine (awake04 w hctx).mono ?_
        rintro e w1 ⟨rfl, hb1⟩
        have H1 := Lib.hid (in_fine feed_In (kb := []) (n := 0) (c := 0) (A := none) (Sl.none_ w1 1) rfl (HZ.out w1) rfl (by omega) (by omega) (hctx.on hb1) [] rfl)
        rw [show InFine [] w1 = fun e w' => ∃ A c B d, e = .returned (.tuple #[.slice A 0 c, .slice B 0 d, .int .i64 0, .int .i64 0]) ∧ Sl w' A 0 c 1 [] ∧ SlL w' B 0 d [] ∧ Below w1.heap.size w1 w' from by
          funext e w'; unfold InFine; rw [feed_need nxt_nil]; rfl] at H1
        go_wp2_with fail
        refine H1.out.mono ?_
        rintro e w2 ⟨A2, c2, B2, d2, rfl, hs2', hl2, hb2⟩
        have hB2 : Below w.heap.size w w2 := hb1.trans (hb2.mono hb1.size)
        have HK := Lib.hid hs2'
        have HL := Lib.hid hl2
        clear H1 hs2' hl2
        go_wp2_with fail
        go_loopw [9, 10, 11, 12, 13] (fun s9 s10 s11 s12 s13 wr => ∃ (k : Nat) (Am : Option Addr) (cm : Nat), s9 = .slice Am 0 cm ∧ s11 = .int .i64 0 ∧ s12 = .int .i64 0 ∧ s13 = .int .i64 (k : Nat) ∧ k ≤ n' + 1 ∧ Hid (Sl wr Am 0 cm 1 []) ∧ wr.ownsRow w2.heap.size 22 1 s10 0 [] ∧ Below w2.heap.size w2 wr) (fun _ _ _ _ s13 _ => 62 - (intOf s13).toNat)
        case atStart => exact ⟨0, none, 0, rfl, rfl, rfl, rfl, by omega, Lib.hid (Sl.none_ _ _), World.ownsRow_nil _ _ _ _, Below.refl _ _⟩
        case round =>
          obtain ⟨k, Am, cm, rfl, rfl, rfl, rfl, hk, Hm, hown, hb⟩ := hrel
          have hB : Below w.heap.size w wr := hB2.trans (hb.mono hB2.size)
          by_cases hkn : k = n' + 1
          · obtain ⟨B, d, rfl, hsl⟩ := row_slice hown (Lst.nil wr)
            have k1 := conv_sl (l := []) Hm.out
            have k2 := conv_sl (l := []) (HK.out.on hb)
            have hsm := Lib.hid (ref_Same4 B 0 d [] B2 0 d2 [] wr hsl (HL.out.on hb) (by omega) (by omega))
            rw [decide_eq_true rfl] at hsm
            have hki : ¬ ((k : Int) ≤ (n' : Int)) := by omega
            clear hsl Hm hown HK HL
            go_wp2_with fail
            refine hsm.out.mono ?_
            rintro e w4 ⟨rfl, hb4⟩
            have hB4 : Below w.heap.size w w4 := hB.trans (hb4.mono hB.size)
            clear hsm k1 k2
            go_wp2
            go_ret
            exact ⟨rfl, hB4⟩
          · have HI := Lib.hid (in_fineT feed_In (kb := []) Hm.out rfl (HZ.out wr) rfl (by omega) (by omega) (hctx.on hB) [] rfl)
            rw [show InFineT [] wr = fun e w' => ∃ A c B d, e = .returned (.tuple #[.slice A 0 c, .slice B 0 d, .int .i64 0, .int .i64 0]) ∧ Sl w' A 0 c 1 [] ∧ SlL w' B 0 d [] ∧ Below wr.heap.size wr w' ∧ Typed w' A 5 from by
              funext e w'; unfold InFineT; rw [feed_need nxt_nil]; rfl] at HI
            by_cases hkn' : k < n'
            · have hkl : k < cu.length := by omega
              obtain ⟨b', off', rfl, hck⟩ := (HC.out.on hB).row.byte hkl
              have hx := (cu[k]).toNat_lt
              generalize (cu[k]).toNat = x at *
              have hmin : min (x : Int) 0 = 0 := by omega
              have hki : (k : Int) < (n' : Int) := by omega
              go_wp2_with fail
              refine HI.out.mono ?_
              rintro e' w3 ⟨A3, c3, B3, d3, rfl, hs3, hl3, hb3, _⟩
              have hb3' : Below w2.heap.size w2 w3 := hb.trans (hb3.mono hb.size)
              have hz3 := hb3'.size
              obtain ⟨us, hsu, hlu⟩ := hl3
              obtain rfl : us = [] := List.eq_nil_of_length_eq_zero hlu.1
              have own3 := own_on hown hb3
              clear HI hown hlu
              go_wp2_with (at_builtin; refine wpList_append_sl rfl (.tmp 72) (.tmp 73) 24 rfl w2.heap.size 22 s0 (.slice none 0 0) 1 24 Tryd.underlying24 hsi sz0 sz1 sz2 rfl (by decide) _ _ _ rfl own3 B3 0 d3 [] rfl hsu (by simp) ?e3 ?e4 ?e5 ?_)
              case e3 => decide
              case e4 => omega
              case e5 => omega
              intro v4 w4 own4 hg4
              have hb4 := below_own hb3' hg4 (by omega) own3
              have Hk4 := Lib.hid (show Sl w4 A3 0 c3 1 [] from ⟨hs3.len, hs3.le, hs3.cap, hs3.nil, .inl rfl⟩)
              clear hg4 own3 hs3 hsu
              go_wp2
              go_roundw
              case rel => exact ⟨k + 1, A3, c3, rfl, rfl, rfl, by go_num, by omega, Hk4, own4, hb4⟩
              case measure => simp [intOf]; omega
            · obtain rfl : k = n' := by omega
              have hki : ¬ ((k : Int) < (k : Int)) := by omega
              go_wp2_with fail
              refine HI.out.mono ?_
              rintro e' w3 ⟨A3, c3, B3, d3, rfl, hs3, hl3, hb3, _⟩
              have hb3' : Below w2.heap.size w2 w3 := hb.trans (hb3.mono hb.size)
              have hz3 := hb3'.size
              obtain ⟨us, hsu, hlu⟩ := hl3
              obtain rfl : us = [] := List.eq_nil_of_length_eq_zero hlu.1
              have own3 := own_on hown hb3
              clear HI hown hlu
              go_wp2_with (at_builtin; refine wpList_append_sl rfl (.tmp 72) (.tmp 73) 24 rfl w2.heap.size 22 s0 (.slice none 0 0) 1 24 Tryd.underlying24 hsi sz0 sz1 sz2 rfl (by decide) _ _ _ rfl own3 B3 0 d3 [] rfl hsu (by simp) ?e3 ?e4 ?e5 ?_)
              case e3 => decide
              case e4 => omega
              case e5 => omega
              intro v4 w4 own4 hg4
              have hb4 := below_own hb3' hg4 (by omega) own3
              have Hk4 := Lib.hid (show Sl w4 A3 0 c3 1 [] from ⟨hs3.len, hs3.le, hs3.cap, hs3.nil, .inl rfl⟩)
              clear hg4 own3 hs3 hsu
              go_wp2
              go_roundw
              case rel => exact ⟨k + 1, A3, c3, rfl, rfl, rfl, by go_num, by omega, Hk4, own4, hb4⟩
              case measure => simp [intOf]; omega
      · skip
        go_enter Tryd.func3, Tryd.ntmps3
        go_wp2_with fail
        refine (awake04 w hctx).mono ?_
        rintro e w1 ⟨rfl, hb1⟩
        have H1 := Lib.hid (in_fine feed_In (kb := []) (n := 0) (c := 0) (A := none) (Sl.none_ w1 1) rfl (HZ.out w1) rfl (by omega) (by omega) (hctx.on hb1) [] rfl)
        rw [show InFine [] w1 = fun e w' => ∃ A c B d, e = .returned (.tuple #[.slice A 0 c, .slice B 0 d, .int .i64 0, .int .i64 0]) ∧ Sl w' A 0 c 1 [] ∧ SlL w' B 0 d [] ∧ Below w1.heap.size w1 w' from by
          funext e w'; unfold InFine; rw [feed_need nxt_nil]; rfl] at H1
        go_wp2_with fail
        refine H1.out.mono ?_
        rintro e w2 ⟨A2, c2, B2, d2, rfl, hs2', hl2, hb2⟩
        have hB2 : Below w.heap.size w w2 := hb1.trans (hb2.mono hb1.size)
        have HK := Lib.hid hs2'
        have HL := Lib.hid hl2
        clear H1 hs2' hl2
        go_wp2_with fail
        go_loopw [9, 10, 11, 12, 13] (fun s9 s10 s11 s12 s13 wr => ∃ (k : Nat) (Am : Option Addr) (cm : Nat), s9 = .slice Am 0 cm ∧ s11 = .int .i64 0 ∧ s12 = .int .i64 0 ∧ s13 = .int .i64 (k : Nat) ∧ k ≤ n' + 1 ∧ Hid (Sl wr Am 0 cm 1 []) ∧ wr.ownsRow w2.heap.size 22 1 s10 0 [] ∧ Below w2.heap.size w2 wr) (fun _ _ _ _ s13 _ => 62 - (intOf s13).toNat)
        case atStart => exact ⟨0, none, 0, rfl, rfl, rfl, rfl, by omega, Lib.hid (Sl.none_ _ _), World.ownsRow_nil _ _ _ _, Below.refl _ _⟩
        case round =>
          obtain ⟨k, Am, cm, rfl, rfl, rfl, rfl, hk, Hm, hown, hb⟩ := hrel
          have hB : Below w.heap.size w wr := hB2.trans (hb.mono hB2.size)
          by_cases hkn : k = n' + 1
          · obtain ⟨B, d, rfl, hsl⟩ := row_slice hown (Lst.nil wr)
            have k1 := conv_sl (l := []) Hm.out
            have k2 := conv_sl (l := []) (HK.out.on hb)
            have hsm := Lib.hid (ref_Same4 B 0 d [] B2 0 d2 [] wr hsl (HL.out.on hb) (by omega) (by omega))
            rw [decide_eq_true rfl] at hsm
            have hki : ¬ ((k : Int) ≤ (n' : Int)) := by omega
            clear hsl Hm hown HK HL
            go_wp2_with fail
            refine hsm.out.mono ?_
            rintro e w4 ⟨rfl, hb4⟩
            have hB4 : Below w.heap.size w w4 := hB.trans (hb4.mono hB.size)
            clear hsm k1 k2
            go_wp2
            go_ret
            exact ⟨rfl, hB4⟩
          · have HI := Lib.hid (in_fineT feed_In (kb := []) Hm.out rfl (HZ.out wr) rfl (by omega) (by omega) (hctx.on hB) [] rfl)
            rw [show InFineT [] wr = fun e w' => ∃ A c B d, e = .returned (.tuple #[.slice A 0 c, .slice B 0 d, .int .i64 0, .int .i64 0]) ∧ Sl w' A 0 c 1 [] ∧ SlL w' B 0 d [] ∧ Below wr.heap.size wr w' ∧ Typed w' A 5 from by
              funext e w'; unfold InFineT; rw [feed_need nxt_nil]; rfl] at HI
            by_cases hkn' : k < n'
            · have hkl : k < cu.length := by omega
              obtain ⟨b', off', rfl, hck⟩ := (HC.out.on hB).row.byte hkl
              have hx := (cu[k]).toNat_lt
              generalize (cu[k]).toNat = x at *
              have hmin : min (x : Int) 0 = 0 := by omega
              have hki : (k : Int) < (n' : Int) := by omega
              go_wp2_with fail
              refine HI.out.mono ?_
              rintro e' w3 ⟨A3, c3, B3, d3, rfl, hs3, hl3, hb3, _⟩
              have hb3' : Below w2.heap.size w2 w3 := hb.trans (hb3.mono hb.size)
              have hz3 := hb3'.size
              obtain ⟨us, hsu, hlu⟩ := hl3
              obtain rfl : us = [] := List.eq_nil_of_length_eq_zero hlu.1
              have own3 := own_on hown hb3
              clear HI hown hlu
              go_wp2_with (at_builtin; refine wpList_append_sl rfl (.tmp 72) (.tmp 73) 24 rfl w2.heap.size 22 s0 (.slice none 0 0) 1 24 Tryd.underlying24 hsi sz0 sz1 sz2 rfl (by decide) _ _ _ rfl own3 B3 0 d3 [] rfl hsu (by simp) ?e3 ?e4 ?e5 ?_)
              case e3 => decide
              case e4 => omega
              case e5 => omega
              intro v4 w4 own4 hg4
              have hb4 := below_own hb3' hg4 (by omega) own3
              have Hk4 := Lib.hid (show Sl w4 A3 0 c3 1 [] from ⟨hs3.len, hs3.le, hs3.cap, hs3.nil, .inl rfl⟩)
              clear hg4 own3 hs3 hsu
              go_wp2
              go_roundw
              case rel => exact ⟨k + 1, A3, c3, rfl, rfl, rfl, by go_num, by omega, Hk4, own4, hb4⟩
              case measure => simp [intOf]; omega
            · obtain rfl : k = n' := by omega
              have hki : ¬ ((k : Int) < (k : Int)) := by omega
              go_wp2_with fail
              refine HI.out.mono ?_
              rintro e' w3 ⟨A3, c3, B3, d3, rfl, hs3, hl3, hb3, _⟩
              have hb3' : Below w2.heap.size w2 w3 := hb.trans (hb3.mono hb.size)
              have hz3 := hb3'.size
              obtain ⟨us, hsu, hlu⟩ := hl3
              obtain rfl : us = [] := List.eq_nil_of_length_eq_zero hlu.1
              have own3 := own_on hown hb3
              clear HI hown hlu
              go_wp2_with (at_builtin; refine wpList_append_sl rfl (.tmp 72) (.tmp 73) 24 rfl w2.heap.size 22 s0 (.slice none 0 0) 1 24 Tryd.underlying24 hsi sz0 sz1 sz2 rfl (by decide) _ _ _ rfl own3 B3 0 d3 [] rfl hsu (by simp) ?e3 ?e4 ?e5 ?_)
              case e3 => decide
              case e4 => omega
              case e5 => omega
              intro v4 w4 own4 hg4
              have hb4 := below_own hb3' hg4 (by omega) own3
              have Hk4 := Lib.hid (show Sl w4 A3 0 c3 1 [] from ⟨hs3.len, hs3.le, hs3.cap, hs3.nil, .inl rfl⟩)
              clear hg4 own3 hs3 hsu
              go_wp2
              go_roundw
              case rel => exact ⟨k + 1, A3, c3, rfl, rfl, rfl, by go_num, by omega, Hk4, own4, hb4⟩
              case measure => simp [intOf]; omega
theorem walk_FeedPieces (A : Option Addr) (n c : Nat) (l : List UInt8) (hn : l.length = n) (A' : Option Addr) (n' c' : Nat) (cu : List UInt8) (hn' : cu.length = n') (w : World) (h : Sl w A n c 1 (bcells l)) (h' : Sl w A' n' c' 1 (bcells cu)) (hctx : FCtx w) :
    Calls Tryd.prog 3 #[.slice A n c, .slice A' n' c'] w fun e w' => e = .returned (.bool true) ∧ Below w.heap.size w w' := by
  by_cases hn0 : n = 0
  · subst hn0
    have hl : l = [] := List.eq_nil_of_length_eq_zero hn
    subst hl
    exact walk_pieces0 A c A' n' c' cu hn' w h h' hctx
  · exact walk_pieces A n c l hn A' n' c' cu hn' hn0 w h h' hctx
end Go.Proofs.YtacaipnjedfdoaaDoor
