/-
  Layer 4, feed: the program's own way: bytes are put one behind the other, then taken: In's contract.
-/
import Derived.Test.YtacaipnjedfdoaaDoorFeedIn
import Derived.Lib.AppendZerosOnto
import Derived.Lib.Walk
namespace Go.Proofs.YtacaipnjedfdoaaDoor
open Go.RowKit

theorem cloneAny (A : Option Addr) (n c : Nat) (l : List UInt8) (w : World) (h : Sl w A n c 1 (bcells l)) (hl : n ≤ 1000000) :
    Calls Tryd.prog 10 #[.slice A n c] w fun e w' => ∃ C q, e = .returned (.slice C n q) ∧ El w' C n q l ∧ Below w.heap.size w w' := by
  have hl' := h.len
  rw [bcells_len, Nat.mul_one] at hl'
  rcases A with _ | a
  · obtain ⟨rfl, rfl⟩ := h.nil rfl
    obtain rfl : l = [] := List.eq_nil_of_length_eq_zero hl'
    exact (Tryd.bytes_Clone_nil 0 0 w).mono fun e w' ⟨he, hw⟩ => ⟨none, 0, he, El.none_ _, by rw [hw]; exact Below.refl _ _⟩
  · refine (Tryd.bytes_Clone_at a n c (l.map fun c => (c.toNat : Int)) w (by simpa using hl') (by omega) (fun i hi => ?_)).mono fun e w' ⟨v, he, ho, _, hb⟩ => ?_
    · rcases h.row with h0 | ⟨b', off', hA, hc⟩
      · have := congrArg List.length h0; rw [bcells_len, List.length_nil] at this; omega
      · injection hA with hA; subst hA; rw [addr_at]; exact Row.ints h.row i (by omega)
    · have ho' : w'.ownsRow w.heap.size 5 1 v n (bcells l) := own_cast ho (by unfold bcells; rw [List.map_map]; rfl) rfl
      obtain ⟨C, q, rfl, hs⟩ := El.of_own ho'
      exact ⟨C, q, he, hs, hb⟩
set_option maxRecDepth 100000 in
set_option maxHeartbeats 2000000 in
theorem grow_nil (n : Nat) (w : World) (hn : n ≤ 2000000) :
    Calls Tryd.prog 17 #[.slice none 0 0, .int .i64 n] w fun e w' => ∃ v, e = .returned v ∧ w'.ownsRow w.heap.size 5 1 v 0 [] ∧ Below w.heap.size w w' := by
  by_cases h0 : n = 0
  · subst h0
    go_enter Tryd.func17, Tryd.ntmps17
    go_wp2
    go_ret
    exact ⟨_, rfl, World.ownsRow_nil _ _ _ _, Below.refl _ _⟩
  · obtain ⟨i0, hi, iz0, iz1, iz2⟩ := info_parts infoB
    have hG := grownCap_ge w n 0 5
    have hGm := grownCap_le_maxLen w n 0 5 (by unfold maxLen; omega)
    have hrz : ∀ ty, (Builtin.append_ #[22, 3] ty #[.slice none 0 0, .int .i64 (n : Int)]).run Tryd.prog w =
        .ok (.slice (some ⟨w.heap.size, 0, none⟩) n (grownCap w n 0 5)) (w.drew.alloc (.cells ((#[] : Array Value) ++ Builtin.zeroCells (Value.int .u8 0).cells n ++ Builtin.zeroCells (Value.int .u8 0).cells (grownCap w n 0 5 - n)) 5)) := fun ty => by
      have h := Lib.run_append_grow_zeros w 22 3 ty 5 i0 (.int .u8 0) .i64 .i64 Tryd.underlying22 Tryd.underlying3 hi iz0 none 0 0 [] (run_firstCells_none w.drew i0.size 0 0 0) n (by omega) (by omega) (by omega) (by omega)
        (by rw [iz2]; omega) (by rw [Nat.zero_add, iz2]; exact growslice_fits (by omega) (by omega))
      rw [Nat.zero_add] at h
      exact h
    have own := World.ownsRow_made (base := w.heap.size) (e := 5) (size := 1) w.drew ((#[] : Array Value) ++ Builtin.zeroCells (Value.int .u8 0).cells n ++ Builtin.zeroCells (Value.int .u8 0).cells (grownCap w n 0 5 - n)) (grownCap w n 0 5) (Nat.le_refl _) hGm
      (by rw [Array.size_append, Array.size_append, oneCell_zeros, oneCell_zeros]; simp; omega)
    have hB := (Below.refl w.heap.size w).drew.alloc (Nat.le_refl _) (.cells ((#[] : Array Value) ++ Builtin.zeroCells (Value.int .u8 0).cells n ++ Builtin.zeroCells (Value.int .u8 0).cells (grownCap w n 0 5 - n)) 5)
    have hn0 : (n : Int) > 0 := by omega
    unfold maxLen at hGm
    generalize ((#[] : Array Value) ++ Builtin.zeroCells (Value.int .u8 0).cells n ++ Builtin.zeroCells (Value.int .u8 0).cells (grownCap w n 0 5 - n)) = cs at *
    generalize grownCap w n 0 5 = G at *
    clear hi iz0 iz1 iz2
    go_enter Tryd.func17, Tryd.ntmps17
    go_wp2_with (at_builtin; refine Lib.wpList_append_run _ rfl _ _ _ _ rfl _ _ rfl rfl _ _ (hrz _) ?_)
    all_goals
      go_ret
      exact ⟨_, rfl, own, hB⟩
set_option maxRecDepth 100000 in
set_option maxHeartbeats 2000000 in
theorem concat2 (A : Option Addr) (n c : Nat) (kb : List UInt8) (A' : Option Addr) (n' c' : Nat) (pb : List UInt8) (g : Nat) (w : World) (h : Sl w A n c 1 (bcells kb)) (h' : Sl w A' n' c' 1 (bcells pb)) (hbx : Box w g 22 #[.slice A n c, .slice A' n' c']) (hn : n ≤ 1000000) (hn' : n' ≤ 1000000) :
    Calls Tryd.prog 11 #[.slice (some ⟨g, 0, none⟩) 2 2] w fun e w' => ∃ C q, e = .returned (.slice C (n + n') q) ∧ El w' C (n + n') q (kb ++ pb) ∧ Below w.heap.size w w' := by
  have HK := Lib.hid h
  have HP := Lib.hid h'
  have HB := Lib.hid hbx
  have c0 : w.cell? ⟨g, 0, none⟩ = some (.slice A n c) := hbx.cell 0
  have c1 : w.cell? ⟨g, 1, none⟩ = some (.slice A' n' c') := hbx.cell 1
  obtain ⟨i0, hi, iz0, iz1, iz2⟩ := info_parts infoB
  clear h h' hbx
  go_enter Tryd.func11, Tryd.ntmps11
  go_wp2
  go_loopw [3, 11] (fun s3 s11 wr => wr = w ∧ ((s11 = .int .i64 0 ∧ s3 = .int .i64 0) ∨ (s11 = .int .i64 1 ∧ s3 = .int .i64 (n : Nat)) ∨ (s11 = .int .i64 2 ∧ s3 = .int .i64 ((n : Int) + (n' : Int))))) (fun _ s11 _ => 2 - (intOf s11).toNat)
  case atStart => exact ⟨rfl, .inl ⟨rfl, rfl⟩⟩
  case round =>
    obtain ⟨hw, ⟨rfl, rfl⟩ | ⟨rfl, rfl⟩ | ⟨rfl, rfl⟩⟩ := hrel <;> subst wr
    · go_wp2
      go_roundw
      case rel => exact ⟨by first | rfl | trivial, .inr (.inl ⟨rfl, rfl⟩)⟩
      case measure => simp [intOf]
    · go_wp2
      go_roundw
      case rel => exact ⟨by first | rfl | trivial, .inr (.inr ⟨rfl, rfl⟩)⟩
      case measure => simp [intOf]
    · go_wp2_with fail
      refine (grow_nil (n + n') w (by omega)).mono ?_
      rintro e w2 ⟨v, rfl, hown, hb⟩
      clear c0 c1
      have hz := hb.size
      go_wp2
      go_loopw [6, 27] (fun s6 s27 ww => Below w.heap.size w ww ∧ ((s27 = .int .i64 0 ∧ ww.ownsRow w.heap.size 5 1 s6 0 []) ∨ (s27 = .int .i64 1 ∧ ww.ownsRow w.heap.size 5 1 s6 n (bcells kb)) ∨ (s27 = .int .i64 2 ∧ ww.ownsRow w.heap.size 5 1 s6 (n + n') (bcells (kb ++ pb))))) (fun _ s27 _ => 2 - (intOf s27).toNat)
      case atStart => exact ⟨hb, .inl ⟨rfl, hown⟩⟩
      case round =>
        clear hown hb hz
        obtain ⟨hb, ⟨rfl, hown⟩ | ⟨rfl, hown⟩ | ⟨rfl, hown⟩⟩ := hrel
        · have hz := hb.size
          have d0 : wr.cell? ⟨g, 0, none⟩ = some (.slice A n c) := (HB.out.on hb).cell 0
          have hx := HK.out.on hb
          go_wp2_with (at_builtin; refine wpList_append_sl rfl (.tmp 31) (.tmp 32) 22 rfl w.heap.size 5 i0 (.int .u8 0) 1 1 Tryd.underlying22 hi iz0 iz1 iz2 rfl (by decide) _ _ _ rfl hown A n c (bcells kb) rfl hx (bcells_one _) ?c3 ?c4 ?c5 ?_)
          case c3 => unfold maxLen; omega
          case c4 => omega
          case c5 => omega
          intro v3 w3 own3 hg3
          have hb3 := below_own hb hg3 hz hown
          clear hg3 hown hx d0
          go_wp2
          go_roundw
          case rel => exact ⟨hb3, .inr (.inl ⟨rfl, own_cast own3 (by simp) (by omega)⟩)⟩
          case measure => simp [intOf]
        · have hz := hb.size
          have d1 : wr.cell? ⟨g, 1, none⟩ = some (.slice A' n' c') := (HB.out.on hb).cell 1
          have hx := HP.out.on hb
          go_wp2_with (at_builtin; refine wpList_append_sl rfl (.tmp 31) (.tmp 32) 22 rfl w.heap.size 5 i0 (.int .u8 0) 1 1 Tryd.underlying22 hi iz0 iz1 iz2 rfl (by decide) _ _ _ rfl hown A' n' c' (bcells pb) rfl hx (bcells_one _) ?d3 ?d4 ?d5 ?_)
          case d3 => unfold maxLen; omega
          case d4 => omega
          case d5 => omega
          intro v3 w3 own3 hg3
          have hb3 := below_own hb hg3 hz hown
          clear hg3 hown hx d1
          go_wp2
          go_roundw
          case rel => exact ⟨hb3, .inr (.inr ⟨rfl, own_cast own3 (by rw [bcells_app]) rfl⟩)⟩
          case measure => simp [intOf]
        · obtain ⟨C, q, rfl, hel⟩ := El.of_own (l := kb ++ pb) hown
          clear hown
          go_wp2
          go_ret
          exact ⟨C, q, rfl, hel, hb⟩
def lenS : Value → Nat
  | .slice _ n _ => n
  | _ => 0
theorem box_new (w : World) (cs : Array Value) (t : TypeId) : Box (w.alloc (.cells cs t)) w.heap.size t cs := Box.new w cs t
set_option maxRecDepth 100000 in
set_option maxHeartbeats 4000000 in
theorem feed_In : InOk := by
  intro A n c kb A' n' c' pb w h hn h' hn' hl hl' hctx
  have hcm := h.cap
  have hle := h.le
  have hcm' := h'.cap
  have hle' := h'.le
  unfold maxLen at hcm hcm'
  have HK := Lib.hid h
  have HP := Lib.hid h'
  clear h h'
  by_cases hlong : 16384 ≤ n ∨ 65536 < n'
  · obtain ⟨e1, e2⟩ := in_long (kb := kb) (pb := pb) (by omega)
    have HR := Lib.hid (show ∀ w' C q, El w' C n q kb → Below w.heap.size w w' → ∀ e, e = .returned (.tuple #[.slice C n q, .slice none 0 0, .int .i64 0, .int .i64 4]) → InPost kb pb w e w' from fun w' C q hel hb e he => ⟨C, n, q, none, 0, 0, by rw [e1, e2]; exact he, by rw [e2]; exact hel.sl, by rw [e2]; exact SlL.none_ _, hb, fun h0 => by rw [e1] at h0; cases h0⟩)
    have Hcl := Lib.hid (cloneAny A n c kb w HK.out hl)
    clear e1 e2
    rcases (show 16384 ≤ n ∨ (n < 16384 ∧ 65536 < n') by omega) with h | ⟨h, h'⟩
    · have hli : (16384 : Int) ≤ (n : Int) := by omega
      clear hlong
      go_enter Tryd.func7, Tryd.ntmps7
      go_wp2_with fail
      refine Hcl.out.mono ?_
      rintro e w2 ⟨C, q, rfl, hel, hb⟩
      go_wp2
      ((try simp only [Exit.inBlock, Exit.then]); refine bodyPost_ret (results_tmp4 rfl _ _ _) rfl ?_)
      exact HR.out _ _ _ hel hb _ rfl
    · clear hlong
      go_enter Tryd.func7, Tryd.ntmps7
      go_wp2_with fail
      refine Hcl.out.mono ?_
      rintro e w2 ⟨C, q, rfl, hel, hb⟩
      go_wp2
      ((try simp only [Exit.inBlock, Exit.then]); refine bodyPost_ret (results_tmp4 rfl _ _ _) rfl ?_)
      exact HR.out _ _ _ hel hb _ rfl
  · obtain ⟨e1, e2⟩ := in_short (kb := kb) (pb := pb) (by omega)
    have HR := Lib.hid (show ∀ w' (C : Option Addr) (q r : Nat) (B : Option Addr) (m d : Nat), El w' C q r (feed (kb ++ pb)).2.2 → SlL w' B m d (feed (kb ++ pb)).1 → Below w.heap.size w w' → ∀ e, e = .returned (.tuple #[.slice C q r, .slice B m d, .int .i64 ((feed (kb ++ pb)).2.1 : Nat), .int .i64 0]) → InPost kb pb w e w' from
      fun w' C q r B m d hs hl hb e he => ⟨C, q, r, B, m, d, by rw [e1, e2]; exact he, by rw [e2]; exact hs.sl, by rw [e2]; exact hl, hb, fun _ => hs.ty⟩)
    have hn1 : n < 16384 := by omega
    have hn2 : n' ≤ 65536 := by omega
    have hn1i : ¬ ((16384 : Int) ≤ (n : Int)) := by omega
    clear e1 e2 hlong
    obtain ⟨s0, hsi, sz0, sz1, sz2⟩ := info_parts infoS
    have hB0 := (Below.refl w.heap.size w).alloc (Nat.le_refl _) (.cells #[.slice A n c, .slice A' n' c'] 22)
    have Hcc := Lib.hid (concat2 A n c kb A' n' c' pb w.heap.size _ (HK.out.on hB0) (HP.out.on hB0) (Box.new w _ _) hl hl')
    have hTl : (kb ++ pb).length = n + n' := by rw [List.length_append]; omega
    generalize hT : kb ++ pb = T at *
    generalize hL : n + n' = L at *
    have hL9 : L ≤ 90000 := by omega
    go_enter Tryd.func7, Tryd.ntmps7
    go_wp2_with fail
    refine Hcc.out.mono ?_
    rintro e w5 ⟨C5, q5, rfl, hel5, hb5⟩
    have hB5 : Below w.heap.size w w5 := hB0.trans (hb5.mono (by simp))
    have hz5 := hB5.size
    have HE5 := Lib.hid hel5
    clear Hcc hel5 hB0 hb5
    go_wp2_with fail
    go_loopw [8, 9, 10] (fun s8 s9 s10 wr => ∃ (jk : Nat) (bs : List (List UInt8)) (vs : List Value) (R : List UInt8) (C : Option Addr) (r q : Nat), s9 = .int .i64 (jk : Nat) ∧ s10 = .slice C r q ∧ R.length = r ∧ jk + bs.length + r ≤ L ∧ wr.ownsRow w5.heap.size 22 1 s8 bs.length vs ∧ Hid (Lst wr vs bs) ∧
      Hid (feed T = cat (bs, jk, []) (feed R)) ∧ Hid (El wr C r q R) ∧ Below w5.heap.size w5 wr) (fun _ _ s10 _ => lenS s10)
    case atStart => exact ⟨0, [], [], T, C5, L, q5, rfl, rfl, hTl, by simp, World.ownsRow_nil _ _ _ _, Lst.nil _, Lib.hid (by simp [cat]), HE5, Below.refl _ _⟩
    case round =>
      obtain ⟨jk, bs, vs, R, C, r, q, rfl, rfl, hrl, hjL, hown, Hl, Hf, He, hb⟩ := hrel
      have hB : Below w.heap.size w wr := hB5.trans (hb.mono hz5)
      have hnx := frame_NextT C r q R wr He.out.sl hrl (by omega) (hctx.on hB)
      clear HE5
      rcases nxt_sound R with hx | ⟨hx, hN1, hN2⟩ | ⟨x, N, hx, hE, hV, hN1, hN2, hxN⟩
      · rw [show NextPostT C R wr = fun e w' => ∃ A n c, e = .returned (.tuple #[.int .i64 0, .slice A n c, .int .i64 0]) ∧ Sl w' A n c 1 [] ∧ Below wr.heap.size wr w' ∧ Fm A ∧ (Typed wr C 5 → Typed w' A 5) from by
          funext e w'; unfold NextPostT; rw [hx]; rfl] at hnx
        have hfe := Hf.out
        rw [feed_need hx] at hfe
        have Hnx := Lib.hid hnx
        clear hx hnx Hf
        go_wp2_with fail
        refine Hnx.out.mono ?_
        rintro e w2 ⟨A2, n2, c2, rfl, _, hb2, _⟩
        have hB2 : Below w.heap.size w w2 := hB.trans (hb2.mono hB.size)
        have Hcl := Lib.hid (cloneAny C r q R w2 (He.out.sl.on hb2) (by omega))
        obtain ⟨B, d, rfl, hsl⟩ := row_slice (own_on hown hb2) (Hl.out.on hb2)
        have Hsl := Lib.hid hsl
        have hf1 : (feed T).1 = bs := by rw [hfe]; simp [cat]
        have hf2 : (feed T).2.1 = jk := by rw [hfe]; rfl
        have hf3 : (feed T).2.2 = R := by rw [hfe]; rfl
        rw [hf1, hf2, hf3] at HR
        clear Hnx hfe hsl hown Hl He hf1 hf2 hf3
        go_wp2_with fail
        refine Hcl.out.mono ?_
        rintro e w3 ⟨C3, q3, rfl, hel3, hb3⟩
        have HR3 := Lib.hid (HR.out w3 C3 r q3 B bs.length d hel3 (Hsl.out.on hb3) (hB2.trans (hb3.mono hB2.size)))
        clear Hcl hel3 Hsl HR
        go_wp2
        ((try simp only [Exit.inBlock, Exit.then]); refine bodyPost_ret (results_tmp4 rfl _ _ _) rfl ?_)
        exact HR3.out _ rfl
      · obtain ⟨gb, go', rfl⟩ : ∃ gb go', C = some ⟨gb, go', none⟩ := by
          rcases He.out.fm with rfl | h
          · have := (He.out.sl.nil rfl).1; omega
          · exact h
        rw [show NextPostT (some ⟨gb, go', none⟩) R wr = fun e w' => ∃ A n c, e = .returned (.tuple #[.int .i64 2, .slice A n c, .int .i64 (junkN R : Nat)]) ∧ Sl w' A n c 1 [] ∧ Below wr.heap.size wr w' ∧ Fm A ∧ (Typed wr (some ⟨gb, go', none⟩) 5 → Typed w' A 5) from by
          funext e w'; unfold NextPostT; rw [hx]; rfl] at hnx
        have hfe := Hf.out
        rw [feed_junk hx hN1 hN2] at hfe
        have Hnx := Lib.hid hnx
        rw [hrl] at hN2
        have Hd : (R.drop (junkN R)).length = r - junkN R := by rw [List.length_drop]; omega
        clear hx hnx Hf
        have hrq := He.out.sl.le
        have hqm := He.out.sl.cap
        unfold maxLen at hqm
        generalize junkN R = N at *
        have Hf2 := Lib.hid (show feed T = cat (bs, jk + N, []) (feed (R.drop N)) by rw [hfe]; simp [cat]; omega)
        clear hfe HR
        go_wp2_with fail
        refine Hnx.out.mono ?_
        rintro e w2 ⟨A2, n2, c2, rfl, _, hb2, _⟩
        have hb2' : Below w5.heap.size w5 w2 := hb.trans (hb2.mono hb.size)
        have own2 := own_on hown hb2
        have Hl2 := Lib.hid (Hl.out.on hb2)
        have He2 := Lib.hid ((He.out.on hb2).cut N hN2 (if q = N then some ⟨gb, go', none⟩ else some ⟨gb, go' + N, none⟩) (by rw [Option.map_some, addr_at]))
        clear Hnx hown Hl He
        go_wp2
        go_roundw
        case rel => exact ⟨jk + N, bs, vs, R.drop N, _, r - N, q - N, by go_num, rfl, Hd, by omega, own2, Hl2, Hf2, He2, hb2'⟩
        case measure => simp [lenS]; omega
      · obtain ⟨gb, go', rfl⟩ : ∃ gb go', C = some ⟨gb, go', none⟩ := by
          rcases He.out.fm with rfl | h
          · have := (He.out.sl.nil rfl).1; omega
          · exact h
        rw [show NextPostT (some ⟨gb, go', none⟩) R wr = fun e w' => ∃ A n c, e = .returned (.tuple #[.int .i64 1, .slice A n c, .int .i64 (N : Nat)]) ∧ Sl w' A n c 1 (bcells x) ∧ Below wr.heap.size wr w' ∧ Fm A ∧ (Typed wr (some ⟨gb, go', none⟩) 5 → Typed w' A 5) from by
          funext e w'; unfold NextPostT; rw [hx]] at hnx
        have hfe := Hf.out
        rw [feed_frame hx hN1 hN2] at hfe
        have Hnx := Lib.hid hnx
        rw [hrl] at hN2
        have Hd : (R.drop N).length = r - N := by rw [List.length_drop]; omega
        have hrq := He.out.sl.le
        have hqm := He.out.sl.cap
        unfold maxLen at hqm
        have Hf2 := Lib.hid (show feed T = cat (bs ++ [x], jk, []) (feed (R.drop N)) by rw [hfe]; simp [cat])
        clear hx hnx Hf hE hV hfe HR
        go_wp2_with fail
        refine Hnx.out.mono ?_
        rintro e w2 ⟨A2, n2, c2, rfl, hs2, hb2, fm2, ty2⟩
        have hb2' : Below w5.heap.size w5 w2 := hb.trans (hb2.mono hb.size)
        have own2 := own_on hown hb2
        have hel2 : El w2 A2 n2 c2 x := ⟨hs2, ty2 He.out.ty, fm2⟩
        have hl2 := (Hl.out.on hb2).app (Lst.one hel2)
        have hz2 := hb2'.size
        have hba := (Below.refl w2.heap.size w2).alloc (Nat.le_refl _) (.cells #[.slice A2 n2 c2] 22)
        have Hl3 := Lib.hid (hl2.on hba)
        have He3 := Lib.hid (((He.out.on hb2).cut N hN2 (if q = N then some ⟨gb, go', none⟩ else some ⟨gb, go' + N, none⟩) (by rw [Option.map_some, addr_at])).on hba)
        clear Hnx hown Hl hs2 hel2 hl2 ty2 fm2 He hba
        go_wp2_with (at_builtin; refine wpList_append_own _ rfl (.tmp 41) (.tmp 43) 24 rfl w5.heap.size 22 s0 (.slice none 0 0) 1 24 Tryd.underlying24 hsi sz0 sz1 sz2 rfl (by decide) _ _ _ rfl (own2.alloc _) ⟨w2.heap.size, 0, none⟩ 1 1 [.slice A2 n2 c2] rfl rfl (box_news w2 _ _) (one_slice _ _ _) ?e3 ?e4 ?e5 ?_)
        case e3 => unfold maxLen; omega
        case e4 => omega
        case e5 => simp; omega
        intro v3 w3 own3 hg3 _
        have hb3 := below_own (hb2'.alloc hz2 _) hg3 (by simp; omega) (own2.alloc _)
        have Hl4 := Lib.hid (Hl3.out.grown hg3 (own2.alloc _) (by decide))
        have He4 := Lib.hid (He3.out.grown hg3 (own2.alloc _) (by decide))
        have own4 : w3.ownsRow w5.heap.size 22 1 v3 (bs ++ [x]).length (vs ++ [.slice A2 n2 c2]) := own_cast own3 rfl (by simp)
        clear hg3 own3 own2 Hl3 He3
        go_wp2
        go_roundw
        case rel => exact ⟨jk, bs ++ [x], vs ++ [.slice A2 n2 c2], R.drop N, _, r - N, q - N, rfl, rfl, Hd, by simp; omega, own4, Hl4, Hf2, He4, hb3⟩
        case measure => simp [lenS]; omega
end Go.Proofs.YtacaipnjedfdoaaDoor
