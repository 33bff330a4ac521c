/-
  Layer 3, frame: what stands at the beginning: the program's answer.
-/
import Derived.Test.YtacaipnjedfdoaaDoorFrmJunk
import Derived.Test.YtacaipnjedfdoaaDoorFrmNextMath
import Derived.Test.YtacaipnjedfdoaaDoorLst
namespace Go.Proofs.YtacaipnjedfdoaaDoor
open Go.RowKit

def NextPost (bs : List UInt8) (w : World) (e : Ending) (w' : World) : Prop :=
  ∃ A n c, e = .returned (.tuple #[.int .i64 (nxt bs).1, .slice A n c, .int .i64 ((nxt bs).2.2 : Nat)]) ∧ Sl w' A n c 1 (bcells (nxt bs).2.1) ∧ Below w.heap.size w w' ∧ Fm A
/-- The same, and where the body lies, if what came in lies so. -/
def NextPostT (A0 : Option Addr) (bs : List UInt8) (w : World) (e : Ending) (w' : World) : Prop :=
  ∃ A n c, e = .returned (.tuple #[.int .i64 (nxt bs).1, .slice A n c, .int .i64 ((nxt bs).2.2 : Nat)]) ∧ Sl w' A n c 1 (bcells (nxt bs).2.1) ∧ Below w.heap.size w w' ∧ Fm A ∧ (Typed w A0 5 → Typed w' A 5)
theorem NextPostT.plain {A0 : Option Addr} {bs : List UInt8} {w : World} (e : Ending) (w' : World) (h : NextPostT A0 bs w e w') : NextPost bs w e w' := by
  obtain ⟨A, n, c, h1, h2, h3, h4, _⟩ := h
  exact ⟨A, n, c, h1, h2, h3, h4⟩
theorem next_none {A0 : Option Addr} {bs : List UInt8} {k : Int} {m : Nat} (h : nxt bs = (k, [], m)) {w w' : World} (hb : Below w.heap.size w w') {e : Ending} (he : e = .returned (.tuple #[.int .i64 k, .slice none 0 0, .int .i64 (m : Nat)])) : NextPostT A0 bs w e w' := by
  refine ⟨none, 0, 0, ?_, ?_, hb, .inl rfl, fun _ => Typed.none_ _ _⟩
  · rw [h]; exact he
  · rw [h]; exact Sl.none_ _ _
theorem sl_in {w : World} {A : Option Addr} {n c : Nat} {l : List UInt8} (h : Sl w A n c 1 (bcells l)) : Lib.BytesIn w A n (l.map fun c => (c.toNat : Int)) := by
  have hl := h.len
  rw [bcells_len, Nat.mul_one] at hl
  intro hn
  rcases h.row with h0 | ⟨b, off, rfl, hc⟩
  · have := congrArg List.length h0; rw [bcells_len, List.length_nil] at this; omega
  · exact ⟨b, off, rfl, fun i hi => Row.ints (.inr ⟨b, off, rfl, hc⟩) i (by omega)⟩
theorem bytesCutBeg (b off n c g : Nat) (l : List UInt8) (w : World) (h : Sl w (some ⟨b, off, none⟩) n c 1 (bcells l)) (hg : Sl w (some ⟨g, 0, none⟩) 12 12 1 (bcells begL)) :
    Calls Tryd.prog 19 #[.slice (some ⟨b, off, none⟩) n c, .slice (some ⟨g, 0, none⟩) 12 12] w fun e w' =>
      e = .returned (.tuple #[if Lib.hasPrefix l begL = true then Lib.sliceFrom b off n c 12 else .slice (some ⟨b, off, none⟩) n c, .bool (Lib.hasPrefix l begL)]) ∧ w = w' := by
  have hl := h.len
  rw [bcells_len, Nat.mul_one] at hl
  refine (Tryd.bytes_CutPrefix_all (some ⟨b, off, none⟩) (some ⟨g, 0, none⟩) n c 12 12 (l.map fun c => (c.toNat : Int)) (begL.map fun c => (c.toNat : Int)) w (by simpa using hl) rfl h.le (sl_in h) (sl_in hg)).mono fun e w' ⟨he, hw⟩ => ⟨?_, hw.symm⟩
  rw [he, bytesOf_ints, bytesOf_ints]
  have e1 : Lib.trimPrefixV (some ⟨b, off, none⟩) n c (l.map fun c => (c.toNat : Int)) (begL.map fun c => (c.toNat : Int)) = Lib.bytesTrimPrefix b off n c (l.map fun c => (c.toNat : Int)) (begL.map fun c => (c.toNat : Int)) := rfl
  rw [e1]
  unfold Lib.bytesTrimPrefix
  rw [bytesOf_ints, bytesOf_ints]
  rfl
theorem bytesCut1 (A : Option Addr) (n c g : Nat) (l : List UInt8) (w : World) (h : Sl w A n c 1 (bcells l)) (hl : n ≤ 1000000) (hg : Sl w (some ⟨g, 0, none⟩) 1 1 1 (bcells [1])) (hctx : FCtx w) :
    Calls Tryd.prog 21 #[.slice A n c, .slice (some ⟨g, 0, none⟩) 1 1] w fun e w' =>
      (e = .returned (match split1 1 l with | none => .tuple #[.slice A n c, .slice none 0 0, .bool false] | some p => .tuple #[.slice A p.1.length c, Lib.fromV A n c (p.1.length + 1), .bool true])) ∧ Below w.heap.size w w' := by
  have hl' := h.len
  rw [bcells_len, Nat.mul_one] at hl'
  obtain ⟨m, hm⟩ := hctx.2.2
  refine (Tryd.bytes_Cut_all A (some ⟨g, 0, none⟩) n c 1 1 (l.map fun c => (c.toNat : Int)) (([1] : List UInt8).map fun c => (c.toNat : Int)) m w (by simpa using hl') rfl (ints_range l) (ints_range [1]) (sl_in h) (sl_in hg) (fun hA => (h.nil hA).2) h.le (by omega) (by decide) hm).mono
    fun e w' ⟨he, q, hw⟩ => ⟨?_, ?_⟩
  · rw [he, bytesOf_ints, bytesOf_ints, Lib.index_one, indexByte_split]
    unfold Lib.cutV
    cases split1 1 l with
    | none => rfl
    | some p => simp
  · rw [hw]; exact ⟨rfl, rfl, rfl, Nat.le_refl _, fun _ _ => rfl⟩
theorem bytesEqual (A D : Option Addr) (n c m d : Nat) (l k : List UInt8) (w : World) (h : Sl w A n c 1 (bcells l)) (h' : Sl w D m d 1 (bcells k)) :
    Calls Tryd.prog 23 #[.slice A n c, .slice D m d] w fun e w' => e = .returned (.bool (decide (l = k))) ∧ w = w' := by
  have hl := h.len
  have hk := h'.len
  rw [bcells_len, Nat.mul_one] at hl hk
  refine (Tryd.bytes_Equal_all A D n c m d (l.map fun c => (c.toNat : Int)) (k.map fun c => (c.toNat : Int)) w (by simpa using hl) (by simpa using hk) (sl_in h) (sl_in h')).mono fun e w' ⟨he, hw⟩ => ⟨?_, hw.symm⟩
  rw [he, bytesOf_ints, bytesOf_ints, Bool.beq_eq_decide_eq]
theorem bytesClone (b off n c : Nat) (l : List UInt8) (w : World) (h : Sl w (some ⟨b, off, none⟩) n c 1 (bcells l)) (hl : n ≤ 1000000) :
    Calls Tryd.prog 10 #[.slice (some ⟨b, off, none⟩) n c] w fun e w' => ∃ A c', e = .returned (.slice A n c') ∧ Sl w' A n c' 1 (bcells l) ∧ Below w.heap.size w w' ∧ Fm A ∧ Typed w' A 5 := by
  have hl' := h.len
  rw [bcells_len, Nat.mul_one] at hl'
  refine (Tryd.bytes_Clone_at ⟨b, off, none⟩ n c (l.map fun c => (c.toNat : Int)) w (by simpa using hl') (by omega) (fun i hi => ?_)).mono fun e w' ⟨v, he, ho, _, hb⟩ => ?_
  · rcases h.row with h0 | ⟨b', off', hA, hc⟩
    · have := congrArg List.length h0; rw [bcells_len, List.length_nil] at this; omega
    · rw [addr_at]; exact Row.ints h.row i (by omega)
  · have ho' : w'.ownsRow w.heap.size 5 1 v n (bcells l) := own_cast ho (by unfold bcells; rw [List.map_map]; rfl) rfl
    obtain ⟨A, c', rfl, hs⟩ := El.of_own ho'
    exact ⟨A, c', he, hs.sl, hb, hs.fm, hs.ty⟩
set_option maxRecDepth 100000 in
set_option maxHeartbeats 1000000 in
theorem frame_NextT (A : Option Addr) (n c : Nat) (bs : List UInt8) (w : World) (h : Sl w A n c 1 (bcells bs)) (hn : bs.length = n) (hl : n ≤ 1000000) (hctx : FCtx w) :
    Calls Tryd.prog 12 #[.slice A n c] w (NextPostT A bs w) := by
  have HS := Lib.hid h
  have hle := h.le
  have hcm := h.cap
  unfold maxLen at hcm
  have hst := Lib.hid (frame_starts A n c bs w h hn)
  rcases hs : starts3 bs with _ | _
  · rw [hs] at hst
    have h0 := not_starts_ne hs
    have hpos : 0 < n := by rw [← hn]; exact List.length_pos_iff.2 h0
    obtain ⟨b, off, rfl⟩ : ∃ b off, A = some ⟨b, off, none⟩ := by
      rcases h.row with h' | ⟨b, off, e, _⟩
      · exact absurd (List.map_eq_nil_iff.1 h') h0
      · exact ⟨b, off, e⟩
    have hjk : Hid (∀ W, Below w.heap.size w W → Calls Tryd.prog 20 #[.slice (some ⟨b, off, none⟩) n c] W fun e w' => e = .returned (.int .i64 (junkN bs)) ∧ Below W.heap.size W w') := fun W hW => frame_junk _ n c bs W (HS.out.on hW) hn hl h0 (hctx.on hW)
    have kc := convBeg
    obtain ⟨g1, c1, hv1, hs1, _⟩ := (moBeg w w.heap.size (Nat.le_refl _)).sl
    injection hv1 with hv1 _ hv2
    injection hv1 with hv1
    injection hv1 with hv1 _ _
    subst hv1; subst hv2
    have hB1 := (Below.refl w.heap.size w).alloc (Nat.le_refl _) (.cells (#[.int .u8 56, .int .u8 61, .int .u8 70, .int .u8 73, .int .u8 88, .int .u8 46, .int .u8 52, .int .u8 46, .int .u8 52, .int .u8 1, .int .u8 57, .int .u8 61]) 5 (12, 13))
    have hcp := Lib.hid (bytesCutBeg b off n c w.heap.size bs _ (h.on hB1) hs1)
    clear h hs1
    rcases hp : Lib.hasPrefix bs begL with _ | _
    · have HP := Lib.hid (fun w' hb e he => next_none (A0 := some ⟨b, off, none⟩) (w := w) (w' := w') (e := e) (show nxt bs = (2, [], junkN bs) by unfold nxt; rw [hs, hp]; rfl) hb he)
      rw [hp] at hcp
      clear hs hp
      go_enter Tryd.func12, Tryd.ntmps12
      go_wp2_with (fail)
      refine hst.out.mono ?_
      rintro e w' ⟨rfl, rfl⟩
      go_wp2_with (fail)
      refine hcp.out.mono ?_
      rintro e w' ⟨rfl, rfl⟩
      go_wp2_with (fail)
      refine (hjk.out _ hB1).mono ?_
      rintro e w2 ⟨rfl, hb2⟩
      go_wp2
      go_ret3
      exact HP.out _ (hB1.trans (hb2.mono (by simp))) _ rfl
    · obtain ⟨hpre, h12⟩ := pre_beg hp
      rw [hn] at h12
      obtain ⟨R, rl, rc, hrl, hrc, hsR, hcp2⟩ : ∃ R rl rc, rl = n - 12 ∧ rc = c - 12 ∧ Sl w R rl rc 1 (bcells (bs.drop 12)) ∧ (if Lib.hasPrefix bs begL = true then Lib.sliceFrom b off n c 12 else .slice (some ⟨b, off, none⟩) n c) = .slice R rl rc := by
        have hc := HS.out.cut 12 h12
        rw [bcells_drop, Option.map_some, addr_at] at hc
        exact ⟨_, _, _, rfl, rfl, hc, by rw [hp]; rfl⟩
      rw [hcp2, hp] at hcp
      clear hcp2
      have hrll : (bs.drop 12).length = rl := by rw [List.length_drop]; omega
      obtain ⟨k5, hk5⟩ : ∃ k5, k5 = min rl 5 := ⟨_, rfl⟩
      have hmin : min (rl : Int) 5 = (k5 : Int) := by omega
      have hf5 := hsR.front k5 (by omega)
      rw [bcells_take, show (bs.drop 12).take k5 = (bs.drop 12).take 5 by
        rw [hk5, Nat.min_def]; split
        · rw [List.take_of_length_le (by omega), List.take_of_length_le (by omega)]
        · rfl] at hf5
      have hrle := hsR.le
      have hB2 := hB1.alloc (by simp) (.cells #[.int .u8 1] 5)
      have hnew := sl_new1 (w.alloc (.cells (#[.int .u8 56, .int .u8 61, .int .u8 70, .int .u8 73, .int .u8 88, .int .u8 46, .int .u8 52, .int .u8 46, .int .u8 52, .int .u8 1, .int .u8 57, .int .u8 61]) 5 (12, 13))) (.int .u8 1) 5
      rw [World.size_alloc] at hnew
      obtain ⟨v8, hct0⟩ : ∃ v8, (Calls Tryd.prog 21 #[.slice R k5 rc, .slice (some ⟨w.heap.size + 1, 0, none⟩) 1 1] ((w.alloc (.cells (#[.int .u8 56, .int .u8 61, .int .u8 70, .int .u8 73, .int .u8 88, .int .u8 46, .int .u8 52, .int .u8 46, .int .u8 52, .int .u8 1, .int .u8 57, .int .u8 61]) 5 (12, 13))).alloc (.cells #[.int .u8 1] 5)) fun e w' =>
          e = .returned (.tuple #[.slice R (lenT (bs.drop 12)).length rc, v8, .bool (digsOf (bs.drop 12)).2]) ∧ Below w.heap.size w w') := by
        have hc := bytesCut1 R k5 rc (w.heap.size + 1) ((bs.drop 12).take 5) _ (hf5.on hB2) (by omega) hnew (hctx.on hB2)
        unfold lenT
        rcases digs_cases (bs.drop 12) with ⟨h1, _, h3⟩ | ⟨a, t, h1, _, _, _, _, _, h3⟩
        · rw [h3] at hc
          refine ⟨.slice none 0 0, hc.mono fun e w' ⟨he, hb⟩ => ⟨?_, hB2.trans (hb.mono (by simp; omega))⟩⟩
          rw [he, h1, show k5 = ((bs.drop 12).take 5).length by rw [List.length_take]; omega]
        · rw [h3] at hc
          refine ⟨Lib.fromV R k5 rc (a.length + 1), hc.mono fun e w' ⟨he, hb⟩ => ⟨?_, hB2.trans (hb.mono (by simp; omega))⟩⟩
          rw [he, h1]
      have hct := Lib.hid hct0
      clear hct0
      have hdl : (lenT (bs.drop 12)).length ≤ 5 ∧ (lenT (bs.drop 12)).length ≤ rl ∧ Sl w R (lenT (bs.drop 12)).length rc 1 (bcells (lenT (bs.drop 12))) := by
        unfold lenT
        rcases digs_cases (bs.drop 12) with ⟨h1, _, h3⟩ | ⟨a, t, h1, g1, _, g3, g4, _, h3⟩
        · rw [h1]
          dsimp only
          have : ((bs.drop 12).take 5).length = k5 := by rw [List.length_take]; omega
          rw [this]; exact ⟨by omega, by omega, hf5⟩
        · rw [h1]
          dsimp only
          have hal : a.length ≤ rl := by have := congrArg List.length g4; rw [List.length_take] at this; omega
          refine ⟨by omega, hal, ?_⟩
          have := hsR.front a.length hal
          rwa [bcells_take, ← g4] at this
      have hlen : Hid (∀ W, Below w.heap.size w W → Calls Tryd.prog 22 #[.slice R (lenT (bs.drop 12)).length rc] W fun e w' => e = .returned (.tuple #[.int .i64 (lenV (lenT (bs.drop 12))), .bool (lenB (lenT (bs.drop 12)))]) ∧ Below w.heap.size w w') := fun W hW =>
        (frame_length R _ rc _ W (hdl.2.2.on hW) rfl (hctx.on hW)).mono fun e w' ⟨he, hb⟩ => ⟨he, hW.trans (hb.mono hW.size)⟩
      have hd5 := hdl.1
      have hdr := hdl.2.1
      have Hcs := Lib.hid (headK_facts (bs.drop 12))
      have N0 := Lib.hid (@nxt_h0 bs hs hp)
      have N2 := Lib.hid (@nxt_h2 bs hs hp)
      have N1 := Lib.hid (@nxt_h1 bs hs hp)
      have hwh : wholeOf bs = 12 + (lenT (bs.drop 12)).length + 1 + decA 0 (lenT (bs.drop 12)) + 7 := rfl
      have hbo : bodyOf bs = (bs.drop (12 + (lenT (bs.drop 12)).length + 1)).take (decA 0 (lenT (bs.drop 12))) := rfl
      have Hp := Lib.hid hp
      have Hs := Lib.hid hs
      have HsR := Lib.hid hsR
      have Hrl := Lib.hid hrl
      have Hrc := Lib.hid hrc
      have hk5r : k5 ≤ rl := by omega
      clear hpre hp hs hsR hf5 hnew hB1 hdl hrl hrc hk5 hrll
      generalize hdg : lenT (bs.drop 12) = d at *
      generalize (digsOf (bs.drop 12)).2 = en at *
      generalize hok : lenB d = ok at *
      generalize hvv : lenV d = v at *
      go_enter Tryd.func12, Tryd.ntmps12
      go_wp2_with (fail)
      refine hst.out.mono ?_
      rintro e w' ⟨rfl, rfl⟩
      go_wp2_with (fail)
      refine hcp.out.mono ?_
      rintro e w' ⟨rfl, rfl⟩
      go_wp2_with (fail)
      refine hct.out.mono ?_
      rintro e w2 ⟨rfl, hb2⟩
      go_wp2_with (fail)
      refine (hlen.out _ hb2).mono ?_
      rintro e w3 ⟨rfl, hb3⟩
      clear kc hcp hct hlen hst
      rcases Hcs.out with ⟨hk, rfl, hx⟩ | ⟨hk, rfl, hx⟩ | ⟨hk, rfl, rfl⟩
      · have HP := Lib.hid (fun w' hb e he => next_none (A0 := some ⟨b, off, none⟩) (w := w) (w' := w') (e := e) (N0.out hk) hb he)
        clear hk Hcs N0 N1 N2 hwh hbo
        rcases hx with rfl | ⟨rfl, hx⟩
        · go_wp2
          go_ret3
          exact HP.out _ hb3 _ rfl
        · go_wp2
          go_ret3
          exact HP.out _ hb3 _ rfl
      · have HP := Lib.hid (fun w' hb e he => next_none (A0 := some ⟨b, off, none⟩) (w := w) (w' := w') (e := e) (N2.out hk) hb he)
        clear hk Hcs N0 N1 N2 hwh hbo
        rcases hx with rfl | ⟨rfl, hx⟩
        · go_wp2_with (fail)
          refine (hjk.out _ hb3).mono ?_
          rintro e w4 ⟨rfl, hb4⟩
          go_wp2
          go_ret3
          exact HP.out _ (hb3.trans (hb4.mono hb3.size)) _ rfl
        · have hx2 : ((d.length : Int) == 0) = false := by simp; intro hh; rw [hh] at hx; simp at hx
          go_wp2_with (fail)
          refine (hjk.out _ hb3).mono ?_
          rintro e w4 ⟨rfl, hb4⟩
          go_wp2
          go_ret3
          exact HP.out _ (hb3.trans (hb4.mono hb3.size)) _ rfl
      · have hv1 := lenV_pos hok
        rw [hvv] at hv1
        rw [← hv1] at hwh hbo
        obtain ⟨_, hv2, hv3⟩ := lenB_back hok
        rw [← hv1] at hv2 hv3
        have Nn := Lib.hid (N1.out hk)
        clear hk Hcs N0 N1 N2 hok hv1 hvv
        by_cases hlt : n < 12 + d.length + 1 + v + 7
        · have HP := Lib.hid (fun w' hb e he => next_none (A0 := some ⟨b, off, none⟩) (w := w) (w' := w') (e := e) (show nxt bs = (0, [], 0) by rw [Nn.out, if_pos (by omega)]) hb he)
          clear hwh hbo Nn
          go_wp2
          go_ret3
          exact HP.out _ hb3 _ rfl
        · have hbody := (HS.out.cut (12 + d.length + 1) (by omega))
          rw [if_neg (by omega), Option.map_some, addr_at, bcells_drop] at hbody
          have hbody := hbody.front v (by omega)
          rw [bcells_take, ← hbo] at hbody
          have hbl : (bodyOf bs).length = v := by have := hbody.len; rw [bcells_len] at this; omega
          have hwhole := HS.out.front (12 + d.length + 1 + v + 7) (by omega)
          rw [bcells_take, show bs.take (12 + d.length + 1 + v + 7) = bs.take (wholeOf bs) by rw [hwh]] at hwhole
          have hput := Lib.hid (frame_Put _ v (c - (12 + d.length + 1)) (bodyOf bs) w3 (hbody.on hb3) hbl (by omega) (hctx.on hb3))
          rw [show FPutPost (bodyOf bs) w3 = fun e w' => ∃ f, e = .returned (.tuple #[f, .int .i64 (frmE (bodyOf bs))]) ∧ Moz w' w3.heap.size f (frmV (bodyOf bs)).length (bcells (frmV (bodyOf bs))) ∧ Below w3.heap.size w3 w' from rfl] at hput
          have Nm := Nn.out
          rw [if_neg (by omega)] at Nm
          have hfr : frmE (bodyOf bs) = 0 → 0 < (bodyOf bs).length ∧ frmV (bodyOf bs) ≠ [] := fun _ => ⟨by omega, fun h => by
            have := congrArg List.length h
            rename_i he
            rw [(frmE_ok (frmE_zero he)).2, frmB_len] at this; simp at this⟩
          have Hbody := Lib.hid hbody
          have Hwhole := Lib.hid hwhole
          have hcH : ¬ c = 12 + d.length + 1 := by omega
          have hwb : 12 + d.length + 1 + v ≤ n := by omega
          have Hwh := Lib.hid hwh
          clear hbo hwh Nn hbody hwhole hfr
          generalize bodyOf bs = x at *
          generalize hV : frmV x = V at *
          generalize hE : frmE x = E at *
          go_wp2_with (fail)
          refine hput.out.mono ?_
          rintro e w4 ⟨f, rfl, hmo, hb4⟩
          have hB4 : Below w.heap.size w w4 := hb3.trans (hb4.mono hb3.size)
          obtain ⟨Af, cf, rfl, hsf, _⟩ := hmo.sl
          clear hput hmo
          by_cases hE0 : E = 0
          · subst hE0
            have heq := Lib.hid (bytesEqual Af (some ⟨b, off, none⟩) V.length cf (12 + d.length + 1 + v + 7) c V (bs.take (wholeOf bs)) w4 hsf (Hwhole.out.on hB4))
            by_cases hVV : V = bs.take (wholeOf bs)
            · rw [decide_eq_true hVV] at heq
              rw [if_pos ⟨rfl, hVV⟩] at Nm
              have HP := Lib.hid (show ∀ w' A' c', Sl w' A' v c' 1 (bcells x) → Below w.heap.size w w' → Fm A' → Typed w' A' 5 → ∀ e, e = .returned (.tuple #[.int .i64 1, .slice A' v c', .int .i64 (12 + (d.length : Int) + 1 + v + 7)]) → NextPostT (some ⟨b, off, none⟩) bs w e w' from fun w' A' c' hs' hb' fm ty e he => ⟨A', v, c', by rw [Nm, he]; show _ = Ending.returned (.tuple #[.int .i64 1, _, .int .i64 (wholeOf bs : Nat)]); rw [Hwh.out]; congr 6, by rw [Nm]; exact hs', hb', fm, fun _ => ty⟩)
              have hcl := Lib.hid (bytesClone b (off + (12 + d.length + 1)) v (c - (12 + d.length + 1)) x w4 (Hbody.out.on hB4) (by omega))
              clear hVV Nm hsf
              go_wp2_with (fail)
              refine heq.out.mono ?_
              rintro e w' ⟨rfl, rfl⟩
              go_wp2_with (fail)
              refine hcl.out.mono ?_
              rintro e w5 ⟨A5, c5, rfl, hs5, hb5, fm5, ty5⟩
              go_wp2
              go_ret3
              exact HP.out _ _ _ hs5 (hB4.trans (hb5.mono hB4.size)) fm5 ty5 _ rfl
            · rw [decide_eq_false hVV] at heq
              rw [if_neg (fun h => hVV h.2)] at Nm
              have HP := Lib.hid (fun w' hb e he => next_none (A0 := some ⟨b, off, none⟩) (w := w) (w' := w') (e := e) Nm hb he)
              clear hVV Nm hsf
              go_wp2_with (fail)
              refine heq.out.mono ?_
              rintro e w' ⟨rfl, rfl⟩
              go_wp2_with (fail)
              refine (hjk.out _ hB4).mono ?_
              rintro e w5 ⟨rfl, hb5⟩
              go_wp2
              go_ret3
              exact HP.out _ (hB4.trans (hb5.mono hB4.size)) _ rfl
          · rw [if_neg (fun h => hE0 h.1)] at Nm
            have HP := Lib.hid (fun w' hb e he => next_none (A0 := some ⟨b, off, none⟩) (w := w) (w' := w') (e := e) Nm hb he)
            have hE1 : (E == 0) = false := by simpa using hE0
            clear Nm hsf
            go_wp2_with (fail)
            refine (hjk.out _ hB4).mono ?_
            rintro e w5 ⟨rfl, hb5⟩
            go_wp2
            go_ret3
            exact HP.out _ (hB4.trans (hb5.mono hB4.size)) _ rfl
  · have HP := Lib.hid (fun w' hb e he => next_none (A0 := A) (w := w) (w' := w') (e := e) (show nxt bs = (0, [], 0) by unfold nxt; rw [hs]; rfl) hb he)
    rw [hs] at hst
    clear hs h
    go_enter Tryd.func12, Tryd.ntmps12
    go_wp2_with (fail)
    refine hst.out.mono ?_
    rintro e w' ⟨rfl, rfl⟩
    go_wp2
    go_ret3
    exact HP.out _ (Below.refl _ _) _ rfl
theorem frame_Next (A : Option Addr) (n c : Nat) (bs : List UInt8) (w : World) (h : Sl w A n c 1 (bcells bs)) (hn : bs.length = n) (hl : n ≤ 1000000) (hctx : FCtx w) :
    Calls Tryd.prog 12 #[.slice A n c] w (NextPost bs w) := (frame_NextT A n c bs w h hn hl hctx).mono fun e w' h => h.plain e w'
end Go.Proofs.YtacaipnjedfdoaaDoor
