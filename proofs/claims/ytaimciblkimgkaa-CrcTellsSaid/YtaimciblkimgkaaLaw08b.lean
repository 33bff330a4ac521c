/-
  Layer 8's second law: records, one behind the other, cut anywhere.
-/
import Derived.Test.YtaimciblkimgkaaLaw08a
namespace Go.Proofs.Ytaimciblkimgkaa
open Go.RowKit

theorem own_apart {w w' : World} {base size n base' size' n' : Nat} {e e' : TypeId} {v v' : Value} {xs xs' : List Value} (h : w.ownsRow base e size v n xs) (hg : w.grownBy w' v'.ownBlock) (ho : w.ownsRow base' e' size' v' n' xs') (hne : e ≠ e') : w'.ownsRow base e size v n xs := by
  refine h.kept hg ?_
  cases hv : v.ownBlock with
  | none => exact .inl rfl
  | some g =>
    refine .inr fun h2 => ?_
    have b1 : ∃ cs fr, w.heap[g]? = some (.cells cs e fr) := by
      rcases h.2 with ⟨rfl, _⟩ | ⟨g', cap, cur, rfl, _, hh, _⟩
      · cases hv
      · simp only [Value.ownBlock] at hv; injection hv with hv; subst hv; exact ⟨_, _, hh⟩
    have b2 : ∃ cs fr, w.heap[g]? = some (.cells cs e' fr) := by
      rcases ho.2 with ⟨rfl, _⟩ | ⟨g', cap, cur, rfl, _, hh, _⟩
      · cases h2
      · simp only [Value.ownBlock] at h2; injection h2 with h2; subst h2; exact ⟨_, _, hh⟩
    obtain ⟨c1, f1, h3⟩ := b1
    obtain ⟨c2, f2, h4⟩ := b2
    rw [h3] at h4
    injection h4 with h4
    injection h4 with _ h4
    exact hne h4
/-- Where each record ends. -/
def endN (ls : List (List UInt8)) (k : Nat) : Nat := (putsC (ls.take k)).length
theorem endN_zero (ls : List (List UInt8)) : endN ls 0 = 0 := by simp [endN, putsC]
theorem endN_succ {ls : List (List UInt8)} {k : Nat} (h : k < ls.length) : endN ls (k + 1) = endN ls k + (ls[k].length + 6) := by
  unfold endN
  rw [List.take_succ_eq_append_getElem h]
  unfold putsC
  rw [List.flatMap_append, List.length_append]
  simp [putC_len]
theorem puts_succ {ls : List (List UInt8)} {k : Nat} (h : k < ls.length) : putsC (ls.take (k + 1)) = putsC (ls.take k) ++ putC ls[k] := by
  rw [List.take_succ_eq_append_getElem h]
  unfold putsC
  rw [List.flatMap_append]
  simp
theorem endN_mono {ls : List (List UInt8)} : ∀ {j k : Nat}, j ≤ k → endN ls j ≤ endN ls k
  | j, 0, h => by rw [show j = 0 by omega]; exact Nat.le_refl _
  | j, k + 1, h => by
    rcases Nat.lt_or_ge k ls.length with hk | hk
    · rcases (show j = k + 1 ∨ j ≤ k by omega) with rfl | h'
      · exact Nat.le_refl _
      · rw [endN_succ hk]; have := endN_mono (ls := ls) h'; omega
    · rcases (show j = k + 1 ∨ j ≤ k by omega) with rfl | h'
      · exact Nat.le_refl _
      · have := endN_mono (ls := ls) h'
        have e : endN ls (k + 1) = endN ls k := by unfold endN; rw [List.take_of_length_le (by omega), List.take_of_length_le (by omega)]
        omega
def ecells (ls : List (List UInt8)) (i : Nat) : List Value := (List.range (i + 1)).map fun k => .int .i64 (endN ls k : Nat)
theorem ecells_get {ls : List (List UInt8)} {i k : Nat} (h : k ≤ i) : (ecells ls i)[k]? = some (.int .i64 (endN ls k : Nat)) := by
  unfold ecells
  rw [List.getElem?_map, List.getElem?_range (by omega)]
  rfl
theorem ecells_succ (ls : List (List UInt8)) (i : Nat) : ecells ls i ++ [.int .i64 (endN ls (i + 1) : Nat)] = ecells ls (i + 1) := by
  unfold ecells
  rw [List.range_succ (n := i + 1), List.map_append]
  rfl
theorem infoInt8 : (Try.prog.info? 3).map (fun i => (i.zero, i.size, i.bytes)) = some (some (.int .i64 0), 1, 8) := by kernel_rfl
/-- What the loop has behind i records. -/
def TellR (W w : World) (ls : List (List UInt8)) (i : Nat) (v5 v6 : Value) : Prop :=
  w.ownsRow W.heap.size 5 1 v5 (endN ls i) (bcells (putsC (ls.take i))) ∧ w.ownsRow W.heap.size 3 1 v6 (i + 1) (ecells ls i) ∧ Below W.heap.size W w ∧ endN ls i ≤ 106 * i ∧ ∀ r ∈ ls.take i, 1 ≤ r.length ∧ r.length ≤ 100
set_option maxRecDepth 100000 in
set_option maxHeartbeats 4000000 in
theorem walk_CrcTells (A : Option Addr) (n c : Nat) (ls : List (List UInt8)) (hl : ls.length = n) (a1 : Int) (b1 : 0 ≤ a1) (b1' : a1 ≤ 65535) (W : World) (h : SlS W A n c ls) (_ : True) :
    Calls Try.prog 4 #[.slice A n c, .int .u16 a1] W fun e W' => e = .returned (.bool true) ∧ Below W.heap.size W W' := by
  have HA := Lib.hid (awake08 crcC W)
  have hcap : c ≤ 9223372036854775807 := by have := h.le; unfold maxLen at this; omega
  have hnc := h.le.1
  have HS := Lib.hid h
  have Hl := Lib.hid hl
  clear h hl
  by_cases hbig : 30 < n
  · have hbi : (30 : Int) < (n : Int) := by omega
    go_enter Try.func4, Try.ntmps4
    go_wp2_with fail
    refine HA.out.mono ?_
    rintro e w1 ⟨rfl, hb1⟩
    go_wp2
    go_ret
    exact ⟨rfl, hb1⟩
  · have hbi : ¬ (30 : Int) < (n : Int) := by omega
    have hn30 : n ≤ 30 := by omega
    clear hbig
    go_enter Try.func4, Try.ntmps4
    go_wp2_with fail
    refine HA.out.mono ?_
    rintro e w1 ⟨rfl, hb1⟩
    have own6 : (w1.alloc (.cells #[.int .i64 0] 3)).ownsRow W.heap.size 3 1 (.slice (some ⟨w1.heap.size, 0, none⟩) 1 1) 1 (ecells ls 0) := by
      have := World.ownsRow_lit (base := W.heap.size) (e := 3) (size := 1) w1 #[.int .i64 0] 1 hb1.size (by decide) rfl
      exact own_cast this (by rw [show ecells ls 0 = [.int .i64 (endN ls 0 : Nat)] from rfl, endN_zero]; rfl) rfl
    have HT := Lib.hid (show TellR W (w1.alloc (.cells #[.int .i64 0] 3)) ls 0 (.slice none 0 0) (.slice (some ⟨w1.heap.size, 0, none⟩) 1 1) from
      ⟨by rw [endN_zero]; exact World.ownsRow_nil _ _ _ _, own6, hb1.alloc hb1.size _, by rw [endN_zero]; omega, fun r hr => by simp at hr⟩)
    clear own6
    go_wp2
    go_loopw [5, 6, 7] (fun s5 s6 s7 wr => ∃ i : Nat, i ≤ n ∧ s7 = .int .i64 (i : Nat) ∧ Hid (TellR W wr ls i s5 s6)) (fun _ _ s7 _ => n - (intOf s7).toNat)
    case atStart => exact ⟨0, by omega, rfl, HT⟩
    case round =>
      clear HT hb1
      obtain ⟨i, hi, rfl, HT⟩ := hrel
      by_cases hlt : i < n
      · have hil : i < ls.length := by rw [Hl.out]; exact hlt
        have hii : (i : Int) < (n : Int) := by omega
        obtain ⟨h5, h6, hB, hE, hA⟩ := HT.out
        obtain ⟨g, off, rfl, B, m, d, hcell, hsl⟩ := (HS.out.on hB).get hil
        have hml : ls[i].length = m := by have := hsl.len; rw [bcells_len] at this; omega
        have hdm := hsl.le
        have hdc : d ≤ 9223372036854775807 := by have := hsl.cap; unfold maxLen at this; omega
        by_cases hm : m < 1 ∨ 100 < m
        · have HB := Lib.hid hB
          clear h5 h6 hA hE HT hB
          rcases hm with hm | hm
          · have hmi : (m : Int) < 1 := by omega
            go_wp2
            go_ret
            exact ⟨rfl, HB.out⟩
          · have hmi : ¬ (m : Int) < 1 := by omega
            have hmj : (100 : Int) < (m : Int) := by omega
            go_wp2
            go_ret
            exact ⟨rfl, HB.out⟩
        · have hmi : ¬ (m : Int) < 1 := by omega
          have hmj : ¬ (100 : Int) < (m : Int) := by omega
          have hmr : 1 ≤ m ∧ m ≤ 100 := by omega
          have hns := Lib.hid (endN_succ hil)
          have hps := Lib.hid (puts_succ hil)
          have HAll := Lib.hid (show ∀ r ∈ ls.take (i + 1), 1 ≤ r.length ∧ r.length ≤ 100 from fun r hr => by
            rw [List.take_succ_eq_append_getElem hil, List.mem_append] at hr
            rcases hr with hr | hr
            · exact hA r hr
            · rw [List.mem_singleton] at hr; subst hr; omega)
          generalize ls[i] = r at *
          have Hput := Lib.hid ((crcC.put B m d r wr hml (by omega) hsl).mono fun e w' ⟨v, he, hmo, hbw⟩ => (show ∃ g c, e = Ending.returned (.tuple #[.slice (some ⟨g, 0, none⟩) (m + 6) c, .int .i64 0]) ∧ Sl w' (some ⟨g, 0, none⟩) (m + 6) c 1 (bcells (putC r)) ∧ Below wr.heap.size wr w' from by
            rw [show putE r = 0 from by unfold putE; rw [if_neg (by omega)]] at he
            rw [show putV r = putC r from by unfold putV; rw [if_neg (by omega)], putC_len, hml] at hmo
            rcases hmo with ⟨_, h0, _⟩ | hmo
            · omega
            · obtain ⟨g, c', rfl, hs, _⟩ := hmo.sl
              exact ⟨g, c', he, hs, hbw⟩))
          have H5 := Lib.hid h5
          have H6 := Lib.hid h6
          have HB := Lib.hid hB
          have HC := Lib.hid hcell
          clear h5 h6 hA HT hB hm
          go_wp2_with fail
          refine Hput.out.mono ?_
          rintro e w2 ⟨g2, c2, rfl, hs2, hb2⟩
          have hcell2 : w2.cell? ⟨g, off + i, none⟩ = some (.slice B m d) := (hb2.cell (p := ⟨g, off + i, none⟩) (cell_lt HC.out)).trans HC.out
          clear Hput hcell
          have hB2 := HB.out.trans (hb2.mono HB.out.size)
          have h5 := own_on H5.out hb2
          have h6 := own_on H6.out hb2
          have hz2 := hB2.size
          obtain ⟨i0, hi0, iz0, iz1, iz2⟩ := info_parts infoB8
          obtain ⟨j0, hj0, jz0, jz1, jz2⟩ := info_parts infoInt8
          clear H5 H6 HC
          go_wp2_with (at_builtin; refine wpList_append_sl rfl (.tmp 63) (.tmp 64) 22 rfl W.heap.size 5 i0 (.int .u8 0) 1 1 Try.underlying22 hi0 iz0 iz1 iz2 rfl (by decide) _ _ _ rfl h5 (some ⟨g2, 0, none⟩) (m + 6) c2 (bcells (putC r)) rfl hs2 (bcells_oneP _) ?c3 ?c4 ?c5 ?_)
          case c3 => unfold maxLen; omega
          case c4 => omega
          case c5 => omega
          intro v3 w3 own3 hg3
          have hB3 := below_own hB2 hg3 hz2 h5
          have h63 := own_apart h6 hg3 h5 (by decide)
          have own3' : w3.ownsRow W.heap.size 5 1 v3 (endN ls (i + 1)) (bcells (putsC (ls.take (i + 1)))) := own_cast own3 (by rw [hps.out, bcells_app]) (by rw [hns.out, hml])
          have hE3 : endN ls (i + 1) ≤ 106 * (i + 1) := by rw [hns.out]; omega
          clear hg3 h5 h6 own3 hs2 hcell2
          obtain ⟨A5, c5, rfl, hsl5, _⟩ := Sl.of_own own3'
          have H53 := Lib.hid own3'
          have hz3 := hB3.size
          clear own3' hsl5
          generalize hX : endN ls (i + 1) = X at *
          have HX := Lib.hid hX
          clear hX
          go_wp2_with (at_builtin; refine wpList_append_own _ rfl (.tmp 66) (.tmp 69) 41 rfl W.heap.size 3 j0 (.int .i64 0) 1 8 Try.underlying41 hj0 jz0 jz1 jz2 rfl (by decide) _ _ _ rfl (h63.alloc _) ⟨w3.heap.size, 0, none⟩ 1 1 [.int .i64 (X : Nat)] rfl rfl (box_news8 w3 _ _) (by intro u hu; rw [List.mem_singleton] at hu; subst hu; rfl) ?d3 ?d4 ?d5 ?_)
          case d3 => unfold maxLen; omega
          case d4 => omega
          case d5 => rw [World.size_alloc]; omega
          intro v4 w4 own4 hg4 _
          have hB4 := below_own (hB3.alloc hz3 _) hg4 (by rw [World.size_alloc]; omega) (h63.alloc _)
          have h54 := own_apart (H53.out.alloc _) hg4 (h63.alloc _) (by decide)
          have HT := Lib.hid (show TellR W w4 ls (i + 1) (.slice A5 X c5) v4 from ⟨by rw [HX.out]; exact h54, own_cast own4 (by rw [← HX.out]; exact ecells_succ ls i) rfl, hB4, by rw [HX.out]; exact hE3, HAll.out⟩)
          clear hg4 own4 h54 h63 H53
          go_wp2
          go_roundw
          case rel => exact ⟨i + 1, by omega, by go_num, HT⟩
          case measure => simp [intOf]; omega
      · obtain rfl : i = n := by omega
        obtain ⟨h5, h6, hB, hE, hA⟩ := HT.out
        rw [List.take_of_length_le (Nat.le_of_eq Hl.out)] at h5 hA
        obtain ⟨A5, c5, rfl, hs5, _⟩ := Sl.of_own h5
        obtain ⟨A6, c6, rfl, hs6, _⟩ := Sl.of_own h6
        have hX : endN ls i = (putsC ls).length := by unfold endN; rw [List.take_of_length_le (Nat.le_of_eq Hl.out)]
        obtain ⟨g6, o6, rfl, hc6⟩ : ∃ g6 o6, A6 = some ⟨g6, o6, none⟩ ∧ ∀ (V : World), Below wr.heap.size wr V → ∀ k, k ≤ i → V.cell? ⟨g6, o6 + k, none⟩ = some (.int .i64 (endN ls k : Nat)) := by
          rcases hs6.row with h0 | ⟨g6, o6, e, hc⟩
          · have := hs6.len; rw [h0] at this; simp at this
          · exact ⟨g6, o6, e, fun V hV k hk => (hV.cell (p := ⟨g6, o6 + k, none⟩) (cell_lt (hc k _ (ecells_get hk)))).trans (hc k _ (ecells_get hk))⟩
        have h65 := hs6.le
        have h66 : c6 ≤ 9223372036854775807 := by have := hs6.cap; unfold maxLen at this; omega
        have h55 := hs5.le
        have h56 : c5 ≤ 9223372036854775807 := by have := hs5.cap; unfold maxLen at this; omega
        obtain ⟨k, hk⟩ : ∃ k : Nat, a1 % ((endN ls i : Int) + 1) = (k : Int) := ⟨(a1 % ((endN ls i : Int) + 1)).toNat, by have := Int.emod_nonneg a1 (show (endN ls i : Int) + 1 ≠ 0 by omega); omega⟩
        have hkL : k ≤ endN ls i := by have := Int.emod_lt_of_pos a1 (show (0 : Int) < (endN ls i : Int) + 1 by omega); omega
        have hA2 : ∀ r ∈ ls, 1 ≤ r.length ∧ r.length ≤ 4096 := fun r hr => by have := hA r hr; omega
        obtain ⟨N, hN, hcut, hle, hgt⟩ := allS_cut ls k hA2 (by rw [← hX]; exact hkL)
        have HW := Lib.hid (allS_whole ls hA2)
        have HC := Lib.hid hcut
        have hle : endN ls N ≤ k := hle
        have Hgt := Lib.hid (show N < i → k < endN ls (N + 1) from fun h => hgt (by rw [Hl.out]; exact h))
        have Hmono := Lib.hid (fun q (h : q < N) => Nat.le_trans (endN_mono (ls := ls) (show q + 1 ≤ N by omega)) hle)
        have HC6 := Lib.hid hc6
        have HS5 := Lib.hid hs5
        have HB := Lib.hid hB
        have HX := Lib.hid hX
        have hL3 : endN ls i ≤ 3180 := by omega
        rw [Hl.out] at hN
        clear h5 h6 hA hA2 hs5 hs6 hc6 hcut hgt hle HT hX hB
        generalize hL : endN ls i = L at *
        have HL := Lib.hid hL
        clear hL
        generalize wr = w0 at *
        go_wp2
        rw [hk]
        go_loopw [11] (fun s11 wq => wq = w0 ∧ ∃ q : Nat, q ≤ N ∧ s11 = .int .i64 (q : Nat)) (fun s11 _ => N - (intOf s11).toNat)
        case atStart => exact ⟨rfl, 0, by omega, rfl⟩
        case round =>
          obtain ⟨hw, q, hq, rfl⟩ := hrel
          subst wr
          by_cases hqN : q < N
          · have hcl := HC6.out w0 (Below.refl _ _) (q + 1) (by omega)
            have hql : (endN ls (q + 1) : Int) ≤ (k : Int) := by have := Hmono.out q hqN; omega
            have hqi : (q : Int) < (i : Int) := by omega
            have hq6 : (q : Int) + 1 < (i : Int) + 1 := by omega
            generalize endN ls (q + 1) = y at *
            go_wp2
            go_roundw
            case rel => exact ⟨by first | rfl | trivial, q + 1, by omega, by go_num⟩
            case measure => simp [intOf]; omega
          · obtain rfl : q = N := by omega
            have hcs : (∃ y : Nat, (q : Int) < (i : Int) ∧ (q : Int) + 1 < (i : Int) + 1 ∧ w0.cell? ⟨g6, o6 + (q + 1), none⟩ = some (.int .i64 (y : Nat)) ∧ ¬ (y : Int) ≤ (k : Int)) ∨ ¬ (q : Int) < (i : Int) := by
              by_cases hqn : q < i
              · exact .inl ⟨endN ls (q + 1), by omega, by omega, HC6.out w0 (Below.refl _ _) (q + 1) (by omega), by have := Hgt.out hqn; omega⟩
              · exact .inr (by omega)
            have HA1 := Lib.hid ((own_All8 A5 L c5 (putsC ls) HX.out.symm w0 HS5.out (by omega)).mono fun e w' ⟨B, m, d, he, hsl, hbw⟩ => (show ∃ B d, e = Ending.returned (.tuple #[.slice B i d, .int .i64 (L : Nat)]) ∧ SlS w' B i d ls ∧ Below w0.heap.size w0 w' from by
              rw [HW.out] at he hsl
              have hm : m = i := by have := hsl.len; rw [Hl.out] at this; exact this.symm
              subst hm
              exact ⟨B, d, by rw [he, HX.out], hsl, hbw⟩))
            have hkt : ((putsC ls).take k).length = k := by rw [List.length_take]; have := HX.out; omega
            have hqt : (ls.take q).length = q := by rw [List.length_take, Hl.out]; omega
            have HA2 := Lib.hid (fun (V : World) (hb : Below w0.heap.size w0 V) => (own_All8 A5 k c5 ((putsC ls).take k) hkt V (sl_front (HS5.out.on hb) k hkL) (by omega)).mono fun e w' ⟨B, m, d, he, hsl, hbw⟩ => (show ∃ B d, e = Ending.returned (.tuple #[.slice B q d, .int .i64 (endN ls q : Nat)]) ∧ SlS w' B q d (ls.take q) ∧ Below V.heap.size V w' from by
              rw [HC.out] at he hsl
              have hm : m = q := by have := hsl.len; rw [hqt] at this; exact this.symm
              subst hm
              exact ⟨B, d, he, hsl, hbw⟩))
            have HD1 : decide (ls = ls) = true := by simp
            have HD2 : decide (ls.take q = ls.take q) = true := by simp
            have HSa := Lib.hid (fun (V : World) (hb : Below w0.heap.size w0 V) (B : Option Addr) (d : Nat) (hs : SlS V B i d ls) => ref_Same8 B i d ls A i c ls V hs (HS.out.on (HB.out.trans (hb.mono HB.out.size))) (by omega) (by omega))
            have HSb := Lib.hid (fun (V : World) (hb : Below w0.heap.size w0 V) (B : Option Addr) (d : Nat) (hs : SlS V B q d (ls.take q)) => ref_Same8 B q d (ls.take q) A q c (ls.take q) V hs ((HS.out.on (HB.out.trans (hb.mono HB.out.size))).take q hN) (by omega) (by omega))
            rw [HD1] at HSa
            rw [HD2] at HSb
            have HCq := Lib.hid (fun (V : World) (hb : Below w0.heap.size w0 V) => HC6.out V hb q hN)
            generalize endN ls q = z at *
            have hq6 : (q : Int) < (i : Int) + 1 := by omega
            clear HC6 Hgt Hmono hle HW HC HX HD1 HD2 hkt hqt hE hqN hlt
            rcases hcs with ⟨y, hqi, hqj, hcl, hql⟩ | hqi <;> go_upto_region 21 with (fail)
            all_goals
              go_wp2_with fail
              refine HA1.out.mono ?_
              clear HA1
              rintro e w2 ⟨B, d, rfl, hsl, hb2⟩
              have H2 := Lib.hid hsl
              have Hp := Lib.hid (HA2.out w2 hb2)
              clear HA2 hsl
              go_wp2_with fail
              refine Hp.out.mono ?_
              clear Hp
              rintro e w3 ⟨B3, d3, rfl, hsl3, hb3'⟩
              have hb3 := hb2.trans (hb3'.mono hb2.size)
              have H3 := Lib.hid hsl3
              have Hp := Lib.hid (HSa.out w3 hb3 B d (H2.out.on hb3'))
              clear HSa H2 hsl3 hb3'
              go_wp2_with fail
              refine Hp.out.mono ?_
              clear Hp
              rintro e w4 ⟨rfl, hb4'⟩
              have hb4 := hb3.trans (hb4'.mono hb3.size)
              have Hp := Lib.hid (HSb.out w4 hb4 B3 d3 (H3.out.on hb4'))
              clear HSb H3 hb4'
              go_wp2_with fail
              refine Hp.out.mono ?_
              clear Hp
              rintro e w5 ⟨rfl, hb5'⟩
              have hb5 := hb4.trans (hb5'.mono hb4.size)
              have hcz := HCq.out w5 hb5
              clear HCq hb5'
              go_wp2
              go_ret
              exact ⟨rfl, HB.out.trans (hb5.mono HB.out.size)⟩
end Go.Proofs.Ytaimciblkimgkaa
