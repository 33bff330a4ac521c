/-
  Layer 2: the document's answer for Parse: its contract.
-/
import Derived.Test.YtioagepalfiioaaDoorFieldRefPut
import Derived.RegionTactic
import Derived.Deep.CutBlock
import Derived.Deep.DeepCutAuto
namespace Go.Proofs.YtioagepalfiioaaDoor
open Go.RowKit

theorem take_no1 {l : List UInt8} {k : Nat} (h : k < l.length) (h0 : (1 : UInt8) ∉ l.take k) (h1 : ¬ l[k] = 1) : (1 : UInt8) ∉ l.take (k + 1) := by
  rw [List.take_succ_eq_append_getElem h]
  simp only [List.mem_append, List.mem_singleton, not_or]
  exact ⟨h0, fun e => h1 e.symm⟩
theorem split_at {l : List UInt8} {k : Nat} (h : k < l.length) (h0 : (1 : UInt8) ∉ l.take k) (h1 : l[k] = 1) : split1 1 l = some (l.take k, l.drop (k + 1)) := by
  have : l = l.take k ++ 1 :: l.drop (k + 1) := by
    conv => lhs; rw [← List.take_append_drop k l, List.drop_eq_getElem_cons h, h1]
  conv => lhs; rw [this]
  exact split1_app h0
theorem u8_beq {c : UInt8} {n : Nat} (hn : n < 256) : (((c.toNat : Int) == (n : Int)) = true ∧ ((c.toNat : Int) != (n : Int)) = false ∧ c = UInt8.ofNat n) ∨ (((c.toNat : Int) == (n : Int)) = false ∧ ((c.toNat : Int) != (n : Int)) = true ∧ ¬ c = UInt8.ofNat n) := by
  by_cases h : c = UInt8.ofNat n
  · left
    have e : (c.toNat : Int) = n := by rw [h]; simp; omega
    exact ⟨by simp [e], by simp [e], h⟩
  · right
    have e : ¬ (c.toNat : Int) = n := fun e => h (UInt8.toNat_inj.1 (by simp; omega))
    exact ⟨by simp [e], by simp [e], h⟩

set_option maxRecDepth 100000 in
set_option maxHeartbeats 2000000 in
theorem ref_FParse (A : Option Addr) (c : Nat) (bs : List UInt8) (w : World) (h : Sl w A bs.length c 1 (bcells bs)) (hl : bs.length ≤ 1000000) :
    Calls Tryd.prog 11 #[.slice A bs.length c] w (ParsePost bs w) := by
  have HS := Lib.hid h; clear h
  obtain ⟨i0, hi, iz0, iz1, iz2⟩ := info_parts infoF
  have hBad : Hid (∀ x, parseF bs = .error x → ∀ e w', e = .returned (.tuple #[.slice none 0 0, .int .i64 x]) ∧ Below w.heap.size w w' → ParsePost bs w e w') := fun x hx e w' h =>
    ⟨none, 0, 0, by rw [hx]; exact h.1, by rw [hx]; exact Sl.none_ _ _, h.2, .inl rfl⟩
  by_cases hlong : 65536 < bs.length
  · have HP := Lib.hid (hBad.out 4 (by unfold parseF; rw [if_pos hlong]))
    go_enter Tryd.func11, Tryd.ntmps11
    go_wp2
    go_ret2
    exact HP.out _ _ ⟨rfl, Below.refl _ _⟩
  · have hGood : Hid (∀ acc, parseF bs = .ok acc → ∀ e w' v n, w'.ownsRow w.heap.size 56 2 v n (fcells acc) → e = .returned (.tuple #[v, .int .i64 0]) ∧ Below w.heap.size w w' → ParsePost bs w e w') := fun acc ha e w' v n ho h => by
      obtain ⟨A, c, rfl, hs, fm⟩ := Sl.of_own ho
      exact ⟨A, n, c, by rw [ha]; exact h.1, by rw [ha]; exact hs, h.2, fm⟩
    have hst : Hid (prep [] (parseL bs.length ([] : List Fld).length (bs.drop 0)) = parseF bs) := by
      show prep [] (parseL bs.length 0 bs) = _
      unfold parseF
      rw [if_neg hlong]
      cases parseL bs.length 0 bs <;> rfl
    have hcm : c ≤ 9223372036854775807 := by have := HS.out.cap; unfold maxLen at this; omega
    have hnc := HS.out.le
    obtain ⟨n, hn⟩ : ∃ n, bs.length = n := ⟨_, rfl⟩
    rw [hn] at hl hlong hnc ⊢
    have Hn := Lib.hid hn; clear hn
    go_enter Tryd.func11, Tryd.ntmps11
    go_wp2
    generalize parseF bs = R at *
    go_loopw [4, 5] (fun v s wr => ∃ (at' : Nat) (acc : List Fld) (fuel : Nat), s = .int .i64 at' ∧ at' ≤ n ∧
      wr.ownsRow w.heap.size 56 2 v acc.length (fcells acc) ∧ acc.length ≤ 100 ∧ n - at' ≤ fuel ∧ Hid (prep acc (parseL fuel acc.length (bs.drop at')) = R) ∧ Below w.heap.size w wr) (fun _ s _ => n - (intOf s).toNat)
    case atStart => exact ⟨0, [], bs.length, rfl, Nat.zero_le _, World.ownsRow_nil _ _ _ _, by simp, by rw [Hn.out]; exact Nat.le_refl _, hst, Below.refl _ _⟩
    case round =>
      obtain ⟨p, acc, fuel, rfl, hp, hown, hacc, hfu, hR, hb⟩ := hrel
      have hz := hb.size
      obtain ⟨wo, rfl⟩ : ∃ wo : World, wo = wr := ⟨_, rfl⟩
      by_cases h0 : n ≤ p
      · obtain rfl : p = n := by omega
        have HG := Lib.hid (hGood.out acc (by have := hR.out; rw [List.drop_eq_nil_of_le (by rw [Hn.out]; exact Nat.le_refl _), parseL_nil, prep_nil] at this; exact this.symm))
        go_wp2
        go_ret2
        exact HG.out _ _ _ _ hown ⟨rfl, hb⟩
      · have hpn : p < n := by omega
        have hne : bs.drop p ≠ [] := by intro e; have := congrArg List.length e; rw [List.length_drop, Hn.out] at this; simp at this; omega
        obtain ⟨b, off, rfl⟩ : ∃ b off, A = some ⟨b, off, none⟩ := by
          rcases HS.out.row with h | ⟨b, off, e, _⟩
          · have e1 := List.map_eq_nil_iff.1 h; rw [e1] at hne; simp at hne
          · exact ⟨b, off, e⟩
        have hby : Hid (∀ (W : World) (k : Nat) (hk : k < bs.length), Below w.heap.size w W → W.cell? ⟨b, off + k, none⟩ = some (.int .u8 bs[k].toNat)) := fun W k hk hW => by
          obtain ⟨b', off', e, hc⟩ := HS.out.row.byte hk
          injection e with e; injection e with e1 e2 _; subst e1; subst e2
          exact (hW.cell (p := ⟨_, _, none⟩) (cell_lt hc)).trans hc
        go_wp2
        go_loop [6] (fun s => ∃ e : Nat, s = .int .i64 e ∧ p ≤ e ∧ e ≤ n ∧ Hid ((1 : UInt8) ∉ (bs.drop p).take (e - p))) (fun s => n - (intOf s).toNat)
        case atStart => exact ⟨p, rfl, Nat.le_refl _, hp, by simp [Hid]⟩
        case round =>
          obtain ⟨e, rfl, hpe, hen, H1⟩ := hrel
          by_cases hlt : e < n
          · have hc := hby.out wo e (by rw [Hn.out]; exact hlt) hb
            have hd : (bs.drop p)[e - p]'(by rw [List.length_drop, Hn.out]; omega) = bs[e]'(by rw [Hn.out]; exact hlt) := by rw [List.getElem_drop]; congr 1; omega
            rcases u8_beq (c := bs[e]'(by rw [Hn.out]; exact hlt)) (n := 1) (by omega) with ⟨d1, d2, d3⟩ | ⟨d1, d2, d3⟩
            · have hsp := split_at (l := bs.drop p) (k := e - p) (by rw [List.length_drop, Hn.out]; omega) H1.out (hd.trans d3)
              have hrr : (bs.drop p).drop (e - p + 1) = bs.drop (e + 1) := by rw [List.drop_drop]; congr 1; omega
              rw [hrr] at hsp
              obtain ⟨t, ht⟩ : ∃ t, t = (bs.drop p).take (e - p) := ⟨_, rfl⟩
              have hm : t.length = e - p := by rw [ht, List.length_take, List.length_drop, Hn.out]; omega
              have hbt : Hid (∀ (W : World) (j : Nat) (hj : j < t.length), Below w.heap.size w W → W.cell? ⟨b, off + (p + j), none⟩ = some (.int .u8 t[j].toNat)) := fun W j hj hW => by
                have hpj : p + j < bs.length := by rw [Hn.out]; omega
                have : t[j] = bs[p + j] := by simp [ht]
                rw [this]; exact hby.out W (p + j) hpj hW
              have htrow : Hid (∀ W j, j ≤ t.length → Below w.heap.size w W → Row W (some ⟨b, off + (p + j), none⟩) (bcells (t.drop j))) := fun W j hj hW => by
                have h1 := (HS.out.row.on hW).drop (p + j)
                rw [bcells_drop, Option.map_some, addr_at] at h1
                have h2 := h1.take (e - (p + j))
                rw [bcells_take] at h2
                have : (bs.drop (p + j)).take (e - (p + j)) = t.drop j := by
                  rw [ht, List.drop_take, List.drop_drop, show e - (p + j) = e - p - j by omega]
                rwa [this] at h2
              rw [← ht] at hsp
              have hcase := parse_round hne (by rw [List.length_drop, Hn.out]; exact hfu) rfl hR.out
              have hcase2 : Hid ((readF t = none ∧ R = .error 3) ∨ ∃ f, readF t = some f ∧ ((acc.length = 100 ∧ R = .error 4) ∨ (acc.length ≠ 100 ∧ (bs.drop (e + 1)).length ≤ fuel - 1 ∧ prep (acc ++ [f]) (parseL (fuel - 1) (acc.length + 1) (bs.drop (e + 1))) = R))) := by
                rcases hcase with ⟨h, _⟩ | ⟨t', r', h, _, h2⟩
                · rw [hsp] at h; cases h
                · rw [hsp] at h; injection h with h; injection h with h1 h3; subst h1; subst h3; exact h2
              have Hne := Lib.hid hne
              have hx1 : bs[e]'(by rw [Hn.out]; exact hlt) = 1 := d3
              clear ht hd d1 d2 d3 hsp hcase H1 hrr hne hR hby
              replace hc : wo.cell? ⟨b, off + e, none⟩ = some (.int .u8 1) := by rw [hc, hx1]; rfl
              clear hx1
              have he1 : (e == n) = false := by simp; omega
              have he2 : ((e : Int) == (n : Int)) = false := by simp; omega
              go_upto_block 4 with (fail)
              clear hc he1 he2
              go_cut [7, 8] from 36 to 69 (fun s7 s8 wx => wx = wo ∧ ∃ j : Nat, s8 = .int .i64 ((p + j : Nat) : Int) ∧ s7 = .int .i64 ((decA 0 (t.take j) : Nat) : Int) ∧ Hid (Digs t j))
              case first =>
                go_wp2_with fail
                go_loop [7, 8] (fun s7 s8 => ∃ j : Nat, s8 = .int .i64 ((p + j : Nat) : Int) ∧ s7 = .int .i64 ((decA 0 (t.take j) : Nat) : Int) ∧ j ≤ 4 ∧ j ≤ t.length ∧ Hid ((t.take j).all digB = true)) (fun _ s => n - (intOf s).toNat)
                case atStart => exact ⟨0, by simp, rfl, by omega, by omega, rfl⟩
                case round =>
                  obtain ⟨j, rfl, rfl, hj4, hjt, hall⟩ := hrel
                  clear hcase2 htrow
                  have hlt10 : decA 0 (t.take j) < 10000 := by
                    have h1 := decA_lt (t.take j) 0 0 hall.out (by decide)
                    have h2 : 10 ^ (0 + (t.take j).length) ≤ 10 ^ 4 := Nat.pow_le_pow_right (by decide) (by simp; omega)
                    have h3 : (10 : Nat) ^ 4 = 10000 := by decide
                    omega
                  by_cases hA : j = t.length
                  · have HD : Hid (Digs t j) := ⟨hj4, hjt, hall.out, fun _ c hc => by rw [List.getElem?_eq_none (by omega)] at hc; cases hc⟩
                    have hpe : p + j = e := by omega
                    clear hall hbt hA
                    go_wp2
                    go_meet
                    case rel => exact ⟨rfl, j, by rw [hpe], rfl, HD⟩
                  · have hjl : j < t.length := by omega
                    have hjn : p + j < e := by omega
                    have hcj := hbt.out wo j hjl hb
                    have hdg : Hid (digB t[j] = decide (48 ≤ t[j].toNat ∧ t[j].toNat ≤ 57)) := rfl
                    have hget : Hid (t[j]? = some t[j]) := List.getElem?_eq_getElem hjl
                    have hsn : Hid (decA 0 (t.take (j + 1)) = decA 0 (t.take j) * 10 + (t[j].toNat - 48)) := by
                      rw [List.take_succ_eq_append_getElem hjl, decA_snoc]; rfl
                    have hal : Hid ((t.take (j + 1)).all digB = ((t.take j).all digB && digB t[j])) := all_take_b _ _ _ hjl
                    have hno : Hid (j = 4 ∨ digB t[j] = false → Digs t j) := fun h => ⟨hj4, hjt, hall.out, fun h4 c hc => by
                      rw [hget.out] at hc; injection hc with hc; subst hc
                      rcases h with h | h
                      · omega
                      · exact h⟩
                    generalize t[j] = y at *
                    have hy := y.toNat_lt
                    have hdy : digB y = decide (48 ≤ y.toNat ∧ y.toNat ≤ 57) := rfl
                    generalize hyx : y.toNat = x at *
                    clear hbt hget hA hdg hyx
                    by_cases hB : j = 4
                    · have HD := Lib.hid (hno.out (.inl hB))
                      clear hno hal hsn hall hdy
                      subst hB
                      go_wp2
                      go_meet
                      case rel => exact ⟨rfl, 4, rfl, rfl, HD⟩
                    · have hj : j < 4 := by omega
                      rcases (show x < 48 ∨ 57 < x ∨ (48 ≤ x ∧ x ≤ 57) by omega) with h | h | ⟨h, h'⟩
                      · have HD := Lib.hid (hno.out (.inr (by rw [hdy]; simp; omega)))
                        clear hno hal hsn hall hdy hB
                        go_wp2
                        go_meet
                        case rel => exact ⟨rfl, j, rfl, rfl, HD⟩
                      · have HD := Lib.hid (hno.out (.inr (by rw [hdy]; simp; omega)))
                        clear hno hal hsn hall hdy hB
                        go_wp2
                        go_meet
                        case rel => exact ⟨rfl, j, rfl, rfl, HD⟩
                      · have HA : Hid ((t.take (j + 1)).all digB = true) := by rw [hal.out, hall.out, hdy]; simp [Hid, h, h']
                        clear hno hal hall hdy hB
                        generalize decA 0 (t.take j) = a at *
                        go_wp2
                        go_round
                        case rel => exact ⟨j + 1, by go_num, by rw [hsn.out]; go_num, by omega, by omega, HA⟩
                        case measure => simp [intOf]; omega
              case rest =>
                obtain ⟨rfl, j, rfl, rfl, HD⟩ := hcut
                have hj4 := HD.out.1
                have hjt := HD.out.2.1
                have hR3 : Hid (readF t = none → R = .error 3) := fun h => by
                  rcases hcase2.out with ⟨_, h2⟩ | ⟨f, h2, _⟩
                  · exact h2
                  · rw [h] at h2; cases h2
                by_cases hj0 : j = 0
                · have HP := Lib.hid (hBad.out 3 (hR3.out (readF_no HD.out (.inl hj0))))
                  clear hR3 hcase2 HD
                  subst hj0
                  go_wp2
                  go_ret2
                  exact HP.out _ _ ⟨rfl, hb⟩
                · have hjp : 0 < j := by omega
                  have htl : 0 < t.length := by omega
                  have hnp : ((p + j : Nat) == p) = false := by simp; omega
                  have hnp2 : (((p + j : Nat) : Int) == (p : Int)) = false := by simp; omega
                  have hc0 := hbt.out wc 0 htl hb
                  rw [Nat.add_zero] at hc0
                  have hg0 : t[0]? = some t[0] := List.getElem?_eq_getElem htl
                  rcases u8_beq (c := t[0]) (n := 48) (by omega) with ⟨d1, d2, d3⟩ | ⟨d1, d2, d3⟩
                  · have HP := Lib.hid (hBad.out 3 (hR3.out (readF_no HD.out (.inr (.inl (by rw [hg0, d3]; rfl))))))
                    replace hc0 : wc.cell? ⟨b, off + p, none⟩ = some (.int .u8 48) := by rw [hc0, d3]; rfl
                    clear hR3 hcase2 HD d1 d2 d3 hg0
                    go_wp2
                    go_ret2
                    exact HP.out _ _ ⟨rfl, hb⟩
                  · have HD48 : Hid (t[0]? ≠ some 48) := by rw [hg0]; intro e; injection e with e; exact d3 e
                    have d1' : ((t[0].toNat : Int) == 48) = false := d1
                    clear d1 d2 d3 hg0
                    generalize t[0].toNat = x at hc0 d1'
                    by_cases hjl : j = t.length
                    · have HP := Lib.hid (hBad.out 3 (hR3.out (readF_no HD.out (.inr (.inr (.inl hjl))))))
                      have hpe : p + j = e := by omega
                      have hpe2 : (p : Int) + (j : Int) = (e : Int) := by omega
                      clear hR3 hcase2 HD hjl
                      go_wp2
                      go_ret2
                      exact HP.out _ _ ⟨rfl, hb⟩
                    · have hjl' : j < t.length := by omega
                      have hcj := hbt.out wc j hjl' hb
                      have hgj : t[j]? = some t[j] := List.getElem?_eq_getElem hjl'
                      have hpe : p + j < e := by omega
                      have hpe1 : ((p + j : Nat) == e) = false := by simp; omega
                      have hpe2 : ((p : Int) + (j : Int) == (e : Int)) = false := by simp; omega
                      rcases u8_beq (c := t[j]) (n := 61) (by omega) with ⟨d1, d2, d3⟩ | ⟨d1, d2, d3⟩
                      · replace hcj : wc.cell? ⟨b, off + (p + j), none⟩ = some (.int .u8 61) := by rw [hcj, d3]; rfl
                        have hyes := readF_yes HD.out hjp HD48.out hjl' (by rw [hgj, d3]; rfl)
                        have hright := ref_FRight (decA 0 (t.take j) : Nat) ⟨(t.drop (j + 1)).toArray⟩ (by rw [size_mk, List.length_drop]; unfold maxLen; omega)
                        have hrd : (Fld.mk (decA 0 (t.take j) : Nat) ⟨(t.drop (j + 1)).toArray⟩).right = (rightT (decA 0 (t.take j) : Nat) && rightV (t.drop (j + 1))) := rfl
                        have hcv := conv_row (htrow.out wc (j + 1) (by omega) hb) (fun h => by cases h) (fun _ => .inr ⟨b, _, rfl⟩) (e - (p + j + 1)) (c - (p + j + 1)) (by rw [List.length_drop]; omega)
                        rw [show p + (j + 1) = p + j + 1 by omega] at hcv
                        clear d1 d2 d3 hgj HD48 hR3 hbt htrow HD
                        rw [hrd] at hright
                        generalize decA 0 (t.take j) = a at *
                        generalize t.drop (j + 1) = v at *
                        have hb3 : Hid ((rightT (a : Nat) && rightV v) = false → R = .error 3) := fun h => by
                          have : readF t = none := by
                            rw [hyes, if_neg]; rintro ⟨h1, h2⟩; rw [h1, h2] at h; cases h
                          rcases hcase2.out with ⟨_, h2⟩ | ⟨f, h2, _⟩
                          · exact h2
                          · rw [this] at h2; cases h2
                        have hgd : Hid ((rightT (a : Nat) && rightV v) = true → (acc.length = 100 ∧ R = .error 4) ∨ (acc.length ≠ 100 ∧ (bs.drop (e + 1)).length ≤ fuel - 1 ∧ prep (acc ++ [Fld.mk a ⟨v.toArray⟩]) (parseL (fuel - 1) (acc.length + 1) (bs.drop (e + 1))) = R)) := fun h => by
                          have : readF t = some ⟨a, ⟨v.toArray⟩⟩ := by
                            rw [hyes, if_pos]; exact Bool.and_eq_true_iff.1 h
                          rcases hcase2.out with ⟨h2, _⟩ | ⟨f, h2, h3⟩
                          · rw [this] at h2; cases h2
                          · rw [this] at h2; injection h2 with h2; subst h2; exact h3
                        clear hcase2 hyes hrd
                        generalize (rightT (a : Nat) && rightV v) = rr at *
                        have Hright := Lib.hid hright; clear hright
                        go_wp2_with fail
                        refine (Hright.out _).mono ?_
                        rintro e1 w1 ⟨rfl, hb1⟩
                        (obtain ⟨hc1, hf1⟩ := bcell hb1; have hz1 := hb1.size; (try simp only [World.size_alloc, World.size_setCell, World.size_drew] at hz1); have hB1 : Below w.heap.size w w1 := Below.trans (by go_grown) (hb1.mono (by go_size)))
                        have hlt1 : wc.heap.size < w1.heap.size := by omega
                        clear hcv hc0 hcj
                        rcases rr with _ | _
                        · have HP := Lib.hid (hBad.out 3 (hb3.out rfl))
                          go_wp2
                          go_ret2
                          exact HP.out _ _ ⟨rfl, hB1⟩
                        · obtain ⟨A2, cap2, rfl, _⟩ := Sl.of_own hown
                          rcases hgd.out rfl with ⟨h100, hr⟩ | ⟨h100, hr1, hr2⟩
                          · have HP := Lib.hid (hBad.out 4 hr)
                            have h100' : ((acc.length : Int) == 100) = true := by simp [h100]
                            clear hr hgd
                            clear h100
                            go_wp2
                            go_ret2
                            exact HP.out _ _ ⟨rfl, hB1⟩
                          · have h100' : ((acc.length : Int) == 100) = false := by simp; omega
                            have h100'' : acc.length < 100 := by omega
                            have Hr2 := Lib.hid hr2; clear hr2
                            have hown1 := (own_on hown ((Below.refl _ _).trans (Below.trans (by go_grown) (hb1.mono (by go_size))))).alloc (.cells #[.int .i64 a, .string ⟨v.toArray⟩] 56)
                            go_wp2_with (at_builtin; refine wpList_append_own _ rfl (.tmp 106) (.tmp 108) 36 rfl w.heap.size 56 i0 (.agg #[.int .i64 0, .string ⟨#[]⟩]) 2 24 Tryd.underlying36 hi iz0 iz1 iz2 rfl (by decide) _ _ _ rfl hown1 ⟨w1.heap.size, 0, none⟩ 1 1 [.int .i64 a, .string ⟨v.toArray⟩] rfl rfl ?c1 ?c2 ?c3 ?c4 ?c5 ?_)
                            case c1 =>
                              intro j u hu
                              have hbx := Box.new w1 #[.int .i64 a, .string ⟨v.toArray⟩] 56
                              match j, hu with
                              | 0, hu => cases hu; exact hbx.cell 0
                              | 1, hu => cases hu; exact hbx.cell 1
                            case c2 =>
                              intro u hu
                              simp at hu
                              rcases hu with rfl | rfl <;> rfl
                            case c3 => unfold maxLen; omega
                            case c4 => omega
                            case c5 => simp; omega
                            intro v6 w6 hown6 hgr6 _
                            have hB6 := below_own (hB1.alloc (by omega) _) hgr6 (by simp; omega) hown1
                            have hown6' : w6.ownsRow w.heap.size 56 2 v6 (acc ++ [Fld.mk a ⟨v.toArray⟩]).length (fcells (acc ++ [Fld.mk a ⟨v.toArray⟩])) := own_cast hown6 (by simp [fcells, Fld.cells]) (by simp)
                            have hr1' : n - (e + 1) ≤ fuel - 1 := by rw [List.length_drop, Hn.out] at hr1; exact hr1
                            clear hown6 hown1 hgr6 hown hc1 hf1 hgd hr1
                            go_wp2
                            go_roundw
                            case rel => exact ⟨e + 1, acc ++ [Fld.mk a ⟨v.toArray⟩], fuel - 1, by go_num, by omega, hown6', by simp; omega, hr1', by rw [List.length_append]; exact Hr2, hB6⟩
                            case measure => simp [intOf]; omega
                      · have HP := Lib.hid (hBad.out 3 (hR3.out (readF_no HD.out (.inr (.inr (.inr (by rw [hgj]; intro e; injection e with e; exact d3 e)))))))
                        have d2' : ((t[j].toNat : Int) != 61) = true := d2
                        clear hR3 hcase2 HD d1 d2 d3 hgj
                        generalize t[j].toNat = y at hcj d2'
                        go_wp2
                        go_ret2
                        exact HP.out _ _ ⟨rfl, hb⟩
            · have H2 := Lib.hid (take_no1 (l := bs.drop p) (k := e - p) (by rw [List.length_drop, Hn.out]; omega) H1.out (by rw [hd]; exact d3))
              clear hd d3
              generalize (bs[e]'(by rw [Hn.out]; exact hlt)).toNat = x at *
              go_wp2
              go_round
              case rel => exact ⟨e + 1, by go_num, by omega, by omega, by rw [show e + 1 - p = e - p + 1 by omega]; exact H2⟩
              case measure => simp [intOf]; omega
          · obtain rfl : e = n := by omega
            have HP := Lib.hid (hBad.out 2 (by
              have h1 := H1.out
              rw [List.take_of_length_le (by rw [List.length_drop, Hn.out]; exact Nat.le_refl _)] at h1
              have h2 := split1_none.2 h1
              rcases parse_round hne (by rw [List.length_drop, Hn.out]; exact hfu) rfl hR.out with ⟨_, hr⟩ | ⟨t, r, hs, _⟩
              · exact hr
              · rw [h2] at hs; cases hs))
            clear H1
            go_wp2
            go_ret2
            exact HP.out _ _ ⟨rfl, hb⟩
end Go.Proofs.YtioagepalfiioaaDoor
