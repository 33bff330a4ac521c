/-
  Layer 6's laws: ReseqOrder.
-/
import Derived.Test.YtagehacnpdlpnaaLaw06
import Derived.Deep.CutBlock
namespace Go.Proofs.Ytagehacnpdlpnaa
open Go.RowKit

/-- What has come, as the array's cells. -/
def camA (c : Int → Bool) : Array Value := (Array.range 61).map fun i => .bool (c (i : Nat))
theorem camA_size (c : Int → Bool) : (camA c).size = 61 := by simp [camA]
theorem camA_get (c : Int → Bool) (i : Nat) (hi : i < 61) : (camA c)[i]? = some (.bool (c i)) := by simp [camA, hi]
theorem camA_bool (c : Int → Bool) (i : Nat) (v : Value) (h : (camA c)[i]? = some v) : ∃ b, v = Value.bool b := by
  have hi : i < 61 := by
    have := (Array.getElem?_eq_some_iff.1 h).1
    rwa [camA_size] at this
  rw [camA_get c i hi] at h
  exact ⟨_, (Option.some.inj h).symm⟩
theorem Sl.farB {w w' : World} {A : Option Addr} {n c g : Nat} {t : TypeId} {cs : Array Value} {l : List Itm} (h : Sl w A n c 20 (icells l)) (hb : Box w g t cs) (hs : ∀ (i : Nat) (v : Value), cs[i]? = some v → ∃ b, v = Value.bool b) (hw : ∀ k, k ≠ g → w'.heap[k]? = w.heap[k]?) : Sl w' A n c 20 (icells l) := by
  refine ⟨h.len, h.le, h.cap, h.nil, ?_⟩
  cases l with
  | nil => exact .inl rfl
  | cons y r =>
    rcases h.row with h0 | ⟨b, off, rfl, hc⟩
    · exact absurd h0 (by show y.cells ++ icells r ≠ []; unfold Itm.cells; simp)
    · have hne : b ≠ g := fun e => by
        subst e
        have h2 := hc 0 (.int .i64 y.fr) rfl
        rw [hb.cell] at h2
        obtain ⟨b', hb'⟩ := hs _ _ h2
        cases hb'
      refine .inr ⟨b, off, rfl, fun i u hu => ?_⟩
      have := hc i u hu
      unfold World.cell? at this ⊢
      rw [show w'.heap[b]? = w.heap[b]? from hw b hne]
      exact this
theorem camA_set (c : Int → Bool) (i : Nat) (_ : i < 61) : (camA c).setIfInBounds i (.bool true) = camA (cameN c i) := by
  apply Array.ext
  · simp [camA]
  · intro j h1 h2
    have hj : j < 61 := by rw [camA_size] at h2; exact h2
    simp only [camA, cameN, Array.getElem_map, Array.getElem_range]
    by_cases e : i = j
    · subst e; simp
    · have h3 : ¬ (j : Int) = (i : Int) := by omega
      rw [Array.getElem_setIfInBounds_ne (by simpa using hj) e]
      simp [h3]
/-- How many of those that wait are below v. -/
def cntN (v : Int) : List Int → Nat
  | [] => 0
  | x :: r => (if x < v then 1 else 0) + cntN v r
theorem cnt_all (v : Int) : ∀ l : List Int, (∀ x ∈ l, x < v) → cntN v l = l.length
  | [], _ => rfl
  | x :: r, h => by rw [cntN, if_pos (h x (List.mem_cons_self ..)), cnt_all v r (fun y hy => h y (List.mem_cons_of_mem _ hy)), List.length_cons]; omega
theorem cnt_none (v : Int) : ∀ l : List Int, (∀ x ∈ l, ¬ x < v) → cntN v l = 0
  | [], _ => rfl
  | x :: r, h => by rw [cntN, if_neg (h x (List.mem_cons_self ..)), cnt_none v r (fun y hy => h y (List.mem_cons_of_mem _ hy))]
theorem cnt_step : ∀ (l : List Int) (lo v : Int), risN lo l = true → cntN (v + 1) l = cntN v l + (if v ∈ l then 1 else 0)
  | [], _, _, _ => rfl
  | x :: r, lo, v, h => by
    rw [risN_cons] at h
    rw [cntN, cntN, cnt_step r x v h.2]
    by_cases e : v = x
    · subst e
      have hn : v ∉ r := fun hm => by have := risN_mem h.2 hm; omega
      rw [if_pos (show v < v + 1 by omega), if_neg hn, if_neg (show ¬ v < v by omega), if_pos (List.mem_cons_self ..)]
      omega
    · have hm : (v ∈ x :: r) ↔ v ∈ r := by simp [e]
      simp only [hm]
      by_cases h1 : x < v
      · rw [if_pos (by omega), if_pos h1]; omega
      · rw [if_neg (by omega), if_neg h1]; omega
theorem cnt_le (v : Int) : ∀ l : List Int, cntN v l ≤ l.length
  | [] => Nat.le_refl _
  | x :: r => by rw [cntN, List.length_cons]; have := cnt_le v r; split <;> omega
theorem Ord.right {c : Int → Bool} {k : Int} {hs : List Int} (h : Ord c k hs) : Ln.rightB ⟨k, hs.map sg⟩ = true :=
  lineN_right (k := k) (hs := hs) ⟨h.k1.1, by have := h.k1.2; omega⟩ h.ris (fun n hn => by have := h.top n hn; omega) (by have := h.len; omega)
set_option maxRecDepth 100000 in
set_option maxHeartbeats 4000000 in
theorem walk_ReseqOrder (A0 : Option Addr) (n0 c0 : Nat) (l0 : List UInt8) (ln0 : l0.length = n0) (W : World) (s0 : Sl W A0 n0 c0 1 (bcells l0)) (_ : True) :
    Calls Try.prog 3 #[.slice A0 n0 c0] W fun e W' => e = .returned (.bool true) ∧ Below W.heap.size W W' := by
  have HA := Lib.hid (awake06 W)
  have HL0 := Lib.hid ln0
  have hc0 : c0 ≤ 9223372036854775807 := by have := s0.cap; unfold maxLen at this; omega
  have hn0 := s0.le
  have HT := Lib.hid s0
  clear s0 ln0
  go_enter Try.func3, Try.ntmps3
  go_wp2_with fail
  refine HA.out.mono ?_
  rintro e w1 ⟨rfl, hb1⟩
  have HB := Lib.hid hb1
  have HI := Lib.hid ((RI.start w1).add 26 #[.int .i64 0, .slice none 0 0])
  clear hb1 HA
  go_upto_region 4 with (first | (refine ri_put rfl 26 (.tmp 3) (.tmp 18) rfl #[.int .i64 1, .slice none 0 0] rfl rfl HI.out rfl infoL (by simp [Value.oneCell']) ?_; rintro w2 hI2 -; have HI := Lib.hid hI2; clear hI2))
  have HIc := Lib.hid (show RI w1 [(w1.heap.size, 26, #[.int .i64 ((1 : Nat) : Int), .slice none 0 0]), (w2.heap.size, 27, camA fun _ => false)] (w2.alloc (.cells #[.bool false, .bool false, .bool false, .bool false, .bool false, .bool false, .bool false, .bool false, .bool false, .bool false, .bool false, .bool false, .bool false, .bool false, .bool false, .bool false, .bool false, .bool false, .bool false, .bool false, .bool false, .bool false, .bool false, .bool false, .bool false, .bool false, .bool false, .bool false, .bool false, .bool false, .bool false, .bool false, .bool false, .bool false, .bool false, .bool false, .bool false, .bool false, .bool false, .bool false, .bool false, .bool false, .bool false, .bool false, .bool false, .bool false, .bool false, .bool false, .bool false, .bool false, .bool false, .bool false, .bool false, .bool false, .bool false, .bool false, .bool false, .bool false, .bool false, .bool false, .bool false] 27)) from by
    have h := (HI.out.add 27 #[.bool false, .bool false, .bool false, .bool false, .bool false, .bool false, .bool false, .bool false, .bool false, .bool false, .bool false, .bool false, .bool false, .bool false, .bool false, .bool false, .bool false, .bool false, .bool false, .bool false, .bool false, .bool false, .bool false, .bool false, .bool false, .bool false, .bool false, .bool false, .bool false, .bool false, .bool false, .bool false, .bool false, .bool false, .bool false, .bool false, .bool false, .bool false, .bool false, .bool false, .bool false, .bool false, .bool false, .bool false, .bool false, .bool false, .bool false, .bool false, .bool false, .bool false, .bool false, .bool false, .bool false, .bool false, .bool false, .bool false, .bool false, .bool false, .bool false, .bool false, .bool false]).swap
    have e : (#[.bool false, .bool false, .bool false, .bool false, .bool false, .bool false, .bool false, .bool false, .bool false, .bool false, .bool false, .bool false, .bool false, .bool false, .bool false, .bool false, .bool false, .bool false, .bool false, .bool false, .bool false, .bool false, .bool false, .bool false, .bool false, .bool false, .bool false, .bool false, .bool false, .bool false, .bool false, .bool false, .bool false, .bool false, .bool false, .bool false, .bool false, .bool false, .bool false, .bool false, .bool false, .bool false, .bool false, .bool false, .bool false, .bool false, .bool false, .bool false, .bool false, .bool false, .bool false, .bool false, .bool false, .bool false, .bool false, .bool false, .bool false, .bool false, .bool false, .bool false, .bool false] : Array Value) = camA fun _ => false := by kernel_rfl
    rw [e] at h ⊢
    exact h)
  have HSn := Lib.hid (show Sl (w2.alloc (.cells #[.bool false, .bool false, .bool false, .bool false, .bool false, .bool false, .bool false, .bool false, .bool false, .bool false, .bool false, .bool false, .bool false, .bool false, .bool false, .bool false, .bool false, .bool false, .bool false, .bool false, .bool false, .bool false, .bool false, .bool false, .bool false, .bool false, .bool false, .bool false, .bool false, .bool false, .bool false, .bool false, .bool false, .bool false, .bool false, .bool false, .bool false, .bool false, .bool false, .bool false, .bool false, .bool false, .bool false, .bool false, .bool false, .bool false, .bool false, .bool false, .bool false, .bool false, .bool false, .bool false, .bool false, .bool false, .bool false, .bool false, .bool false, .bool false, .bool false, .bool false, .bool false] 27)) none ([] : List Int).length 0 20 (icells (([] : List Int).map sg)) from Sl.none_ _ _)
  have HOr := Lib.hid (show Ord (fun _ => false) ((1 : Nat) : Int) [] from ⟨by omega, rfl, (fun n hn => by cases hn), (fun n h1 h2 => by simp; omega)⟩)
  clear HI
  go_upto_region 5 with (fail)
  go_wp2_with fail
  go_loopw [5, 6] (fun s5 s6 wr => ∃ (i kn m c : Nat) (A : Option Addr) (hs : List Int) (cm : Int → Bool), i ≤ n0 ∧ i ≤ 300 ∧ s6 = .int .i64 (i : Nat) ∧ s5 = .int .i64 ((kn : Nat) - 1) ∧ 1 ≤ kn ∧ kn ≤ 61 ∧ m ≤ 60 ∧ Hid (hs.length = m) ∧ Hid (Ord cm (kn : Nat) hs) ∧ Hid (RI w1 [(w1.heap.size, 26, #[.int .i64 (kn : Nat), .slice A m c]), (w2.heap.size, 27, camA cm)] wr) ∧ Hid (Sl wr A m c 20 (icells (hs.map sg)))) (fun _ s6 _ => 300 - (intOf s6).toNat)
  case atStart => exact ⟨0, 1, 0, 0, none, [], fun _ => false, Nat.zero_le _, Nat.zero_le _, rfl, rfl, by omega, by omega, by omega, Lib.hid rfl, HOr, HIc, HSn⟩
  case round =>
    clear HIc HSn HOr
    obtain ⟨i, kn, m, c, A, hs, cm, hi1, hi2, rfl, rfl, hk1, hk2, hm60, HM, HO, HI, HS⟩ := hrel
    by_cases hlt : i < n0
    · by_cases hlt2 : i < 300
      · obtain ⟨b, off, rfl, hby⟩ := HT.out.row.byte (k := i) (by rw [HL0.out]; exact hlt)
        have hby := cell_on (HB.out.trans (HI.out.below.mono HB.out.size)) hby
        have hb256 := (l0[i]'(by rw [HL0.out]; exact hlt)).toNat_lt
        generalize (l0[i]'(by rw [HL0.out]; exact hlt)).toNat = bv at *
        obtain ⟨q, hq⟩ : ∃ q : Nat, (bv : Int) % 60 = (q : Int) := ⟨bv % 60, by omega⟩
        have hq60 : q ≤ 59 := by omega
        have hbv : bv < 256 := hb256
        clear hb256
        go_upto_region 10 with (fail)
        clear hq
        have hidx : ((q : Int) + 1).toNat = q + 1 := by omega
        obtain ⟨k', hs', run', kd, hcome, hO2, hkd3, hkd, hkd1, hk', hrun⟩ := HO.out.step (n := (q : Int) + 1) ⟨by omega, by omega⟩
        obtain ⟨kn', hkn'⟩ : ∃ kn' : Nat, kn' = kn + run'.length := ⟨_, rfl⟩
        obtain rfl : k' = (kn' : Nat) := by rw [hk', hkn']; push_cast; rfl
        obtain ⟨m2, hm2⟩ : ∃ m2, hs'.length = m2 := ⟨_, rfl⟩
        obtain ⟨r, hr⟩ : ∃ r, run'.length = r := ⟨_, rfl⟩
        have HCo := Lib.hid (fun (A : Option Addr) (c : Nat) (V : World) (h : Sl V A m c 20 (icells (hs.map sg))) => (show Calls Try.prog 7 #[.agg #[.int .i64 (kn : Nat), .slice A m c], .agg #[.int .i64 ((q : Int) + 1), .int .i64 ((q : Int) + 1 + 1), .int .i64 0, .int .i64 0, .int .i64 0, .bool false, .int .i64 0, .int .i64 0, .bool false, .string ⟨#[]⟩, .string ⟨#[]⟩, .string ⟨#[]⟩, .string ⟨#[]⟩, .string ⟨#[]⟩, .string ⟨#[]⟩, .int .i64 0, .bool false, .int .i64 0, .int .i64 0, .int .i64 0]] V (fun e w' => ∃ A2 c2 A3 c3, e = .returned (.tuple #[.agg #[.int .i64 (kn' : Nat), .slice A2 m2 c2], .slice A3 r c3, .int .i64 kd]) ∧ Sl w' A2 m2 c2 20 (icells (hs'.map sg)) ∧ Sl w' A3 r c3 20 (icells (run'.map sg)) ∧ Below V.heap.size V w') from (come_at (kn : Nat) ((q : Int) + 1) _ hs A m c HM.out rfl V h (by omega)).mono fun e w' h => by
            have h' := ComePost.num hcome h
            unfold NPost at h'
            rw [hm2, hr] at h'
            exact h'))
        have hm2_60 : m2 ≤ 60 := by have := hO2.len; rw [hm2] at this; exact this
        have hk2' := hO2.k1
        have hk2n : kn' ≤ 61 := by omega
        have hk1n : 1 ≤ kn' := by omega
        have HO2 := Lib.hid hO2
        have HM2 := Lib.hid hm2
        have HR2 := Lib.hid hr
        have HK2 := Lib.hid (show kn' = kn + r by rw [hkn', hr])
        have HKd := Lib.hid (show (kd = 3 ↔ cm ((q : Int) + 1) = true) ∧ (kd = 1 ∨ kd = 2 ∨ kd = 3) ∧ (kd = 1 ↔ run' ≠ []) from ⟨hkd3, hkd, hkd1⟩)
        have HRun := Lib.hid hrun
        clear hcome hO2 hkd3 hkd hkd1 hk' hrun hkn' hm2 hr hk2'
        go_upto_region 11 with (first | (refine wpList_load_row rfl 26 (.tmp 3) rfl _ rfl 26 _ (0, 0) _ HI.out.bx Try.underlying26 rfl infoL ?_) | (go_at_call 7; refine (HCo.out _ _ _ HS.out).mono ?_; rintro e w3 ⟨A2, c2, A3, c3, rfl, hs2, hs3, hb3⟩; have HJ := Lib.hid (HI.out.on hb3); have HS2 := Lib.hid hs2; have HS3 := Lib.hid hs3; clear hs2 hs3 hb3) | (refine ri_put rfl 26 (.tmp 8) (.tmp 43) rfl #[.int .i64 (kn' : Nat), .slice A2 m2 c2] rfl rfl (HJ.out.add 26 #[.int .i64 0, .slice none 0 0]) rfl infoL (by simp [Value.oneCell']) ?_; intro w4 hI4 hf4; have HS2 := Lib.hid ((HS2.out.on ((Below.refl _ _).alloc (Nat.le_refl _) _)).far (HJ.out.add 26 #[.int .i64 0, .slice none 0 0]).bx (Nat.le_refl 2) hf4); have HS3 := Lib.hid ((HS3.out.on ((Below.refl _ _).alloc (Nat.le_refl _) _)).far (HJ.out.add 26 #[.int .i64 0, .slice none 0 0]).bx (Nat.le_refl 2) hf4); have HJ := Lib.hid hI4; clear hI4 hf4))
        have hcm := (HJ.out.rot3.cell (q + 1)).trans (camA_get cm (q + 1) (by omega))
        rw [show (((q + 1 : Nat) : Nat) : Int) = (q : Int) + 1 by push_cast; rfl] at hcm
        generalize hcn : cm ((q : Int) + 1) = cn at *
        have HCn := Lib.hid hcn
        clear hcn
        go_upto_region 12 with (fail)
        clear hcm
        go_upto_region 13 with (first | (refine ri_put1 rfl 4 (.tmp 51) (.const (.bool true)) rfl (q + 1) (.bool true) rfl rfl rfl HJ.out.rot3 (by rw [camA_size]; omega) (by kernel_rfl) ?_; intro w5 hI5 hf5; rw [camA_set cm (q + 1) (by omega)] at hI5; have HS2 := Lib.hid (HS2.out.farB HJ.out.rot3.bx (camA_bool cm) hf5); have HS3 := Lib.hid (HS3.out.farB HJ.out.rot3.bx (camA_bool cm) hf5); have HJ := Lib.hid hI5; clear hI5 hf5))
        try simp only [Act.put]
        have hc3 : c3 ≤ 9223372036854775807 := by have := HS3.out.cap; unfold maxLen at this; omega
        have hrc3 := HS3.out.le
        have HRr := Lib.hid (fun (V : World) (h : Sl V A2 m2 c2 20 (icells (hs'.map sg))) => own_Right (kn' : Nat) A2 m2 c2 (hs'.map sg) (by rw [List.length_map]; exact HM2.out) V h)
        rw [HO2.out.right] at HRr
        go_cut [72] (fun s72 wx => s72 = .bool false ∧ Hid (RI w1 [(w2.heap.size, 27, camA (cameN cm ((q + 1 : Nat) : Int))), (w3.heap.size, 26, #[.int .i64 (kn' : Nat), .slice A2 m2 c2]), (w1.heap.size, 26, #[.int .i64 (kn : Nat), .slice A m c])] wx ∧ Sl wx A2 m2 c2 20 (icells (hs'.map sg)) ∧ Sl wx A3 r c3 20 (icells (run'.map sg))))
        case first =>
          rcases HKd.out.2.1 with rfl | rfl | rfl
          · obtain rfl : cn = false := by cases cn; rfl; exact absurd (HKd.out.1.2 rfl) (by decide)
            have hr0 : 0 < r := by rw [← HR2.out]; exact List.length_pos_iff.2 (HKd.out.2.2.1 rfl)
            have hr0I : (0 : Int) < (r : Int) := by omega
            clear HKd
            go_wp2_with (first | (refine wpList_load_row rfl 26 (.tmp 8) rfl _ rfl 26 _ (0, 0) _ HJ.out.swap.bx Try.underlying26 rfl infoL ?_) | (go_at_call 8; refine (HRr.out _ HS2.out).mono ?_; rintro e w6 ⟨rfl, hb6⟩; have HJ := Lib.hid (HJ.out.on hb6); have HS2 := Lib.hid (HS2.out.on hb6); have HS3 := Lib.hid (HS3.out.on hb6); clear hb6))
            go_meet
            case rel => exact ⟨rfl, Lib.hid ⟨HJ.out, HS2.out, HS3.out⟩⟩
          · obtain rfl : cn = false := by cases cn; rfl; exact absurd (HKd.out.1.2 rfl) (by decide)
            obtain rfl : run' = [] := Classical.byContradiction fun h => absurd (HKd.out.2.2.2 h) (by decide)
            obtain rfl : r = 0 := HR2.out.symm
            clear HKd
            go_wp2_with (first | (refine wpList_load_row rfl 26 (.tmp 8) rfl _ rfl 26 _ (0, 0) _ HJ.out.swap.bx Try.underlying26 rfl infoL ?_) | (go_at_call 8; refine (HRr.out _ HS2.out).mono ?_; rintro e w6 ⟨rfl, hb6⟩; have HJ := Lib.hid (HJ.out.on hb6); have HS2 := Lib.hid (HS2.out.on hb6); have HS3 := Lib.hid (HS3.out.on hb6); clear hb6))
            go_meet
            case rel => exact ⟨rfl, Lib.hid ⟨HJ.out, HS2.out, HS3.out⟩⟩
          · obtain rfl : cn = true := HKd.out.1.1 rfl
            obtain rfl : run' = [] := Classical.byContradiction fun h => absurd (HKd.out.2.2.2 h) (by decide)
            obtain rfl : r = 0 := HR2.out.symm
            clear HKd
            go_wp2_with (first | (refine wpList_load_row rfl 26 (.tmp 8) rfl _ rfl 26 _ (0, 0) _ HJ.out.swap.bx Try.underlying26 rfl infoL ?_) | (go_at_call 8; refine (HRr.out _ HS2.out).mono ?_; rintro e w6 ⟨rfl, hb6⟩; have HJ := Lib.hid (HJ.out.on hb6); have HS2 := Lib.hid (HS2.out.on hb6); have HS3 := Lib.hid (HS3.out.on hb6); clear hb6))
            go_meet
            case rel => exact ⟨rfl, Lib.hid ⟨HJ.out, HS2.out, HS3.out⟩⟩
        case rest =>
          obtain ⟨rfl, hqq⟩ := hcut
          clear HJ HS2 HS3 HRr HKd HI HS HO HM HCo
          have hqq := hqq.out
          rw [show (((q + 1 : Nat) : Nat) : Int) = (q : Int) + 1 by push_cast; rfl] at hqq
          generalize cameN cm ((q : Int) + 1) = cb at *
          have HJ := Lib.hid hqq.1
          have HS2 := Lib.hid hqq.2.1
          have HS3 := Lib.hid hqq.2.2
          clear hqq
          go_upto_region 15 with (fail)
          go_wp2_with fail
          go_loop [5, 12] (fun s5 s12 => ∃ j p : Nat, j ≤ r ∧ Hid (p = kn + j) ∧ s12 = .int .i64 (j : Nat) ∧ s5 = .int .i64 ((p : Nat) - 1)) (fun _ s12 => r - (intOf s12).toNat)
          case atStart => exact ⟨0, kn, Nat.zero_le _, Lib.hid rfl, rfl, rfl⟩
          case round =>
            obtain ⟨j, p, hj, HP, rfl, rfl⟩ := hrel
            by_cases hlj : j < r
            · have hjl : j < (run'.map sg).length := by rw [List.length_map, HR2.out]; exact hlj
              have hjr : j < run'.length := by rw [HR2.out]; exact hlj
              obtain ⟨b3, off3, rfl, -, h0, -⟩ := HS3.out.row.itm hjl
              have hpj : run'[j] = (p : Int) := by
                have h := HRun.out j hjr
                rw [List.getElem?_eq_getElem hjr] at h
                have := Option.some.inj h
                rw [this, HP.out]; push_cast; rfl
              have hp61 : p < kn' := by have := HK2.out; have := HP.out; omega
              have hp0 : 1 ≤ p := by have := HP.out; omega
              have hcp := (HJ.out.cell p).trans (camA_get cb p (by omega))
              rw [(HO2.out.came (p : Nat) (by omega) (by omega)).2 (.inl (by omega))] at hcp
              have h0p := h0.trans (show _ = some (Value.int .i64 (p : Int)) by rw [List.getElem_map, ← hpj]; rfl)
              have hp61I : ((p : Nat) : Int) < 61 := by omega
              clear h0 hpj
              go_wp2
              go_round
              case rel => exact ⟨j + 1, p + 1, by omega, Lib.hid (by have := HP.out; omega), by go_num, by first | go_num | (simp)⟩
              case measure => simp [intOf]; omega
            · obtain rfl : j = r := by omega
              obtain rfl : kn' = p := by rw [HP.out, HK2.out]
              clear HP HS3 HRun HK2
              go_upto_region 21 with (fail)
              go_wp2_with (first | (refine wpList_load_row rfl 26 (.tmp 8) rfl _ rfl 26 _ (0, 0) _ HJ.out.swap.bx Try.underlying26 rfl infoL ?_) | (refine ri_put rfl 26 (.tmp 3) (.tmp 102) rfl #[.int .i64 (kn' : Nat), .slice A2 m2 c2] rfl rfl HJ.out.rot3 rfl infoL (by simp [Value.oneCell']) ?_; intro w8 hI8 hf8; have HS2 := Lib.hid (HS2.out.far HJ.out.rot3.bx (Nat.le_refl 2) hf8); have HK := Lib.hid hI8.rot3.tail; clear hI8 hf8))
              go_loop [13] (fun s13 => ∃ v : Nat, 1 ≤ v ∧ v ≤ kn' ∧ s13 = .int .i64 (v : Nat)) (fun s13 => 61 - (intOf s13).toNat)
              case atStart => exact ⟨1, Nat.le_refl _, hk1n, rfl⟩
              case round =>
                obtain ⟨v, hv1, hv2, rfl⟩ := hrel
                by_cases hlv : v < kn'
                · have hvc := (HK.out.swap.cell v).trans (camA_get cb v (by omega))
                  rw [(HO2.out.came (v : Nat) (by omega) (by omega)).2 (.inl (by omega))] at hvc
                  have hv60I : ((v : Nat) : Int) ≤ 60 := by omega
                  go_wp2
                  go_round
                  case rel => exact ⟨v + 1, by omega, by omega, by go_num⟩
                  case measure => simp [intOf]; omega
                · obtain rfl : kn' = v := by omega
                  by_cases hk60 : kn' ≤ 60
                  · have hvc := (HK.out.swap.cell kn').trans (camA_get cb kn' (by omega))
                    rw [show cb (kn' : Nat) = false from Bool.eq_false_iff.2 fun h => by
                      rcases (HO2.out.came (kn' : Nat) (by omega) (by omega)).1 h with h | h
                      · omega
                      · have := risN_mem HO2.out.ris h; omega] at hvc
                    have hv60I : decide (((kn' : Nat) : Int) ≤ 60) = true := decide_eq_true (by omega)
                    go_upto_region 25 with (fail)
                    clear hvc hv60I
                    go_wp2_with fail
                    go_loop [14, 15] (fun s14 s15 => ∃ v u : Nat, kn' ≤ v ∧ v ≤ 61 ∧ u ≤ 60 ∧ s15 = .int .i64 (v : Nat) ∧ s14 = .int .i64 (u : Nat) ∧ Hid (u = cntN (v : Nat) hs')) (fun _ s15 => 61 - (intOf s15).toNat)
                    case atStart => exact ⟨kn', 0, Nat.le_refl _, hk2n, by omega, rfl, rfl, Lib.hid (cnt_none _ _ (fun x hx => by have := risN_mem HO2.out.ris hx; omega)).symm⟩
                    case round =>
                      obtain ⟨v, u, hv1, hv2, hu60, rfl, rfl, HU⟩ := hrel
                      by_cases hv60 : v ≤ 60
                      · have hst := cnt_step hs' (kn' : Nat) (v : Nat) HO2.out.ris
                        have hv60I : ((v : Nat) : Int) ≤ 60 := by omega
                        have hvc := (HK.out.swap.cell v).trans (camA_get cb v (by omega))
                        have hle := cnt_le ((v : Nat) + 1 : Int) hs'
                        rw [HM2.out] at hle
                        by_cases hmem : ((v : Nat) : Int) ∈ hs'
                        · have hcv : cb (v : Nat) = true := (HO2.out.came (v : Nat) (by omega) (by omega)).2 (.inr hmem)
                          rw [hcv] at hvc
                          rw [if_pos hmem] at hst
                          have hu2 : u + 1 ≤ 60 := by have := HU.out; omega
                          have HU2 := Lib.hid (show u + 1 = cntN ((v + 1 : Nat) : Int) hs' by rw [show (((v + 1 : Nat) : Nat) : Int) = (v : Int) + 1 by push_cast; rfl, hst, HU.out])
                          clear hst hmem hcv hle
                          go_wp2
                          go_round
                          case rel => exact ⟨v + 1, u + 1, by omega, by omega, hu2, by go_num, by go_num, HU2⟩
                          case measure => simp [intOf]; omega
                        · have hcv : cb (v : Nat) = false := Bool.eq_false_iff.2 fun h => by
                            rcases (HO2.out.came (v : Nat) (by omega) (by omega)).1 h with h | h
                            · omega
                            · exact hmem h
                          rw [hcv] at hvc
                          rw [if_neg hmem] at hst
                          have HU2 := Lib.hid (show u = cntN ((v + 1 : Nat) : Int) hs' by rw [show (((v + 1 : Nat) : Nat) : Int) = (v : Int) + 1 by push_cast; rfl, hst, HU.out]; rfl)
                          clear hst hmem hcv hle
                          go_wp2
                          go_round
                          case rel => exact ⟨v + 1, u, by omega, by omega, hu60, by go_num, rfl, HU2⟩
                          case measure => simp [intOf]; omega
                      · have hv61 : (60 : Int) < ((v : Nat) : Int) := by omega
                        obtain rfl : m2 = u := by rw [HU.out, cnt_all _ _ (fun x hx => by have := HO2.out.top x hx; omega), HM2.out]
                        clear HU
                        have f0 := (HK.out.cell 0).trans (show _ = some (Value.int .i64 (kn' : Nat)) from rfl)
                        have f1 := (HK.out.cell 1).trans (show _ = some (Value.slice A2 m2 c2) from rfl)
                        go_wp2
                        go_roundw
                        case rel => exact ⟨i + 1, kn', m2, c2, A2, hs', cb, by omega, by omega, by go_num, rfl, hk1n, hk2n, hm2_60, HM2, HO2, HK, HS2⟩
                        case measure => simp [intOf]; omega
                  · have hv60I : decide (((kn' : Nat) : Int) ≤ 60) = false := decide_eq_false (by omega)
                    go_upto_region 25 with (fail)
                    clear hv60I
                    go_wp2_with fail
                    go_loop [14, 15] (fun s14 s15 => ∃ v u : Nat, kn' ≤ v ∧ v ≤ 61 ∧ u ≤ 60 ∧ s15 = .int .i64 (v : Nat) ∧ s14 = .int .i64 (u : Nat) ∧ Hid (u = cntN (v : Nat) hs')) (fun _ s15 => 61 - (intOf s15).toNat)
                    case atStart => exact ⟨kn', 0, Nat.le_refl _, hk2n, by omega, rfl, rfl, Lib.hid (cnt_none _ _ (fun x hx => by have := risN_mem HO2.out.ris hx; omega)).symm⟩
                    case round =>
                      obtain ⟨v, u, hv1, hv2, hu60, rfl, rfl, HU⟩ := hrel
                      by_cases hv60 : v ≤ 60
                      · have hst := cnt_step hs' (kn' : Nat) (v : Nat) HO2.out.ris
                        have hv60I : ((v : Nat) : Int) ≤ 60 := by omega
                        have hvc := (HK.out.swap.cell v).trans (camA_get cb v (by omega))
                        have hle := cnt_le ((v : Nat) + 1 : Int) hs'
                        rw [HM2.out] at hle
                        by_cases hmem : ((v : Nat) : Int) ∈ hs'
                        · have hcv : cb (v : Nat) = true := (HO2.out.came (v : Nat) (by omega) (by omega)).2 (.inr hmem)
                          rw [hcv] at hvc
                          rw [if_pos hmem] at hst
                          have hu2 : u + 1 ≤ 60 := by have := HU.out; omega
                          have HU2 := Lib.hid (show u + 1 = cntN ((v + 1 : Nat) : Int) hs' by rw [show (((v + 1 : Nat) : Nat) : Int) = (v : Int) + 1 by push_cast; rfl, hst, HU.out])
                          clear hst hmem hcv hle
                          go_wp2
                          go_round
                          case rel => exact ⟨v + 1, u + 1, by omega, by omega, hu2, by go_num, by go_num, HU2⟩
                          case measure => simp [intOf]; omega
                        · have hcv : cb (v : Nat) = false := Bool.eq_false_iff.2 fun h => by
                            rcases (HO2.out.came (v : Nat) (by omega) (by omega)).1 h with h | h
                            · omega
                            · exact hmem h
                          rw [hcv] at hvc
                          rw [if_neg hmem] at hst
                          have HU2 := Lib.hid (show u = cntN ((v + 1 : Nat) : Int) hs' by rw [show (((v + 1 : Nat) : Nat) : Int) = (v : Int) + 1 by push_cast; rfl, hst, HU.out]; rfl)
                          clear hst hmem hcv hle
                          go_wp2
                          go_round
                          case rel => exact ⟨v + 1, u, by omega, by omega, hu60, by go_num, rfl, HU2⟩
                          case measure => simp [intOf]; omega
                      · have hv61 : (60 : Int) < ((v : Nat) : Int) := by omega
                        obtain rfl : m2 = u := by rw [HU.out, cnt_all _ _ (fun x hx => by have := HO2.out.top x hx; omega), HM2.out]
                        clear HU
                        have f0 := (HK.out.cell 0).trans (show _ = some (Value.int .i64 (kn' : Nat)) from rfl)
                        have f1 := (HK.out.cell 1).trans (show _ = some (Value.slice A2 m2 c2) from rfl)
                        go_wp2
                        go_roundw
                        case rel => exact ⟨i + 1, kn', m2, c2, A2, hs', cb, by omega, by omega, by go_num, rfl, hk1n, hk2n, hm2_60, HM2, HO2, HK, HS2⟩
                        case measure => simp [intOf]; omega
      · obtain rfl : i = 300 := by omega
        go_wp2
        go_ret
        exact ⟨rfl, HB.out.trans (HI.out.below.mono HB.out.size)⟩
    · obtain rfl : i = n0 := by omega
      go_wp2
      go_ret
      exact ⟨rfl, HB.out.trans (HI.out.below.mono HB.out.size)⟩
end Go.Proofs.Ytagehacnpdlpnaa
