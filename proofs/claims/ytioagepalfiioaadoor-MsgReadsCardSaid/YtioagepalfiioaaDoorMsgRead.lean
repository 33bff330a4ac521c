/-
  Layer 5, msg: the document's own way: a body is read.
-/
import Derived.Test.YtioagepalfiioaaDoorMsgExec
import Derived.Test.YtioagepalfiioaaDoorMsgRefPut
import Derived.Test.YtioagepalfiioaaDoorFieldRefParse
import Derived.Test.YtioagepalfiioaaDoorMsgReadPost
import Derived.Deep.CutBlock
namespace Go.Proofs.YtioagepalfiioaaDoor
open Go.RowKit

def kTo (k : Nat) (s : ByteArray) : Int := if 1 ≤ kindN s ∧ kindN s ≤ k then kindN s else 0
theorem kindN_le (s : ByteArray) : 0 ≤ kindN s ∧ kindN s ≤ 7 := by unfold kindN; repeat' split; all_goals omega
theorem kTo_step (k : Nat) (hk : k < 7) (s : ByteArray) : (s = kindV ((k : Int) + 1) → kTo (k + 1) s = (k : Int) + 1) ∧ (¬ s = kindV ((k : Int) + 1) → kTo (k + 1) s = kTo k s) := by
  have hN := kindN_V (k := (k : Int) + 1) (by omega)
  refine ⟨fun h => ?_, fun h => ?_⟩
  · unfold kTo
    rw [h, hN, if_pos (by omega)]
  · have hne : kindN s ≠ (k : Int) + 1 := fun e => h (by rw [← kindV_N (s := s) (by omega), e])
    unfold kTo
    by_cases h1 : 1 ≤ kindN s ∧ kindN s ≤ (k : Int)
    · rw [if_pos (by omega), if_pos h1]
    · rw [if_neg (by omega), if_neg h1]
theorem kTo_all (s : ByteArray) : kTo 7 s = kindN s := by
  have := kindN_le s
  unfold kTo
  split
  · rfl
  · omega
theorem kTo_none (s : ByteArray) : kTo 0 s = 0 := by unfold kTo; rw [if_neg (by omega)]
theorem tkV_in {l : List Fld} (hv : ∀ f ∈ l, f.val.size ≤ 1000000) (t : Int) : (tkV t l).size ≤ 1000000 := by
  have := tkV_size hv t 0
  rwa [List.drop_zero] at this
theorem tkL_in {l : List Fld} (hv : ∀ f ∈ l, f.val.size ≤ 1000000) (t : Int) : ∀ f ∈ tkL t l, f.val.size ≤ 1000000 := by
  intro f hf
  cases l with
  | nil => exact absurd hf (by simp [tkL])
  | cons g r =>
    unfold tkL at hf
    dsimp only at hf
    split at hf
    · exact hv f (List.mem_cons_of_mem _ hf)
    · exact hv f hf
theorem parseV_bd (v : List UInt8) : -4611686018427387904 ≤ parseV v ∧ parseV v ≤ 4611686018427387904 := by
  unfold parseV
  split
  · rename_i h
    unfold parseE at h
    split at h
    · cases h
    · split at h
      · split at h
        · rename_i hr
          unfold right at hr
          simpa using hr
        · cases h
      · cases h
  · omega
theorem zero_in : Exc.zero.In := ⟨by decide, by decide, by decide, by decide, by decide, by decide, by decide, by decide, by decide⟩
theorem numV_in (s : Tk) (t : Int) : -9223372036854775808 ≤ s.numV t ∧ s.numV t ≤ 9223372036854775807 := by
  have := parseV_bd (tkV t s.l).data.toList
  unfold Tk.numV
  omega
theorem val_in {l : List Fld} (hv : ∀ f ∈ l, f.val.size ≤ 1000000) (t : Int) : (tkV t l).size ≤ maxLen := by
  have := tkV_in hv t
  unfold maxLen; omega
theorem exRead_in {s : Tk} (hv : ∀ f ∈ s.l, f.val.size ≤ 1000000) : (exRead s).1.In := by
  have h1 := tkL_in hv 17
  have h2 := tkL_in h1 19
  have h3 := tkL_in h2 11
  have h4 := tkL_in h3 1
  refine ⟨?_, numV_in _ _, numV_in _ _, numV_in _ _, val_in hv 17, val_in h1 19, val_in h2 11, val_in h3 1, val_in h4 55⟩
  unfold exRead
  dsimp only
  split
  · omega
  · exact numV_in _ _
theorem restRead_in {m : Mg} {s : Tk} (hm : m.In) (hv : ∀ f ∈ s.l, f.val.size ≤ 1000000) : (restRead m s).1.In := by
  unfold restRead
  split
  · exact ⟨hm.kind, hm.seq, hm.time, numV_in _ _, hm.b, hm.text, hm.ex⟩
  split
  · exact ⟨hm.kind, hm.seq, hm.time, hm.a, hm.b, val_in hv 112, hm.ex⟩
  split
  · exact ⟨hm.kind, hm.seq, hm.time, numV_in _ _, numV_in _ _, hm.text, hm.ex⟩
  split
  · exact ⟨hm.kind, hm.seq, hm.time, numV_in _ _, hm.b, hm.text, hm.ex⟩
  split
  · exact ⟨hm.kind, hm.seq, hm.time, hm.a, hm.b, hm.text, exRead_in hv⟩
  · exact hm
theorem readT_in {l : List Fld} (hv : ∀ f ∈ l, f.val.size ≤ 1000000) : (readT l).1.In := by
  have hk := kindN_le (tkV 35 l)
  refine restRead_in (s := (headRead l).2) ⟨?_, numV_in _ _, numV_in _ _, ?_, ?_, ?_, ?_⟩ (tkL_in (tkL_in (tkL_in (tkL_in hv 35) 34) 52) 43)
  · show -9223372036854775808 ≤ kindN (tkV 35 l) ∧ kindN (tkV 35 l) ≤ 9223372036854775807
    omega
  · show -9223372036854775808 ≤ (0 : Int) ∧ (0 : Int) ≤ 9223372036854775807
    omega
  · show -9223372036854775808 ≤ (0 : Int) ∧ (0 : Int) ≤ 9223372036854775807
    omega
  · show (0 : Nat) ≤ maxLen
    omega
  · exact zero_in
theorem setAll_arr (m : Mg) : setAll #[.int .i64 (0), .int .i64 (0), .int .i64 (0), .bool (false), .int .i64 (0), .int .i64 (0), .bool (false), .string (⟨#[]⟩), .string (⟨#[]⟩), .string (⟨#[]⟩), .string (⟨#[]⟩), .string (⟨#[]⟩), .string (⟨#[]⟩), .int .i64 (0), .bool (false), .int .i64 (0), .int .i64 (0), .int .i64 (0)] 0 m.arr.toList = m.arr := by unfold Mg.arr; simp [setAll]
set_option maxRecDepth 100000 in
set_option maxHeartbeats 4000000 in
theorem ref_Read5 (A0 : Option Addr) (c0 : Nat) (bs : List UInt8) (w : World) (h : Sl w A0 bs.length c0 1 (bcells bs)) (hl0 : bs.length ≤ 1000000) : Calls Tryd.prog 6 #[.slice A0 bs.length c0] w (MReadPost bs w) := by
  have HB0 := Lib.hid (Box.new w #[.int .i64 (0), .int .i64 (0), .int .i64 (0), .bool (false), .int .i64 (0), .int .i64 (0), .bool (false), .string (⟨#[]⟩), .string (⟨#[]⟩), .string (⟨#[]⟩), .string (⟨#[]⟩), .string (⟨#[]⟩), .string (⟨#[]⟩), .int .i64 (0), .bool (false), .int .i64 (0), .int .i64 (0), .int .i64 (0)] 27)
  have hb0 := (Below.refl w.heap.size w).alloc (Nat.le_refl _) (.cells #[.int .i64 (0), .int .i64 (0), .int .i64 (0), .bool (false), .int .i64 (0), .int .i64 (0), .bool (false), .string (⟨#[]⟩), .string (⟨#[]⟩), .string (⟨#[]⟩), .string (⟨#[]⟩), .string (⟨#[]⟩), .string (⟨#[]⟩), .int .i64 (0), .bool (false), .int .i64 (0), .int .i64 (0), .int .i64 (0)] 27)
  have HP := Lib.hid (ref_FParse A0 c0 bs _ (h.on hb0) hl0)
  have hbad := Lib.hid (fun (e : Int) (he : parseF bs = .error e) => (show (mReadV bs).val = .agg #[.int .i64 (0), .int .i64 (0), .int .i64 (0), .bool (false), .int .i64 (0), .int .i64 (0), .bool (false), .string (⟨#[]⟩), .string (⟨#[]⟩), .string (⟨#[]⟩), .string (⟨#[]⟩), .string (⟨#[]⟩), .string (⟨#[]⟩), .int .i64 (0), .bool (false), .int .i64 (0), .int .i64 (0), .int .i64 (0)] ∧ mReadE bs = e by unfold mReadV mReadE; rw [he]; exact ⟨rfl, rfl⟩))
  clear h
  generalize hbl : bs.length = bl at *
  go_enter Tryd.func6, Tryd.ntmps6
  go_wp2_with fail
  refine HP.out.mono ?_
  rintro e w1 ⟨A, n, c, rfl, hsl, hb1, _⟩
  have hBr := HB0.out.on hb1
  have hB1 : Below w.heap.size w w1 := hb0.trans (hb1.mono (by simp))
  clear HP HB0 hb0 hb1
  have HBr := Lib.hid hBr
  clear hBr
  by_cases he : resE (parseF bs) = 0
  · obtain ⟨hpf, hrt, hl1⟩ := resL_right he
    rw [he]
    obtain ⟨l, hll⟩ : ∃ l, l = resL (parseF bs) := ⟨_, rfl⟩
    rw [← hll] at hsl hpf hrt hl1
    have hfin := Lib.hid (show (mReadV bs) = (readM l).getD Mg.zero ∧ mReadE bs = if (readM l).isSome then 0 else 3 by unfold mReadV mReadE; rw [hpf]; exact ⟨rfl, rfl⟩)
    have hn : l.length = n := by have := hsl.len; rw [fcells_len] at this; omega
    have hn1 : n ≤ 1000000 := by omega
    have hv : ∀ f ∈ l, f.val.size ≤ 1000000 := fun f hf => by have := List.all_eq_true.1 hrt f hf; unfold Fld.right at this; simp only [Bool.and_eq_true] at this; have h2 := (rightV_iff.1 this.2).2.1; simp at h2; omega
    clear hpf hrt hbad
    have hI0 : TkI w1 w1.heap.size A n c l ⟨l, true⟩ (w1.alloc (.cells #[.slice A n c, .int .i64 0, .bool false] 45)) := ⟨⟨0, false, Box.new _ _ _, Nat.zero_le _, by simp⟩, Nat.le_refl _, (Below.refl _ _).alloc (Nat.le_refl _) _⟩
    have X := (XI.start hI0).alloc 27 #[.int .i64 (0), .int .i64 (0), .int .i64 (0), .bool (false), .int .i64 (0), .int .i64 (0), .bool (false), .string (⟨#[]⟩), .string (⟨#[]⟩), .string (⟨#[]⟩), .string (⟨#[]⟩), .string (⟨#[]⟩), .string (⟨#[]⟩), .int .i64 (0), .bool (false), .int .i64 (0), .int .i64 (0), .int .i64 (0)]
    rw [World.size_alloc] at X
    have HX := Lib.hid X
    have HT := Lib.hid (fun (s : Tk) (t : Int) (W' : World) (h : TkI w1 w1.heap.size A n c l s W') => tk_take w1 w1.heap.size A n c l s t W' hsl hn hn1 h)
    have HM := Lib.hid (fun (s : Tk) (t : Int) (W' : World) (h : TkI w1 w1.heap.size A n c l s W') => tk_maybe w1 w1.heap.size A n c l s t W' hsl hn hn1 h)
    have HN := Lib.hid (fun (s : Tk) (t : Int) (W' : World) (h : TkI w1 w1.heap.size A n c l s W') => tk_number w1 w1.heap.size A n c l s t W' hsl hn hn1 hv h)
    have HY := Lib.hid (fun (s : Tk) (t : Int) (W' : World) (h : TkI w1 w1.heap.size A n c l s W') => tk_yes w1 w1.heap.size A n c l s t W' hsl hn hn1 h)
    have HE := Lib.hid (fun (s : Tk) (W' : World) (h : TkI w1 w1.heap.size A n c l s W') => tk_exec w1 w1.heap.size A n c l s W' hsl hn hn1 hv h)
    have HV := Lib.hid hv
    clear X hI0 hsl hv hll he
    go_wp2_with fail
    refine (HT.out _ _ _ HX.out.tk).mono ?_
    rintro e w2 hp
    obtain ⟨s1, hs1⟩ : ∃ s1, s1 = (Tk.mk l true).take 35 := ⟨_, rfl⟩
    rw [← hs1] at hp
    replace hs1 := Lib.hid hs1
    have X := HX.out.call hp
    obtain ⟨rfl, _, _⟩ := hp
    obtain ⟨sv, hsv⟩ : ∃ sv, sv = tkV 35 (Tk.mk l true).l := ⟨_, rfl⟩
    rw [← hsv]
    replace hsv := Lib.hid hsv
    replace HX := Lib.hid X
    clear X
    go_wp2_with fail
    go_loopw [9] (fun s9 wx => ∃ k : Nat, s9 = .int .i64 (k : Nat) ∧ k ≤ 7 ∧ Hid (XI (w1.alloc (.cells #[.slice A n c, .int .i64 0, .bool false] 45)) w1 w1.heap.size A n c l (s1) [(w1.heap.size + 1, 27, #[.int .i64 (kTo k sv), .int .i64 (0), .int .i64 (0), .bool (false), .int .i64 (0), .int .i64 (0), .bool (false), .string (⟨#[]⟩), .string (⟨#[]⟩), .string (⟨#[]⟩), .string (⟨#[]⟩), .string (⟨#[]⟩), .string (⟨#[]⟩), .int .i64 (0), .bool (false), .int .i64 (0), .int .i64 (0), .int .i64 (0)])] wx)) (fun s9 _ => 7 - (intOf s9).toNat)
    case atStart => exact ⟨0, rfl, by omega, Lib.hid (by rw [kTo_none]; exact HX.out)⟩
    case round =>
      clear HX
      obtain ⟨k, rfl, hk, HX⟩ := hrel
      by_cases hlt : k < 7
      · have ⟨st1, st2⟩ := kTo_step k hlt sv
        have hix := kind_at ((k : Int) + 1) (by omega)
        rw [show (k : Int) + 1 - 1 = (k : Int) by omega] at hix
        have hcmp := str_dec sv (kindV ((k : Int) + 1))
        obtain ⟨dd, hdd⟩ : ∃ dd, dd = decide (sv = kindV ((k : Int) + 1)) := ⟨_, rfl⟩
        rw [← hdd] at hcmp
        replace hdd := Lib.hid hdd
        have Hst1 := Lib.hid st1
        have Hst2 := Lib.hid st2
        clear st1 st2
        have f := HX.out.bx.free 0
        have q := HX.out.bx.cell 0
        simp at q
        obtain ⟨vk, hvk⟩ : ∃ vk, vk = kindV ((k : Int) + 1) := ⟨_, rfl⟩
        rw [← hvk] at hcmp hix
        replace hvk := Lib.hid hvk
        rcases dd with _ | _
        · go_wp2
          go_roundw
          case rel => exact ⟨k + 1, by go_num, by omega, Lib.hid (by rw [Hst2.out (of_decide_eq_false hdd.out.symm)]; exact HX.out)⟩
          case measure => simp [intOf]; omega
        · have HX2 := Lib.hid (HX.out.set 0 (.int .i64 ((k : Int) + 1)))
          simp at HX2
          go_wp2
          go_roundw
          case rel => exact ⟨k + 1, by go_num, by omega, Lib.hid (by rw [Hst1.out (of_decide_eq_true hdd.out.symm)]; exact HX2.out)⟩
          case measure => simp [intOf]; omega
      · obtain rfl : k = 7 := by omega
        rw [kTo_all] at HX
        obtain ⟨kd, hkd⟩ : ∃ kd, kd = kindN sv := ⟨_, rfl⟩
        have hk7 := kindN_le sv
        rw [← hkd] at HX hk7
        replace hkd := Lib.hid hkd
        go_wp2_with fail
        refine (HN.out _ _ _ HX.out.tk).mono ?_
        rintro e ws2 hp
        obtain ⟨s2, hs2⟩ : ∃ s2, s2 = s1.num 34 := ⟨_, rfl⟩
        rw [← hs2] at hp
        replace hs2 := Lib.hid hs2
        have X := HX.out.call hp
        obtain ⟨rfl, _, _⟩ := hp
        have f := X.bx.free 1
        have q := X.bx.cell 1
        simp at q
        replace HX := Lib.hid (X.set 1 (.int .i64 (s1.numV 34)))
        simp at HX
        clear X
        go_wp2_with fail
        refine (HN.out _ _ _ HX.out.tk).mono ?_
        rintro e ws3 hp
        obtain ⟨s3, hs3⟩ : ∃ s3, s3 = s2.num 52 := ⟨_, rfl⟩
        rw [← hs3] at hp
        replace hs3 := Lib.hid hs3
        have X := HX.out.call hp
        obtain ⟨rfl, _, _⟩ := hp
        have f := X.bx.free 2
        have q := X.bx.cell 2
        simp at q
        replace HX := Lib.hid (X.set 2 (.int .i64 (s2.numV 52)))
        simp at HX
        clear X
        go_wp2_with fail
        refine (HY.out _ _ _ HX.out.tk).mono ?_
        rintro e ws4 hp
        obtain ⟨s4, hs4⟩ : ∃ s4, s4 = s3.yes 43 := ⟨_, rfl⟩
        rw [← hs4] at hp
        replace hs4 := Lib.hid hs4
        have X := HX.out.call hp
        obtain ⟨rfl, _, _⟩ := hp
        have f := X.bx.free 3
        have q := X.bx.cell 3
        simp at q
        replace HX := Lib.hid (X.set 3 (.bool (s3.yesV 43)))
        simp at HX
        clear X
        have hq0 := HX.out.bx.cell 0
        simp at hq0
        go_upto_block 2 with fail
        obtain ⟨sq, hsq⟩ : ∃ sq, sq = s1.numV 34 := ⟨_, rfl⟩
        obtain ⟨tm, htm⟩ : ∃ tm, tm = s2.numV 52 := ⟨_, rfl⟩
        obtain ⟨cp, hcp⟩ : ∃ cp, cp = s3.yesV 43 := ⟨_, rfl⟩
        rw [← hsq, ← htm, ← hcp] at HX ⊢
        replace hsq := Lib.hid hsq
        replace htm := Lib.hid htm
        replace hcp := Lib.hid hcp
        obtain ⟨m5, hm5⟩ : ∃ m5, m5 = (restRead ⟨kd, sq, tm, cp, 0, 0, false, eS, Exc.zero⟩ s4).1 := ⟨_, rfl⟩
        obtain ⟨s5, hs5⟩ : ∃ s5, s5 = (restRead ⟨kd, sq, tm, cp, 0, 0, false, eS, Exc.zero⟩ s4).2 := ⟨_, rfl⟩
        replace hm5 := Lib.hid hm5
        replace hs5 := Lib.hid hs5
        go_cut [46, 47, 52, 58, 66, 74] (fun _ _ _ _ _ _ wx => XI (w1.alloc (.cells #[.slice A n c, .int .i64 0, .bool false] 45)) w1 w1.heap.size A n c l s5 [(w1.heap.size + 1, 27, m5.arr)] wx)
        case first =>
          rcases (show kd = 0 ∨ kd = 1 ∨ kd = 2 ∨ kd = 3 ∨ kd = 4 ∨ kd = 5 ∨ kd = 6 ∨ kd = 7 by omega) with rfl | rfl | rfl | rfl | rfl | rfl | rfl | rfl
          · skip
            go_wp2
            go_meet
            case rel =>
              have e1 : s5 = s4 := by rw [hs5.out]; rfl
              have e2 := congrArg Mg.arr hm5.out
              rw [e1, e2]
              exact HX.out
          · skip
            go_wp2_with fail
            refine (HN.out _ _ _ HX.out.tk).mono ?_
            rintro e ws6 hp
            obtain ⟨s6, hs6⟩ : ∃ s6, s6 = s4.num 108 := ⟨_, rfl⟩
            rw [← hs6] at hp
            replace hs6 := Lib.hid hs6
            have X := HX.out.call hp
            obtain ⟨rfl, _, _⟩ := hp
            have f := X.bx.free 4
            have q := X.bx.cell 4
            simp at q
            replace HX := Lib.hid (X.set 4 (.int .i64 (s4.numV 108)))
            simp at HX
            clear X
            go_wp2
            go_meet
            case rel =>
              have e1 : s5 = s6 := by rw [hs5.out, hs6.out]; rfl
              have e2 := congrArg Mg.arr hm5.out
              rw [e1, e2]
              exact HX.out
          · skip
            go_wp2_with fail
            refine (HM.out _ _ _ HX.out.tk).mono ?_
            rintro e ws6 hp
            obtain ⟨s6, hs6⟩ : ∃ s6, s6 = s4.may 112 := ⟨_, rfl⟩
            rw [← hs6] at hp
            replace hs6 := Lib.hid hs6
            have X := HX.out.call hp
            obtain ⟨rfl, _, _⟩ := hp
            have f := X.bx.free 7
            have q := X.bx.cell 7
            simp at q
            replace HX := Lib.hid (X.set 7 (.string (tkV 112 s4.l)))
            simp at HX
            clear X
            go_wp2
            go_meet
            case rel =>
              have e1 : s5 = s6 := by rw [hs5.out, hs6.out]; rfl
              have e2 := congrArg Mg.arr hm5.out
              rw [e1, e2]
              exact HX.out
          · skip
            go_wp2_with fail
            refine (HM.out _ _ _ HX.out.tk).mono ?_
            rintro e ws6 hp
            obtain ⟨s6, hs6⟩ : ∃ s6, s6 = s4.may 112 := ⟨_, rfl⟩
            rw [← hs6] at hp
            replace hs6 := Lib.hid hs6
            have X := HX.out.call hp
            obtain ⟨rfl, _, _⟩ := hp
            have f := X.bx.free 7
            have q := X.bx.cell 7
            simp at q
            replace HX := Lib.hid (X.set 7 (.string (tkV 112 s4.l)))
            simp at HX
            clear X
            go_wp2
            go_meet
            case rel =>
              have e1 : s5 = s6 := by rw [hs5.out, hs6.out]; rfl
              have e2 := congrArg Mg.arr hm5.out
              rw [e1, e2]
              exact HX.out
          · skip
            go_wp2_with fail
            refine (HN.out _ _ _ HX.out.tk).mono ?_
            rintro e ws6 hp
            obtain ⟨s6, hs6⟩ : ∃ s6, s6 = s4.num 7 := ⟨_, rfl⟩
            rw [← hs6] at hp
            replace hs6 := Lib.hid hs6
            have X := HX.out.call hp
            obtain ⟨rfl, _, _⟩ := hp
            have f := X.bx.free 4
            have q := X.bx.cell 4
            simp at q
            replace HX := Lib.hid (X.set 4 (.int .i64 (s4.numV 7)))
            simp at HX
            clear X
            go_wp2_with fail
            refine (HN.out _ _ _ HX.out.tk).mono ?_
            rintro e ws7 hp
            obtain ⟨s7, hs7⟩ : ∃ s7, s7 = s6.num 16 := ⟨_, rfl⟩
            rw [← hs7] at hp
            replace hs7 := Lib.hid hs7
            have X := HX.out.call hp
            obtain ⟨rfl, _, _⟩ := hp
            have f := X.bx.free 5
            have q := X.bx.cell 5
            simp at q
            replace HX := Lib.hid (X.set 5 (.int .i64 (s6.numV 16)))
            simp at HX
            clear X
            go_wp2
            go_meet
            case rel =>
              obtain rfl := hs6.out
              have e1 : s5 = s7 := by rw [hs5.out, hs7.out]; rfl
              have e2 := congrArg Mg.arr hm5.out
              rw [e1, e2]
              exact HX.out
          · skip
            go_wp2_with fail
            refine (HY.out _ _ _ HX.out.tk).mono ?_
            rintro e ws6 hp
            obtain ⟨s6, hs6⟩ : ∃ s6, s6 = s4.yes 123 := ⟨_, rfl⟩
            rw [← hs6] at hp
            replace hs6 := Lib.hid hs6
            have X := HX.out.call hp
            obtain ⟨rfl, _, _⟩ := hp
            have f := X.bx.free 6
            have q := X.bx.cell 6
            simp at q
            replace HX := Lib.hid (X.set 6 (.bool (s4.yesV 123)))
            simp at HX
            clear X
            go_wp2_with fail
            refine (HN.out _ _ _ HX.out.tk).mono ?_
            rintro e ws7 hp
            obtain ⟨s7, hs7⟩ : ∃ s7, s7 = s6.num 36 := ⟨_, rfl⟩
            rw [← hs7] at hp
            replace hs7 := Lib.hid hs7
            have X := HX.out.call hp
            obtain ⟨rfl, _, _⟩ := hp
            have f := X.bx.free 4
            have q := X.bx.cell 4
            simp at q
            replace HX := Lib.hid (X.set 4 (.int .i64 (s6.numV 36)))
            simp at HX
            clear X
            go_wp2
            go_meet
            case rel =>
              obtain rfl := hs6.out
              have e1 : s5 = s7 := by rw [hs5.out, hs7.out]; rfl
              have e2 := congrArg Mg.arr hm5.out
              rw [e1, e2]
              exact HX.out
          · skip
            go_wp2
            go_meet
            case rel =>
              have e1 : s5 = s4 := by rw [hs5.out]; rfl
              have e2 := congrArg Mg.arr hm5.out
              rw [e1, e2]
              exact HX.out
          · skip
            go_wp2_with fail
            refine (HE.out _ _ HX.out.tk).mono ?_
            rintro e ws6 hp
            have X := HX.out.call hp
            obtain ⟨rfl, _, _⟩ := hp
            replace HX := Lib.hid X
            clear X
            obtain ⟨xs, hxs⟩ : ∃ xs, xs = exRead s4 := ⟨_, rfl⟩
            rw [← hxs] at HX ⊢
            replace hxs := Lib.hid hxs
            obtain ⟨⟨x1, x2, x3, x4, x5, x6, x7, x8, x9, x10⟩, s6⟩ := xs
            unfold Exc.val
            dsimp only at HX ⊢
            have H1 := Lib.hid (show (#[.string x1, .string x2, .string x3, .string x4, .string x5, .int .i64 x6, .bool x7, .int .i64 x8, .int .i64 x9, .int .i64 x10] : Array Value).all (·.oneCell') = true by simp [Value.oneCell'])
            go_wp2_with (first | (refine list_store rfl 25 (.tmp 78) (.tmp 77) rfl #[.string x1, .string x2, .string x3, .string x4, .string x5, .int .i64 x6, .bool x7, .int .i64 x8, .int .i64 x9, .int .i64 x10] rfl rfl HX.out (by simp) infoX H1.out ?_; intro wz HZ))
            simp [setAll] at HZ
            go_meet
            case rel =>
              have e1 : s5 = s6 := by rw [hs5.out]; show (exRead s4).2 = _; rw [← hxs.out]
              have e2 := congrArg Mg.arr hm5.out
              rw [show (restRead ⟨7, sq, tm, cp, 0, 0, false, eS, Exc.zero⟩ s4).1 = ⟨7, sq, tm, cp, 0, 0, false, eS, (exRead s4).1⟩ from rfl, ← hxs.out] at e2
              rw [e1, e2]
              exact HZ
        case rest =>
          have hRd : readT l = (m5, s5) := by
            rw [hm5.out, hs5.out]
            show restRead (headRead l).1 (headRead l).2 = _
            have : headRead l = (⟨kd, sq, tm, cp, 0, 0, false, eS, Exc.zero⟩, s4) := by
              unfold headRead
              dsimp only
              rw [← hs1.out, ← hs2.out, ← hs3.out, ← hs4.out, ← hsq.out, ← htm.out, ← hcp.out, show tkV 35 l = sv from hsv.out.symm, ← hkd.out]
            rw [this]
          have hmI : m5.In := by have := readT_in HV.out; rw [hRd] at this; exact this
          have HRt := Lib.hid (fun W => ref_Right5 m5 hmI W)
          have HG := Lib.hid (show s5.ok = true → s5.l = [] → msgB m5 = true → (mReadV bs).val = .agg m5.arr ∧ mReadE bs = 0 from fun h1 h2 h3 => by
            have hm : readM l = some m5 := by unfold readM; rw [hRd]; exact if_pos ⟨h1, h2, h3⟩
            have ⟨g1, g2⟩ := hfin.out
            rw [hm] at g1 g2
            rw [g1, g2]; exact ⟨rfl, rfl⟩)
          have HF := Lib.hid (show ¬ (s5.ok = true ∧ s5.l = [] ∧ msgB m5 = true) → (mReadV bs).val = .agg #[.int .i64 (0), .int .i64 (0), .int .i64 (0), .bool (false), .int .i64 (0), .int .i64 (0), .bool (false), .string (⟨#[]⟩), .string (⟨#[]⟩), .string (⟨#[]⟩), .string (⟨#[]⟩), .string (⟨#[]⟩), .string (⟨#[]⟩), .int .i64 (0), .bool (false), .int .i64 (0), .int .i64 (0), .int .i64 (0)] ∧ mReadE bs = 3 from fun h1 => by
            have hm : readM l = none := by unfold readM; rw [hRd]; exact if_neg h1
            have ⟨g1, g2⟩ := hfin.out
            rw [hm] at g1 g2
            rw [g1, g2]; exact ⟨rfl, rfl⟩)
          obtain ⟨⟨p, b, hbx, hp, hs5'⟩, _, hbl2⟩ := hcut.tk
          have hbm := hcut.bx
          have hBr := HBr.out.on hbl2
          have hBc : Below w.heap.size w wc := hB1.trans (hbl2.mono hB1.size)
          have c1 := hbx.cell 1
          have c2 := hbx.cell 2
          simp at c1 c2
          have hg18 : (#[.int .i64 (0), .int .i64 (0), .int .i64 (0), .bool (false), .int .i64 (0), .int .i64 (0), .bool (false), .string (⟨#[]⟩), .string (⟨#[]⟩), .string (⟨#[]⟩), .string (⟨#[]⟩), .string (⟨#[]⟩), .string (⟨#[]⟩), .int .i64 (0), .bool (false), .int .i64 (0), .int .i64 (0), .int .i64 (0)] : Array Value).all (·.oneCell') = true := by simp [Value.oneCell']
          have hm18 : m5.arr.all (·.oneCell') = true := by unfold Mg.arr; simp [Value.oneCell']
          have hmsz : m5.arr.size ≤ 18 := Nat.le_refl 18
          have HMS := Lib.hid hmsz
          have HSA := Lib.hid (show setAll #[.int .i64 (0), .int .i64 (0), .int .i64 (0), .bool (false), .int .i64 (0), .int .i64 (0), .bool (false), .string (⟨#[]⟩), .string (⟨#[]⟩), .string (⟨#[]⟩), .string (⟨#[]⟩), .string (⟨#[]⟩), .string (⟨#[]⟩), .int .i64 (0), .bool (false), .int .i64 (0), .int .i64 (0), .int .i64 (0)] 0 m5.arr.toList = m5.arr from setAll_arr m5)
          have infoM5 : (Tryd.prog.info? 27).map (·.size) = some m5.arr.size := infoM
          have HBr2 := Lib.hid hBr
          have HBm := Lib.hid hbm
          have H18 := Lib.hid hg18
          have H18m := Lib.hid hm18
          have HI5 := Lib.hid infoM5
          have Hs5 := Lib.hid hs5'
          have HBc := Lib.hid hBc
          clear hcut hbx hbm hBr hBc hbl2 hfin hRd hmI hm5 hs5 hs5' HT HM HN HY HE HX hg18 hm18 hmsz infoM5 hq0 f q
          rw [show m5.val = .agg m5.arr from rfl] at HRt
          generalize m5.arr = ma at *
          rcases b with _ | _
          · by_cases hpn : p = n
            · subst hpn
              go_wp2_with (first | (go_guarded; refine box_load HBm.out 27 (.tmp 7) rfl rfl _ Tryd.underlying27 rfl HI5.out ?_))
              refine (HRt.out _).mono ?_
              rintro e w9 ⟨rfl, hb9⟩
              have HBr9 := Lib.hid (HBr2.out.on hb9)
              have HBm9 := Lib.hid (HBm.out.on hb9)
              have HBc9 := Lib.hid (HBc.out.trans (hb9.mono HBc.out.size))
              clear HRt
              rcases hmb : msgB m5 with _ | _
              · have ⟨g1, g2⟩ := HF.out (fun h => by have h3 := h.2.2; rw [hmb] at h3; cases h3)
                go_wp2_with (first | (refine box_store rfl 27 (.tmp 2) (.tmp 97) rfl #[.int .i64 (0), .int .i64 (0), .int .i64 (0), .bool (false), .int .i64 (0), .int .i64 (0), .bool (false), .string (⟨#[]⟩), .string (⟨#[]⟩), .string (⟨#[]⟩), .string (⟨#[]⟩), .string (⟨#[]⟩), .string (⟨#[]⟩), .int .i64 (0), .bool (false), .int .i64 (0), .int .i64 (0), .int .i64 (0)] rfl rfl HBr9.out (Nat.le_refl 18) infoM H18.out ?_; intro wz hz hzb))
                simp [setAll] at hz
                refine bodyPost_ret (results_cell_tmp (p := 2) (u := 3) (ty := 27) Tryd.results6 _ _ w.heap.size 27 #[.int .i64 (0), .int .i64 (0), .int .i64 (0), .bool (false), .int .i64 (0), .int .i64 (0), .bool (false), .string (⟨#[]⟩), .string (⟨#[]⟩), .string (⟨#[]⟩), .string (⟨#[]⟩), .string (⟨#[]⟩), .string (⟨#[]⟩), .int .i64 (0), .bool (false), .int .i64 (0), .int .i64 (0), .int .i64 (0)] (0, 0) _ rfl hz Tryd.underlying27 rfl infoM) rfl ?_
                exact ⟨by rw [g1, g2]; rfl, hzb _ _ (Nat.le_refl _) HBc9.out⟩
              · have ⟨g1, g2⟩ := HG.out (by rw [Hs5.out]; rfl) (by rw [Hs5.out]; exact List.drop_eq_nil_of_le (by omega)) hmb
                go_wp2_with (first | (refine wpList_load_row rfl 27 (.tmp 7) rfl (w1.heap.size + 1) rfl 27 ma (0, 0) _ HBm9.out Tryd.underlying27 rfl HI5.out ?_) | (refine box_store rfl 27 (.tmp 2) (.tmp 98) rfl ma rfl rfl HBr9.out HMS.out HI5.out H18m.out ?_; intro wz hz hzb))
                rw [HSA.out] at hz
                refine bodyPost_ret (results_cell_tmp (p := 2) (u := 3) (ty := 27) Tryd.results6 _ _ w.heap.size 27 ma (0, 0) _ rfl hz Tryd.underlying27 rfl HI5.out) rfl ?_
                exact ⟨by rw [g1, g2]; rfl, hzb _ _ (Nat.le_refl _) HBc9.out⟩
            · have hne : ((p : Int) != (n : Int)) = true := by rw [bne_iff_ne]; omega
              have ⟨g1, g2⟩ := HF.out (fun h => by have h2 := h.2.1; rw [Hs5.out] at h2; have := congrArg List.length h2; simp at this; omega)
              go_wp2_with (first | (refine box_store rfl 27 (.tmp 2) (.tmp 97) rfl #[.int .i64 (0), .int .i64 (0), .int .i64 (0), .bool (false), .int .i64 (0), .int .i64 (0), .bool (false), .string (⟨#[]⟩), .string (⟨#[]⟩), .string (⟨#[]⟩), .string (⟨#[]⟩), .string (⟨#[]⟩), .string (⟨#[]⟩), .int .i64 (0), .bool (false), .int .i64 (0), .int .i64 (0), .int .i64 (0)] rfl rfl HBr2.out (Nat.le_refl 18) infoM H18.out ?_; intro wz hz hzb))
              simp [setAll] at hz
              refine bodyPost_ret (results_cell_tmp (p := 2) (u := 3) (ty := 27) Tryd.results6 _ _ w.heap.size 27 #[.int .i64 (0), .int .i64 (0), .int .i64 (0), .bool (false), .int .i64 (0), .int .i64 (0), .bool (false), .string (⟨#[]⟩), .string (⟨#[]⟩), .string (⟨#[]⟩), .string (⟨#[]⟩), .string (⟨#[]⟩), .string (⟨#[]⟩), .int .i64 (0), .bool (false), .int .i64 (0), .int .i64 (0), .int .i64 (0)] (0, 0) _ rfl hz Tryd.underlying27 rfl infoM) rfl ?_
              exact ⟨by rw [g1, g2]; rfl, hzb _ _ (Nat.le_refl _) HBc.out⟩
          · skip
            have ⟨g1, g2⟩ := HF.out (fun h => by have h2 := h.1; rw [Hs5.out] at h2; cases h2)
            go_wp2_with (first | (refine box_store rfl 27 (.tmp 2) (.tmp 97) rfl #[.int .i64 (0), .int .i64 (0), .int .i64 (0), .bool (false), .int .i64 (0), .int .i64 (0), .bool (false), .string (⟨#[]⟩), .string (⟨#[]⟩), .string (⟨#[]⟩), .string (⟨#[]⟩), .string (⟨#[]⟩), .string (⟨#[]⟩), .int .i64 (0), .bool (false), .int .i64 (0), .int .i64 (0), .int .i64 (0)] rfl rfl HBr2.out (Nat.le_refl 18) infoM H18.out ?_; intro wz hz hzb))
            simp [setAll] at hz
            refine bodyPost_ret (results_cell_tmp (p := 2) (u := 3) (ty := 27) Tryd.results6 _ _ w.heap.size 27 #[.int .i64 (0), .int .i64 (0), .int .i64 (0), .bool (false), .int .i64 (0), .int .i64 (0), .bool (false), .string (⟨#[]⟩), .string (⟨#[]⟩), .string (⟨#[]⟩), .string (⟨#[]⟩), .string (⟨#[]⟩), .string (⟨#[]⟩), .int .i64 (0), .bool (false), .int .i64 (0), .int .i64 (0), .int .i64 (0)] (0, 0) _ rfl hz Tryd.underlying27 rfl infoM) rfl ?_
            exact ⟨by rw [g1, g2]; rfl, hzb _ _ (Nat.le_refl _) HBc.out⟩
  · obtain ⟨ec, hpe, hne⟩ : ∃ ec, parseF bs = .error ec ∧ ec ≠ 0 := by
      cases hp : parseF bs with
      | error e => exact ⟨e, rfl, by rw [hp] at he; exact he⟩
      | ok l => rw [hp] at he; exact absurd rfl he
    have ⟨g1, g2⟩ := hbad.out ec hpe
    rw [show resE (parseF bs) = ec by rw [hpe]; rfl]
    have hnb : (ec != 0) = true := by rw [bne_iff_ne]; exact hne
    have hg18 : (#[.int .i64 (0), .int .i64 (0), .int .i64 (0), .bool (false), .int .i64 (0), .int .i64 (0), .bool (false), .string (⟨#[]⟩), .string (⟨#[]⟩), .string (⟨#[]⟩), .string (⟨#[]⟩), .string (⟨#[]⟩), .string (⟨#[]⟩), .int .i64 (0), .bool (false), .int .i64 (0), .int .i64 (0), .int .i64 (0)] : Array Value).all (·.oneCell') = true := by simp [Value.oneCell']
    have H18 := Lib.hid hg18
    clear hg18 hbad hsl
    go_wp2_with (first | (refine box_store rfl 27 (.tmp 2) (.tmp 17) rfl #[.int .i64 (0), .int .i64 (0), .int .i64 (0), .bool (false), .int .i64 (0), .int .i64 (0), .bool (false), .string (⟨#[]⟩), .string (⟨#[]⟩), .string (⟨#[]⟩), .string (⟨#[]⟩), .string (⟨#[]⟩), .string (⟨#[]⟩), .int .i64 (0), .bool (false), .int .i64 (0), .int .i64 (0), .int .i64 (0)] rfl rfl HBr.out (Nat.le_refl 18) infoM H18.out ?_; intro wz hz hzb))
    simp [setAll] at hz
    refine bodyPost_ret (results_cell_tmp (p := 2) (u := 3) (ty := 27) Tryd.results6 _ _ w.heap.size 27 #[.int .i64 (0), .int .i64 (0), .int .i64 (0), .bool (false), .int .i64 (0), .int .i64 (0), .bool (false), .string (⟨#[]⟩), .string (⟨#[]⟩), .string (⟨#[]⟩), .string (⟨#[]⟩), .string (⟨#[]⟩), .string (⟨#[]⟩), .int .i64 (0), .bool (false), .int .i64 (0), .int .i64 (0), .int .i64 (0)] (0, 0) _ rfl hz Tryd.underlying27 rfl infoM) rfl ?_
    exact ⟨by rw [g1, g2]; rfl, hzb _ _ (Nat.le_refl _) hB1⟩
end Go.Proofs.YtioagepalfiioaaDoor
