/-
  Layer 2's laws: the walk of FieldRight.
-/
import Derived.Test.YtbkihakccojknaaDoorLaw02
import Derived.Test.YtbkihakccojknaaDoorFieldOpen
import Derived.Deep.RegionHeld3
namespace Go.Proofs.YtbkihakccojknaaDoor
open Go.RowKit

theorem num_cases (l : List Fld) (tag : Int) : (getB l tag = false ∧ numFB l tag = false ∧ numFV l tag = 0 ∧ parseV (getV l tag).data.toList = 0) ∨
    (getB l tag = true ∧ numFB l tag = true ∧ numFV l tag = parseV (getV l tag).data.toList ∧ parseE (getV l tag).data.toList = 0) ∨
    (getB l tag = true ∧ numFB l tag = false ∧ numFV l tag = 0 ∧ parseV (getV l tag).data.toList = 0 ∧ ¬ parseE (getV l tag).data.toList = 0) := by
  have hno : ∀ l : List Fld, getB l tag = false → getV l tag = ByteArray.empty := by
    intro l
    induction l with
    | nil => intro _; rfl
    | cons f r ih =>
      intro h
      by_cases hf : f.tag = tag
      · simp [getB, hf] at h
      · simp only [getB, getV, hf, if_false] at h ⊢
        exact ih h
  rcases Bool.eq_false_or_eq_true (getB l tag) with hb | hb
  · right
    by_cases hx : parseE (getV l tag).data.toList = 0
    · left; exact ⟨hb, by simp [numFB, hb, hx], by simp [numFV, hb], hx⟩
    · right
      have hz := parseV_zero hx
      exact ⟨hb, by simp [numFB, hx], by simp [numFV, hz], hz, hx⟩
  · left
    exact ⟨hb, by simp [numFB, hb], by simp [numFV, hb], by rw [hno l hb]; rfl⟩
theorem getV_le (l : List Fld) (tag : Int) (h : ∀ f ∈ l, f.val.size ≤ 300) : (getV l tag).size ≤ 300 := by
  induction l with
  | nil => show (0 : Nat) ≤ 300; omega
  | cons f r ih =>
    unfold getV
    split
    · exact h f (by simp)
    · exact ih fun x hx => h x (by simp [hx])
set_option maxRecDepth 100000 in
set_option maxHeartbeats 2000000 in
theorem walk_FieldRight (A : Option Addr) (n c : Nat) (l : List Fld) (hn : l.length = n) (tag : Int) (t0 : -9223372036854775808 ≤ tag) (t1 : tag ≤ 9223372036854775807) (w : World) (h : Sl w A n c 2 (fcells l)) (hq : ∀ f ∈ l, FldIn f) (hctx : FCtx w) :
    Calls Tryd.prog 3 #[.slice A n c, .int .i64 tag] w fun e w' => e = .returned (.bool true) ∧ Below w.heap.size w w' := by
  have hcm := h.cap
  have hnc := h.le
  unfold maxLen at hcm
  have HR := Lib.hid h.row
  have HQ := Lib.hid hq
  have hshort : Hid (∀ W, Below w.heap.size w W → Calls Tryd.prog 8 #[.slice A n c] W fun e w' => e = .returned (.bool (shortB l)) ∧ W = w') := fun W hW => by
    have := ref_Short A c l W (HR.out.on hW) (by unfold maxLen; omega) (fun f hf => (HQ.out f hf).2)
    rwa [hn] at this
  clear h hq
  rcases Bool.eq_false_or_eq_true (shortB l) with hs | hs
  · rw [hs] at hshort
    simp only [shortB, Bool.and_eq_true, decide_eq_true_eq, List.all_eq_true] at hs
    obtain ⟨hl, hv⟩ := hs
    have hput : Hid (∀ W, Below w.heap.size w W → Calls Tryd.prog 9 #[.slice A n c] W (PutPost l W)) := fun W hW => by
      have := field_Put A c l W (HR.out.on hW) (fun f hf => by have := hv f hf; omega) (by omega) (hctx.on hW)
      rwa [hn] at this
    have hrput : Hid (∀ W, Below w.heap.size w W → Calls Tryd.prog 10 #[.slice A n c] W (PutPost l W)) := fun W hW => by
      have := ref_FPut A c l W (HR.out.on hW) (fun f hf => by have := hv f hf; omega) (by omega)
      rwa [hn] at this
    have hget : Hid (∀ W, Below w.heap.size w W → Calls Tryd.prog 11 #[.slice A n c, .int .i64 tag] W fun e w' => e = .returned (.tuple #[.string (getV l tag), .bool (getB l tag)]) ∧ Below W.heap.size W w') := fun W hW => by
      have := field_Get A c l tag W (HR.out.on hW) (by omega)
      rwa [hn] at this
    have hrget : Hid (∀ W, Below w.heap.size w W → Calls Tryd.prog 12 #[.slice A n c, .int .i64 tag] W fun e w' => e = .returned (.tuple #[.string (getV l tag), .bool (getB l tag)]) ∧ W = w') := fun W hW => by
      have := ref_FGet A c l tag W (HR.out.on hW) (by omega)
      rwa [hn] at this
    have hgl := getV_le l tag hv
    have hnum : Hid (∀ W, Below w.heap.size w W → Calls Tryd.prog 13 #[.slice A n c, .int .i64 tag] W fun e w' => e = .returned (.tuple #[.int .i64 (numFV l tag), .bool (numFB l tag)]) ∧ Below W.heap.size W w') := fun W hW => by
      have := field_Num A c l tag W (HR.out.on hW) (by omega) (by omega) (hctx.on hW)
      rwa [hn] at this
    have hpar : Hid (∀ W, Calls Tryd.prog 14 #[.string (getV l tag)] W fun e w' => e = .returned (.tuple #[.int .i64 (parseV (getV l tag).data.toList), .int .i64 (parseE (getV l tag).data.toList)]) ∧ W = w') := fun W =>
      ref_Parse (getV l tag) (by unfold maxLen; omega) W
    have hcs := num_cases l tag
    clear hgl
    generalize numFV l tag = nv at *
    generalize numFB l tag = nb at *
    generalize parseV (getV l tag).data.toList = m at *
    generalize parseE (getV l tag).data.toList = x at *
    generalize getV l tag = g at *
    generalize getB l tag = gb at *
    have Hn := Lib.hid hn; clear hn
    have HV := Lib.hid hv; clear hv
    have hl110 : n ≤ 110 := by have := Hn.out; omega
    have Hcs := Lib.hid hcs; clear hcs
    go_enter Tryd.func3, Tryd.ntmps3
    go_wp2_with (first | (go_at_call 7; refine (awake02 _ hctx).mono ?_; rintro e w1 ⟨rfl, hb1⟩) | (go_at_call 8; refine (hshort.out _ hb1).mono ?_; rintro e w' ⟨rfl, rfl⟩))
    refine (hput.out _ hb1).mono ?_
    rintro e w2 ⟨A2, n2, c2, rfl, hs2, hb2, fm2⟩
    have hB2 : Below w.heap.size w w2 := hb1.trans (hb2.mono hb1.size)
    go_wp2_with fail
    refine (hrput.out _ hB2).mono ?_
    rintro e w3 ⟨A3, n3, c3, rfl, hs3, hb3, fm3⟩
    have hB3 : Below w.heap.size w w3 := hB2.trans (hb3.mono hB2.size)
    go_wp2_with fail
    refine (hget.out _ hB3).mono ?_
    rintro e w4 ⟨rfl, hb4⟩
    have hB4 : Below w.heap.size w w4 := hB3.trans (hb4.mono hB3.size)
    go_wp2_with (go_at_call 12; refine (hrget.out _ hB4).mono ?_; rintro e w' ⟨rfl, rfl⟩)
    refine (hnum.out _ hB4).mono ?_
    rintro e w5 ⟨rfl, hb5⟩
    have hB5 : Below w.heap.size w w5 := hB4.trans (hb5.mono hB4.size)
    have hs2' := ((hs2.on hb3).on hb4).on hb5
    have hs3' := (hs3.on hb4).on hb5
    have hn2 : n2 = (putV l).length := by have := hs2.len; rw [bcells_len] at this; omega
    have hn3 : n3 = (putV l).length := by have := hs3.len; rw [bcells_len] at this; omega
    generalize putV l = q at *
    generalize putE l = pe at *
    subst hn2
    have Hn3 := Lib.hid hn3; clear hn3
    clear hs2 hs3 hb2 hb3 hb4 hb5 hshort hput hrput hget hrget hnum hB2 hB3 hB4
    go_upto_region 11 with (go_at_call 14; refine (hpar.out _).mono ?_; rintro e w' ⟨rfl, rfl⟩)
    go_cut [78] (fun s wx => s = .bool false ∧ wx = w5)
    case first =>
      rcases Hcs.out with ⟨rfl, rfl, rfl, rfl⟩ | ⟨rfl, rfl, rfl, rfl⟩ | ⟨rfl, rfl, rfl, rfl, hx⟩
      · go_wp2
        go_meet
        case rel => exact ⟨rfl, rfl⟩
      · go_wp2
        go_meet
        case rel => exact ⟨rfl, rfl⟩
      · have hx1 : (x == 0) = false := by simp [hx]
        clear hx
        go_wp2
        go_meet
        case rel => exact ⟨rfl, rfl⟩
    case rest =>
      obtain ⟨rfl, rfl⟩ := hcut
      clear Hcs hpar
      have hq2 : A2 = none → q = [] := fun e => List.eq_nil_of_length_eq_zero (hs2'.nil e).1
      have hq3 : A3 = none → q = [] := fun e => List.eq_nil_of_length_eq_zero (by have := (hs3'.nil e).1; have := Hn3.out; omega)
      have Hconv : Hid (∀ W, Below wc.heap.size wc W → (convert 25 9 (.slice A2 q.length c2)).run Tryd.prog W = .ok (.string ⟨q.toArray⟩) W ∧ (convert 25 9 (.slice A3 n3 c3)).run Tryd.prog W = .ok (.string ⟨q.toArray⟩) W) := fun W hW =>
        ⟨conv_row (hs2'.row.on hW) hq2 (fun _ => fm2) q.length c2 rfl, conv_row (hs3'.row.on hW) hq3 (fun _ => fm3) n3 c3 Hn3.out⟩
      clear hs2' hs3' hq2 hq3 fm2 fm3
      go_wp2
      go_loopw [17] (fun i wr => ∃ k : Nat, k ≤ n ∧ i = .int .i64 k ∧ Below wc.heap.size wc wr) (fun i _ => n - (intOf i).toNat)
      case atStart => exact ⟨0, Nat.zero_le _, rfl, Below.refl _ _⟩
      case round =>
        obtain ⟨k, hk, rfl, hb⟩ := hrel
        have hBr : Below w.heap.size w wr := hB5.trans (hb.mono hB5.size)
        by_cases hlt : k < n
        · have hlt' : k < l.length := by rw [Hn.out]; exact hlt
          obtain ⟨b, off, rfl, g0, g1⟩ := HR.out.fld hlt'
          have hbw := cell_lt g0
          have hsz := HV.out _ (List.getElem_mem hlt')
          have hcl : Hid (∀ W, Below w.heap.size w W → W.cell? ⟨b, off + k * 2, none⟩ = some (.int .i64 l[k].tag) ∧ W.cell? ⟨b, off + k * 2 + 1, none⟩ = some (.string l[k].val)) :=
            fun W hW => ⟨(hW.cell (p := ⟨b, _, none⟩) hbw).trans g0, (hW.cell (p := ⟨b, _, none⟩) hbw).trans g1⟩
          have hr1 : Hid (∀ W, Below wc.heap.size wc W → Calls Tryd.prog 15 #[.agg #[.int .i64 l[k].tag, .string l[k].val]] W fun e w' => e = .returned (.bool l[k].right) ∧ w'.cell? ⟨b, off + k * 2, none⟩ = some (.int .i64 l[k].tag) ∧ w'.cell? ⟨b, off + k * 2 + 1, none⟩ = some (.string l[k].val) ∧ Below wc.heap.size wc w') := fun W hW =>
            (field_Right l[k] (by unfold maxLen; omega) W).mono fun e w' ⟨he, h⟩ => by
              have h2 := hW.trans (h.mono hW.size)
              have ⟨q0, q1⟩ := hcl.out w' (hB5.trans (h2.mono hB5.size))
              exact ⟨he, q0, q1, h2⟩
          have hr2 : Hid (∀ W, Below wc.heap.size wc W → Calls Tryd.prog 16 #[.agg #[.int .i64 l[k].tag, .string l[k].val]] W fun e w' => e = .returned (.bool l[k].right) ∧ w'.cell? ⟨b, off + k * 2, none⟩ = some (.int .i64 l[k].tag) ∧ w'.cell? ⟨b, off + k * 2 + 1, none⟩ = some (.string l[k].val) ∧ Below wc.heap.size wc w') := fun W hW =>
            (ref_FRight l[k].tag l[k].val (by unfold maxLen; omega) W).mono fun e w' ⟨he, h⟩ => by
              have h2 := hW.trans (h.mono hW.size)
              have ⟨q0, q1⟩ := hcl.out w' (hB5.trans (h2.mono hB5.size))
              exact ⟨he, q0, q1, h2⟩
          have ⟨h0, h1⟩ := hcl.out wr hBr
          clear g0 g1 hcl hbw hsz
          generalize l[k].tag = t at *
          generalize l[k].val = s at *
          generalize l[k].right = r at *
          have hki : (0 : Int) ≤ (k : Int) := by omega
          have hkl : (k : Int) < (n : Int) := by omega
          go_wp2
          go_region_held3 (fun w' => w'.cell? ⟨b, off + k * 2, none⟩ = some (.int .i64 t) ∧ w'.cell? ⟨b, off + k * 2 + 1, none⟩ = some (.string s) ∧ Below wc.heap.size wc w') (first | (exact ⟨h0, h1, hb.drew⟩) | (exact ⟨by assumption, by assumption, by assumption⟩) | go_keep) (first | (go_at_call 15; refine (hr1.out _ (by first | assumption | exact hb.drew)).mono ?_; rintro e w' ⟨rfl, hx, hy, hbb⟩) | (go_at_call 16; refine (hr2.out _ (by first | assumption | exact hb.drew)).mono ?_; rintro e w' ⟨rfl, hx, hy, hbb⟩))
          all_goals
            go_wp2
            go_roundw
            case rel => exact ⟨k + 1, by omega, by go_num, by assumption⟩
            case measure => simp [intOf]; omega
        · obtain rfl : k = n := by omega
          have ⟨k1, k2⟩ := Hconv.out wr hb
          go_wp2
          go_ret
          exact ⟨rfl, hBr⟩
  · rw [hs] at hshort
    clear hs
    go_enter Tryd.func3, Tryd.ntmps3
    go_wp2_with (first | (go_at_call 7; refine (awake02 _ hctx).mono ?_; rintro e w1 ⟨rfl, hb1⟩) | (go_at_call 8; refine (hshort.out _ hb1).mono ?_; rintro e w' ⟨rfl, rfl⟩))
    go_ret
    exact ⟨rfl, hb1⟩
end Go.Proofs.YtbkihakccojknaaDoor
