/-
  Layer 2, field: the contracts of read and Num.
-/
import Derived.Test.YtcfpchcbiknehaaDoorRField
import Derived.Test.YtcfpchcbiknehaaDoorRFieldText
import Derived.WalkLawsBesides
import Derived.Handy
namespace Go.Proofs.YtcfpchcbiknehaaDoorR
open Go.RowKit

/-- What layer 2's walks lean on: layer 1's, and the library's own variable of package bytealg. -/
def FCtx (w : World) : Prop := Ctx w ∧ 0 < w.heap.size ∧ ∃ m, w.cell? ⟨0, 0, none⟩ = some (.int .i64 m)
theorem FCtx.on {w w' : World} (h : FCtx w) (hb : Below w.heap.size w w') : FCtx w' := by
  obtain ⟨h1, h2, m, h3⟩ := h
  have hz := hb.size
  exact ⟨h1.on hb, by omega, m, (hb.cell (p := ⟨0, 0, none⟩) h2).trans h3⟩
def readV (t : List UInt8) : Fld := (readF t).getD ⟨0, ⟨#[]⟩⟩
def readB (t : List UInt8) : Bool := (readF t).isSome
theorem readF_none {t : List UInt8} (h : readF t = none) : readV t = ⟨0, ⟨#[]⟩⟩ ∧ readB t = false := by simp [readV, readB, h]
theorem readF_get {t : List UInt8} {f : Fld} (h : readF t = some f) : readV t = f ∧ readB t = true := by simp [readV, readB, h]

def numFV (l : List Fld) (tag : Int) : Int := if getB l tag then parseV (getV l tag).data.toList else 0
def numFB (l : List Fld) (tag : Int) : Bool := getB l tag && decide (parseE (getV l tag).data.toList = 0)
theorem cutEq (s : ByteArray) (hs : s.size ≤ 1000000) (w : World) (hctx : FCtx w) : Calls Tryd.prog 50 #[.string s, .string ⟨#[61]⟩] w fun e w' =>
    e = .returned (.tuple #[.string ⟨(Lib.cut s.data.toList [61]).1.toArray⟩, .string ⟨(Lib.cut s.data.toList [61]).2.1.toArray⟩, .bool (Lib.cut s.data.toList [61]).2.2]) ∧ Below w.heap.size w w' := by
  obtain ⟨_, _, m, hm⟩ := hctx
  exact (Tryd.strings_Cut s ⟨#[61]⟩ m w (by omega) hm).mono fun _ _ ⟨he, n, hw⟩ => ⟨he, by subst hw; exact ⟨rfl, rfl, rfl, Nat.le_refl _, fun _ _ => rfl⟩⟩
theorem size_mk (l : List UInt8) : (ByteArray.mk l.toArray).size = l.length := by show l.toArray.size = _; simp

def ReadPost (s : ByteArray) (w : World) (e : Ending) (w' : World) : Prop :=
  e = .returned (.tuple #[.agg #[.int .i64 (readV s.data.toList).tag, .string (readV s.data.toList).val], .bool (readB s.data.toList)]) ∧ Below w.heap.size w w'
theorem field_read (s : ByteArray) (hs : s.size ≤ 1000000) (w : World) (hctx : FCtx w) : Calls Tryd.prog 34 #[.string s] w (ReadPost s w) := by
  have hcut : Hid (∀ w, FCtx w → Calls Tryd.prog 50 #[.string s, .string ⟨#[61]⟩] w fun e w' =>
    e = .returned (.tuple #[.string ⟨(Lib.cut s.data.toList [61]).1.toArray⟩, .string ⟨(Lib.cut s.data.toList [61]).2.1.toArray⟩, .bool (Lib.cut s.data.toList [61]).2.2]) ∧ Below w.heap.size w w') := fun w h => cutEq s hs w h
  have hsl : s.data.toList.length = s.size := by simp
  rw [index_split] at hcut
  cases hsp : split1 61 s.data.toList with
  | none =>
    rw [hsp] at hcut
    simp only at hcut
    have ⟨v1, v2⟩ := readF_none (t := s.data.toList) (by simp [readF, hsp])
    have hP : ∀ e w', e = .returned (.tuple #[.agg #[.int .i64 0, .string ⟨#[]⟩], .bool false]) ∧ Below w.heap.size w w' → ReadPost s w e w' := fun e w' h => by
      unfold ReadPost; rw [v1, v2]; exact h
    have HP := Lib.hid hP
    clear hP v1 v2 hsp
    go_enter Tryd.func34, Tryd.ntmps34
    go_wp2_with fail
    refine (hcut.out _ (hctx.on ((Below.refl _ _).alloc (Nat.le_refl _) _))).mono ?_
    rintro e w1 ⟨rfl, hb1⟩
    (obtain ⟨hc1, hf1⟩ := bcell hb1; have hz1 := hb1.size; (repeat (first | rw [World.size_alloc] at hz1 | rw [World.size_setCell] at hz1 | rw [World.size_drew] at hz1)); have hB1 : Below w.heap.size w w1 := Below.trans (by go_grown) (hb1.mono (by go_size)))
    go_wp2
    refine bodyPost_ret (v := .tuple #[.agg #[.int .i64 0, .string ⟨#[]⟩], .bool false]) (by simp [results, Tryd.results34, go_sem, hc1]) rfl ?_
    exact HP.out _ _ ⟨rfl, by go_grown⟩
  | some p =>
    obtain ⟨a, v⟩ := p
    have ⟨e1, e2⟩ := split1_some hsp
    have hav : a.length + v.length + 1 = s.size := by rw [← hsl, e1]; simp; omega
    rw [hsp] at hcut
    simp only at hcut
    have hread : readF s.data.toList = if parseE a = 0 ∧ rightT (parseV a) = true ∧ rightV v = true then some ⟨parseV a, ⟨v.toArray⟩⟩ else none := by simp [readF, hsp]
    have hpar : Hid (∀ w, FCtx w → Calls Tryd.prog 51 #[.string ⟨a.toArray⟩] w fun e w' => e = .returned (.tuple #[.int .i64 (parseV a), .int .i64 (parseE a)]) ∧ Below w.heap.size w w') := fun w h =>
      num_Parse ⟨a.toArray⟩ (by rw [size_mk]; unfold maxLen; omega) w h.1
    have hval : Hid (∀ w, Calls Tryd.prog 53 #[.string ⟨v.toArray⟩] w fun e w' => e = .returned (.bool (rightV v)) ∧ w = w') := fun w =>
      field_rightValue ⟨v.toArray⟩ (by rw [size_mk]; unfold maxLen; omega) w
    have hno : ¬ (parseE a = 0 ∧ rightT (parseV a) = true ∧ rightV v = true) → ∀ e w', e = .returned (.tuple #[.agg #[.int .i64 0, .string ⟨#[]⟩], .bool false]) ∧ Below w.heap.size w w' → ReadPost s w e w' := fun h e w' hh => by
      have ⟨v1, v2⟩ := readF_none (hread.trans (if_neg h))
      unfold ReadPost; rw [v1, v2]; exact hh
    have hyes : parseE a = 0 ∧ rightT (parseV a) = true ∧ rightV v = true → ∀ e w', e = .returned (.tuple #[.agg #[.int .i64 (parseV a), .string ⟨v.toArray⟩], .bool true]) ∧ Below w.heap.size w w' → ReadPost s w e w' := fun h e w' hh => by
      have ⟨v1, v2⟩ := readF_get (hread.trans (if_pos h))
      unfold ReadPost; rw [v1, v2]; exact hh
    clear hread e1 e2 hsp hsl hav
    have Hno := Lib.hid hno
    have Hyes := Lib.hid hyes
    clear hno hyes
    have htag := field_rightTag (parseV a)
    generalize parseE a = pe at *
    generalize parseV a = pv at *
    generalize rightT pv = rt at *
    generalize rightV v = rv at *
    have Htag := Lib.hid htag; clear htag
    by_cases hpe : pe = 0
    · subst hpe
      rcases rt with _ | _
      · have HP := Lib.hid (Hno.out (by simp)); clear Hno Hyes
        go_enter Tryd.func34, Tryd.ntmps34
        go_wp2_with fail
        refine (hcut.out _ (hctx.on ((Below.refl _ _).alloc (Nat.le_refl _) _))).mono ?_
        rintro e w1 ⟨rfl, hb1⟩
        (obtain ⟨hc1, hf1⟩ := bcell hb1; have hz1 := hb1.size; (repeat (first | rw [World.size_alloc] at hz1 | rw [World.size_setCell] at hz1 | rw [World.size_drew] at hz1)); have hB1 : Below w.heap.size w w1 := Below.trans (by go_grown) (hb1.mono (by go_size)))
        go_wp2_with (first | (go_at_call 51; refine (hpar.out _ (hctx.on hB1)).mono ?_; rintro e w2 ⟨rfl, hb2⟩))
        (obtain ⟨hc2, hf2⟩ := bcell hb2; have hz2 := hb2.size; (repeat (first | rw [World.size_alloc] at hz2 | rw [World.size_setCell] at hz2 | rw [World.size_drew] at hz2)); have hB2 : Below w.heap.size w w2 := Below.trans (by go_grown) (hb2.mono (by go_size)))
        have hlt1 : w.heap.size < w1.heap.size := by omega
        go_wp2_with (go_at_call 52; refine (Htag.out _).mono ?_; rintro e w3 ⟨rfl, rfl⟩)
        refine bodyPost_ret (v := .tuple #[.agg #[.int .i64 0, .string ⟨#[]⟩], .bool false]) (by simp [results, Tryd.results34, go_sem, hc2, hc1, hlt1]) rfl ?_
        exact HP.out _ _ ⟨rfl, by go_grown⟩
      · rcases rv with _ | _
        · have HP := Lib.hid (Hno.out (by simp)); clear Hno Hyes
          go_enter Tryd.func34, Tryd.ntmps34
          go_wp2_with fail
          refine (hcut.out _ (hctx.on ((Below.refl _ _).alloc (Nat.le_refl _) _))).mono ?_
          rintro e w1 ⟨rfl, hb1⟩
          (obtain ⟨hc1, hf1⟩ := bcell hb1; have hz1 := hb1.size; (repeat (first | rw [World.size_alloc] at hz1 | rw [World.size_setCell] at hz1 | rw [World.size_drew] at hz1)); have hB1 : Below w.heap.size w w1 := Below.trans (by go_grown) (hb1.mono (by go_size)))
          go_wp2_with (first | (go_at_call 51; refine (hpar.out _ (hctx.on hB1)).mono ?_; rintro e w2 ⟨rfl, hb2⟩))
          (obtain ⟨hc2, hf2⟩ := bcell hb2; have hz2 := hb2.size; (repeat (first | rw [World.size_alloc] at hz2 | rw [World.size_setCell] at hz2 | rw [World.size_drew] at hz2)); have hB2 : Below w.heap.size w w2 := Below.trans (by go_grown) (hb2.mono (by go_size)))
          have hlt1 : w.heap.size < w1.heap.size := by omega
          go_wp2_with (first | (go_at_call 52; refine (Htag.out _).mono ?_; rintro e w3 ⟨rfl, rfl⟩) | (go_at_call 53; refine (hval.out _).mono ?_; rintro e w3 ⟨rfl, rfl⟩))
          refine bodyPost_ret (v := .tuple #[.agg #[.int .i64 0, .string ⟨#[]⟩], .bool false]) (by simp [results, Tryd.results34, go_sem, hc2, hc1, hlt1]) rfl ?_
          exact HP.out _ _ ⟨rfl, by go_grown⟩
        · have HP := Lib.hid (Hyes.out (by simp)); clear Hno Hyes
          go_enter Tryd.func34, Tryd.ntmps34
          go_wp2_with fail
          refine (hcut.out _ (hctx.on ((Below.refl _ _).alloc (Nat.le_refl _) _))).mono ?_
          rintro e w1 ⟨rfl, hb1⟩
          (obtain ⟨hc1, hf1⟩ := bcell hb1; have hz1 := hb1.size; (repeat (first | rw [World.size_alloc] at hz1 | rw [World.size_setCell] at hz1 | rw [World.size_drew] at hz1)); have hB1 : Below w.heap.size w w1 := Below.trans (by go_grown) (hb1.mono (by go_size)))
          go_wp2_with (first | (go_at_call 51; refine (hpar.out _ (hctx.on hB1)).mono ?_; rintro e w2 ⟨rfl, hb2⟩))
          (obtain ⟨hc2, hf2⟩ := bcell hb2; have hz2 := hb2.size; (repeat (first | rw [World.size_alloc] at hz2 | rw [World.size_setCell] at hz2 | rw [World.size_drew] at hz2)); have hB2 : Below w.heap.size w w2 := Below.trans (by go_grown) (hb2.mono (by go_size)))
          have hlt1 : w.heap.size < w1.heap.size := by omega
          go_wp2_with (first | (go_at_call 52; refine (Htag.out _).mono ?_; rintro e w3 ⟨rfl, rfl⟩) | (go_at_call 53; refine (hval.out _).mono ?_; rintro e w3 ⟨rfl, rfl⟩))
          refine bodyPost_ret (v := .tuple #[.agg #[.int .i64 pv, .string ⟨v.toArray⟩], .bool true]) (by simp [results, Tryd.results34, go_sem, hc2, hc1, hlt1]) rfl ?_
          exact HP.out _ _ ⟨rfl, by go_grown⟩
    · have HP := Lib.hid (Hno.out (by simp [hpe])); clear Hno Hyes
      have e0 : (pe == 0) = false := by simp [hpe]
      have e1 : (pe != 0) = true := by simp [hpe]
      clear hpe
      go_enter Tryd.func34, Tryd.ntmps34
      go_wp2_with fail
      refine (hcut.out _ (hctx.on ((Below.refl _ _).alloc (Nat.le_refl _) _))).mono ?_
      rintro e w1 ⟨rfl, hb1⟩
      (obtain ⟨hc1, hf1⟩ := bcell hb1; have hz1 := hb1.size; (repeat (first | rw [World.size_alloc] at hz1 | rw [World.size_setCell] at hz1 | rw [World.size_drew] at hz1)); have hB1 : Below w.heap.size w w1 := Below.trans (by go_grown) (hb1.mono (by go_size)))
      go_wp2_with fail
      refine (hpar.out _ (hctx.on hB1)).mono ?_
      rintro e w2 ⟨rfl, hb2⟩
      (obtain ⟨hc2, hf2⟩ := bcell hb2; have hz2 := hb2.size; (repeat (first | rw [World.size_alloc] at hz2 | rw [World.size_setCell] at hz2 | rw [World.size_drew] at hz2)); have hB2 : Below w.heap.size w w2 := Below.trans (by go_grown) (hb2.mono (by go_size)))
      have hlt1 : w.heap.size < w1.heap.size := by omega
      go_wp2
      refine bodyPost_ret (v := .tuple #[.agg #[.int .i64 0, .string ⟨#[]⟩], .bool false]) (by simp [results, Tryd.results34, go_sem, hc2, hc1, hlt1]) rfl ?_
      exact HP.out _ _ ⟨rfl, by go_grown⟩
theorem field_Num (A : Option Addr) (c : Nat) (l : List Fld) (tag : Int) (w : World) (h : Row w A (fcells l)) (hl : l.length ≤ 1000000) (hv : (getV l tag).size ≤ 1000000) (hctx : FCtx w) :
    Calls Tryd.prog 60 #[.slice A l.length c, .int .i64 tag] w fun e w' => e = .returned (.tuple #[.int .i64 (numFV l tag), .bool (numFB l tag)]) ∧ Below w.heap.size w w' := by
  have hget : Hid (Calls Tryd.prog 59 #[.slice A l.length c, .int .i64 tag] w fun e w' => e = .returned (.tuple #[.string (getV l tag), .bool (getB l tag)]) ∧ Below w.heap.size w w') := field_Get A c l tag w h hl
  have Hd := Lib.hid (show (getB l tag = false → numFV l tag = 0 ∧ numFB l tag = false) ∧ (getB l tag = true → numFV l tag = parseV (getV l tag).data.toList ∧ numFB l tag = decide (parseE (getV l tag).data.toList = 0)) by
    constructor <;> intro h <;> simp [numFV, numFB, h])
  clear h
  generalize getV l tag = s at *
  generalize getB l tag = b at *
  rcases b with _ | _
  · have H := Lib.hid (Hd.out.1 rfl); clear Hd
    go_enter Tryd.func60, Tryd.ntmps60
    go_wp2_with (go_at_call 59; refine hget.out.mono ?_; rintro e w1 ⟨rfl, hb1⟩)
    go_ret2
    exact ⟨ret2 H.out.1.symm H.out.2.symm, hb1⟩
  · have H := Lib.hid (Hd.out.2 rfl); clear Hd
    have hpar : Hid (∀ w, FCtx w → Calls Tryd.prog 51 #[.string s] w fun e w' => e = .returned (.tuple #[.int .i64 (parseV s.data.toList), .int .i64 (parseE s.data.toList)]) ∧ Below w.heap.size w w') := fun w h =>
      num_Parse s (by unfold maxLen; omega) w h.1
    generalize parseV s.data.toList = pv at *
    generalize parseE s.data.toList = pe at *
    rcases (show ((pe == 0) = true ∧ decide (pe = 0) = true) ∨ ((pe == 0) = false ∧ decide (pe = 0) = false) by by_cases h : pe = 0 <;> simp [h]) with ⟨d, d2⟩ | ⟨d, d2⟩
    all_goals
      have D := Lib.hid d2; clear d2
      go_enter Tryd.func60, Tryd.ntmps60
      go_wp2_with (first | (go_at_call 59; refine hget.out.mono ?_; rintro e w1 ⟨rfl, hb1⟩) | (go_at_call 51; refine (hpar.out _ (hctx.on hb1)).mono ?_; rintro e w2 ⟨rfl, hb2⟩))
      go_ret2
      exact ⟨ret2 H.out.1.symm (H.out.2.trans D.out).symm, hb1.trans (hb2.mono hb1.size)⟩
end Go.Proofs.YtcfpchcbiknehaaDoorR
