/-
  Layer 7, sess: one session's talk, as functions: plain mathematics.
-/
import Derived.Test.YtblkdmbkkimbpaaMgR
import Derived.Test.YtblkdmbkkimbpaaReseqOrd2
namespace Go.Proofs.Ytblkdmbkkimbpaa

structure Ses where
  st : Int
  ln : Ln
  out : Int
  every : Int
  heard : Int
  said : Int
  asked : Int
  at_ : Int
  tested : Bool
def tmB (n : Int) : Bool := decide (0 ≤ n ∧ n ≤ 4611686018427387904)
def Ses.rightB (s : Ses) : Bool :=
  decide (0 ≤ s.st ∧ s.st ≤ 2) && (s.ln.rightB && (decide (1 ≤ s.out ∧ s.out ≤ 1099511627776) && (decide (1 ≤ s.every ∧ s.every ≤ 1048576) && (tmB s.heard && (tmB s.said && (tmB s.asked && tmB s.at_))))))
structure Ses.R (s : Ses) : Prop where
  st : 0 ≤ s.st ∧ s.st ≤ 2
  ln : s.ln.rightB = true
  out : 1 ≤ s.out ∧ s.out ≤ 1099511627776
  every : 1 ≤ s.every ∧ s.every ≤ 1048576
  heard : 0 ≤ s.heard ∧ s.heard ≤ 4611686018427387904
  said : 0 ≤ s.said ∧ s.said ≤ 4611686018427387904
  asked : 0 ≤ s.asked ∧ s.asked ≤ 4611686018427387904
  at_ : 0 ≤ s.at_ ∧ s.at_ ≤ 4611686018427387904
theorem Ses.right_iff {s : Ses} : s.rightB = true ↔ s.R := by
  unfold Ses.rightB tmB
  simp only [Bool.and_eq_true, decide_eq_true_eq]
  exact ⟨fun ⟨h1, h2, h3, h4, h5, h6, h7, h8⟩ => ⟨h1, h2, h3, h4, h5, h6, h7, h8⟩, fun ⟨h1, h2, h3, h4, h5, h6, h7, h8⟩ => ⟨h1, h2, h3, h4, h5, h6, h7, h8⟩⟩
def newS (every : Int) : Ses := ⟨0, ⟨1, []⟩, 1, every, 0, 0, 0, 0, false⟩
/-- It says a message. -/
def sayS (s : Ses) (m : Mg) (now : Int) : Ses × List Mg :=
  if 1099511627776 ≤ s.out then (s, []) else ({ s with out := s.out + 1, said := now }, [{ m with seq := s.out, time := now }])
def logonM (a : Int) : Mg := { Mg.zero with kind := 1, a := a }
def beatM (t : ByteArray) : Mg := { Mg.zero with kind := 2, text := t }
def testM : Mg := { Mg.zero with kind := 3, text := ⟨#[116]⟩ }
def resendM (a b : Int) : Mg := { Mg.zero with kind := 4, a := a, b := b }
/-- What answers a Resend from a on. -/
def resetM (a out now : Int) : Mg := { Mg.zero with kind := 5, seq := a, time := now, copy := true, a := out, gap := true }
/-- It asks. -/
def askS (s : Ses) (now : Int) : Ses × List Mg :=
  match s.ln.held with
  | [] => (s, [])
  | y :: _ => if s.st ≠ 2 ∨ s.ln.next ≤ s.asked then (s, [])
    else ({ (sayS s (resendM s.ln.next (min (y.fr - 1) (s.ln.next + 9))) now).1 with asked := min (y.fr - 1) (s.ln.next + 9), at_ := now }, (sayS s (resendM s.ln.next (min (y.fr - 1) (s.ln.next + 9))) now).2)
/-- The zero value: a session's variable before anything is stored in it; what is answered beside ErrState. -/
def zSes : Ses := ⟨0, ⟨0, []⟩, 0, 0, 0, 0, 0, 0, false⟩
noncomputable def connectS (s : Ses) (now : Int) : Ses × List Mg × Int :=
  if (s.rightB && tmB now) = false then (s, [], 1)
  else if s.st ≠ 0 then (zSes, [], 8)
  else ((sayS { s with st := 1, heard := now, asked := 0, tested := false } (logonM s.every) now).1, (sayS { s with st := 1, heard := now, asked := 0, tested := false } (logonM s.every) now).2, 0)
def itemM (m : Mg) : Itm := ⟨m.seq, if m.kind = 5 ∧ m.seq + 1 < m.a then m.a else m.seq + 1, m⟩
def hearS (s : Ses) (now : Int) : Ses := { s with st := 2, heard := now, tested := false }
/-- What a message asks for at once. -/
def replyS (s : Ses) (m : Mg) (now : Int) : Ses × List Mg :=
  if m.kind = 3 then sayS s (beatM m.text) now
  else if m.kind = 4 ∧ m.a < s.out then (s, [resetM m.a s.out now])
  else (s, [])
def tellS (l : List Itm) : List Mg := (l.filter fun y => decide (y.m.kind = 7)).map Itm.m
def lineS (s : Ses) (m : Mg) : Ses := { s with ln := (comeR s.ln (itemM m)).1 }
noncomputable def comeS (s : Ses) (m : Mg) (now : Int) : Ses × List Mg × List Mg × Bool × Int :=
  if (s.rightB && (msgB m && tmB now)) = false then (s, [], [], false, 1)
  else if s.st = 0 ∨ s.st = 1 ∧ m.kind ≠ 1 then (zSes, [], [], false, 8)
  else if m.kind = 5 ∧ m.gap = false then ({ hearS s now with st := 0 }, [], [], true, 0)
  else
    let p := replyS (hearS s now) m now
    let k := askS (lineS p.1 m) now
    (if m.kind = 6 then { k.1 with st := 0 } else k.1, p.2 ++ k.2, tellS (comeR p.1.ln (itemM m)).2.1, false, 0)
/-- It tests. -/
def testS (s : Ses) (now : Int) : Ses × List Mg :=
  if 2 * s.every ≤ now - s.heard ∧ s.tested = false then ({ (sayS s testM now).1 with tested := true }, (sayS s testM now).2) else (s, [])
def beatS (s : Ses) (now : Int) : Ses × List Mg := if s.every ≤ now - s.said then sayS s (beatM eS) now else (s, [])
def againS (s : Ses) (now : Int) : Ses × List Mg := if s.ln.held ≠ [] ∧ s.every ≤ now - s.at_ then askS { s with asked := 0 } now else (s, [])
noncomputable def tickS (s : Ses) (now : Int) : Ses × List Mg × Int :=
  if (s.rightB && tmB now) = false then (s, [], 1)
  else if s.st = 0 then (s, [], 0)
  else if 3 * s.every ≤ now - s.heard then ({ s with st := 0 }, [], 0)
  else if s.st = 1 then (s, [], 0)
  else
    let a := testS s now
    let b := beatS a.1 now
    let c := againS b.1 now
    (c.1, a.2 ++ b.2 ++ c.2, 0)
def dropS (s : Ses) : Ses := if s.rightB = true then { s with st := 0, ln := ⟨s.ln.next, []⟩ } else s

/-! ### The session stays right -/
theorem sayS_R {s : Ses} (h : s.R) (m : Mg) {now : Int} (hn : 0 ≤ now ∧ now ≤ 4611686018427387904) : (sayS s m now).1.R := by
  unfold sayS
  split
  · exact h
  · exact ⟨h.st, h.ln, ⟨by show 1 ≤ s.out + 1; have := h.out; omega, by show s.out + 1 ≤ _; omega⟩, h.every, h.heard, hn, h.asked, h.at_⟩
theorem right_next {l : Ln} (h : l.rightB = true) : 1 ≤ l.next ∧ l.next ≤ 2199023255552 := (rightB_iff.1 h).1
theorem right_head {l : Ln} (h : l.rightB = true) {y : Itm} {r : List Itm} (hl : l.held = y :: r) : l.next < y.fr ∧ y.fr < 2199023255552 := by
  obtain ⟨_, _, ha, hr⟩ := rightB_iff.1 h
  rw [hl] at ha hr
  rw [List.all_cons, Bool.and_eq_true] at ha
  rw [risingB_cons] at hr
  have := mayB_iff.1 ha.1
  exact ⟨hr.1, by omega⟩
theorem askS_R {s : Ses} (h : s.R) {now : Int} (hn : 0 ≤ now ∧ now ≤ 4611686018427387904) : (askS s now).1.R := by
  unfold askS
  split
  · exact h
  · rename_i y r hl
    split
    · exact h
    · have hs := sayS_R h (resendM s.ln.next (min (y.fr - 1) (s.ln.next + 9))) hn
      have h1 := right_next h.ln
      have h2 := right_head h.ln hl
      exact ⟨hs.st, hs.ln, hs.out, hs.every, hs.heard, hs.said, by show 0 ≤ min _ _ ∧ min _ _ ≤ _; omega, hn⟩
theorem comeR_right {l : Ln} (h : l.rightB = true) (x : Itm) : (comeR l x).1.rightB = true := by
  rcases hm : x.mayB with _ | _
  · rw [come_no (by rw [h, hm]; rfl)]; exact h
  · exact (come_spec h hm).1
end Go.Proofs.Ytblkdmbkkimbpaa
