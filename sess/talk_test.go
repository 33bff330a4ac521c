package sess_test

import (
	"math/rand"
	"slices"
	"testing"

	"checkroll/api"
	"checkroll/msg"
	"checkroll/reseq"
	"checkroll/sess"
)

// answer is all that a call tells of a right session.
type answer struct {
	s          api.Sess
	said, told []api.Msg
	broken     bool
	e          api.Errno
}

func (a answer) same(b answer) bool {
	return same(a.s, b.s) && slices.Equal(a.said, b.said) && slices.Equal(a.told, b.told) && a.broken == b.broken && a.e == b.e
}

// say, as the chapter has it.
func (a *answer) say(m api.Msg, now int64) {
	if a.s.Out < small {
		m.Seq, m.Time = a.s.Out, now
		a.said = append(a.said, m)
		a.s.Out, a.s.Said = a.s.Out+1, now
	}
}

// ask, as the chapter has it.
func (a *answer) ask(now int64) {
	if a.s.State == api.On && len(a.s.In.Held) > 0 && a.s.In.Next > a.s.Asked {
		m := api.Msg{Kind: api.Resend, A: a.s.In.Next, B: a.s.In.Next + 9}
		if end := a.s.In.Held[0].From - 1; end < m.B {
			m.B = end
		}
		a.say(m, now)
		a.s.Asked, a.s.When = m.B, now
	}
}

// come is the chapter read plainly, for a right session, a message that may be and a time.
func come(s api.Sess, m api.Msg, now int64) answer {
	if s.State == api.Off || s.State == api.Asks && m.Kind != api.Logon {
		return answer{e: api.ErrState}
	}
	a := answer{s: s}
	a.s.State, a.s.Heard, a.s.Tested = api.On, now, false
	if m.Kind == api.Reset && !m.Gap {
		a.s.State, a.broken = api.Off, true
		return a
	}
	if m.Kind == api.Test {
		a.say(api.Msg{Kind: api.Beat, Text: m.Text}, now)
	}
	if m.Kind == api.Resend && m.A < s.Out {
		a.said = append(a.said, api.Msg{Kind: api.Reset, Seq: m.A, Time: now, Copy: true, Gap: true, A: s.Out})
	}
	to := m.Seq + 1
	if m.Kind == api.Reset && m.A > to {
		to = m.A
	}
	in, items, _ := reseq.Come(s.In, api.Item{From: m.Seq, To: to, M: m})
	a.s.In = in
	for _, x := range items {
		if x.M.Kind == api.Report {
			a.told = append(a.told, x.M)
		}
	}
	a.ask(now)
	if m.Kind == api.Logout {
		a.s.State = api.Off
	}
	return a
}

// tick is the chapter read plainly.
func tick(s api.Sess, now int64) answer {
	a := answer{s: s}
	if s.State == api.Off {
		return a
	}
	if s.Heard <= now-3*s.Every {
		a.s.State = api.Off
		return a
	}
	if s.State != api.On {
		return a
	}
	if s.Heard <= now-2*s.Every && !s.Tested {
		a.say(api.Msg{Kind: api.Test, Text: "t"}, now)
		a.s.Tested = true
	}
	if a.s.Said <= now-s.Every {
		a.say(api.Msg{Kind: api.Beat}, now)
	}
	if len(s.In.Held) > 0 && s.When <= now-s.Every {
		a.s.Asked = 0
		a.ask(now)
	}
	return a
}

// some message, near the next number.
func some(r *rand.Rand, next int64) api.Msg {
	seq := min(small, max(1, next-3+r.Int63n(9)))
	if r.Intn(3) == 0 {
		seq = min(small, next)
	}
	switch r.Intn(30) {
	case 0:
		return api.Msg{Kind: api.Logout, Seq: seq}
	case 1:
		return api.Msg{Kind: api.Reset, Seq: seq, A: 1 + r.Int63n(20)}
	case 2, 3:
		return api.Msg{Kind: api.Reset, Seq: seq, Gap: true, A: min(small, max(1, next-2+r.Int63n(30)))}
	case 4, 5:
		return api.Msg{Kind: api.Resend, Seq: seq, A: 1 + r.Int63n(9), B: r.Int63n(9)}
	case 6, 7:
		return api.Msg{Kind: api.Test, Seq: seq, Text: "q"}
	case 8, 9, 10:
		return api.Msg{Kind: api.Logon, Seq: seq, A: 5}
	case 11:
		return beat(min(small, next+r.Int63n(40)))
	}
	return report(seq)
}

func TestAgainstModel(t *testing.T) {
	r := rand.New(rand.NewSource(7))
	for range 300 {
		s, _ := sess.New(1 + r.Int63n(6))
		if r.Intn(6) == 0 {
			s.Out = small - r.Int63n(4)
		}
		if r.Intn(6) == 0 {
			s.In.Next = small - r.Int63n(9)
		}
		now := r.Int63n(9)
		for range 60 {
			var got, want answer
			m := some(r, s.In.Next)
			switch n := r.Intn(12); {
			case n == 0 && s.State == api.Off:
				got.s, got.said, got.e = sess.Connect(s, now)
				want = answer{s: s}
				want.s.State, want.s.Heard, want.s.Asked, want.s.Tested = api.Asks, now, 0, false
				want.say(api.Msg{Kind: api.Logon, A: s.Every}, now)
			case n < 4:
				now = max(0, now-1+r.Int63n(8))
				got.s, got.said, got.e = sess.Tick(s, now)
				want = tick(s, now)
			default:
				got.s, got.said, got.told, got.broken, got.e = sess.Come(s, m, now)
				want = come(s, m, now)
			}
			if !got.same(want) {
				t.Fatalf("of %v, %v at %d: %v; want %v", s, m, now, got, want)
			}
			if got.e == api.OK {
				s = got.s
			}
			if !sess.Right(s) {
				t.Fatal("not Right:", s)
			}
		}
	}
}

// venue tells Reports by their numbers, and answers what it is asked; the way loses, doubles and mixes it.
type venue struct {
	r    *rand.Rand
	out  int64
	said []api.Msg
	way  []api.Msg
}

func (v *venue) tell() {
	m := report(v.out)
	switch v.r.Intn(6) {
	case 0:
		m = beat(v.out)
	case 1:
		m = api.Msg{Kind: api.Test, Seq: v.out, Text: "q"}
	}
	v.out++
	v.said = append(v.said, m)
	v.send(m)
}

func (v *venue) send(m api.Msg) {
	for range []int{1, 1, 1, 0, 2}[v.r.Intn(5)] {
		v.way = append(v.way, m)
	}
}

// hear what the session says.
func (v *venue) hear(l []api.Msg) {
	for _, m := range l {
		if m.Kind == api.Resend {
			for seq := m.A; seq <= m.B && seq < v.out; seq++ {
				again := v.said[seq-1]
				again.Copy = true
				v.send(again)
			}
		}
	}
}

// next that comes out of the way.
func (v *venue) next() (api.Msg, bool) {
	if len(v.way) == 0 {
		return api.Msg{}, false
	}
	at := v.r.Intn(min(3, len(v.way)))
	m := v.way[at]
	v.way = slices.Delete(v.way, at, at+1)
	return m, true
}

// Reports are told in the order of their numbers, each once; the next number never goes back; what it says has rising numbers.
func TestWhatComesIsToldInOrder(t *testing.T) {
	r := rand.New(rand.NewSource(77))
	for range 60 {
		s, _ := sess.New(4)
		v := &venue{r: r, out: 2, said: []api.Msg{{Kind: api.Logon, Seq: 1}}}
		var told, said []api.Msg
		now, next, drops := int64(0), s.In.Next, r.Intn(3)
		keep := func(n api.Sess, l []api.Msg) {
			said = append(said, l...)
			v.hear(l)
			for _, m := range l {
				if !msg.Right(m) || m.Time != now {
					t.Fatal("says at", now, m)
				}
			}
			if n.In.Next < next || !sess.Right(n) {
				t.Fatal("Next went back from", next, n)
			}
			s, next = n, n.In.Next
		}
		for step := 0; step < 700; step++ {
			if s.State == api.Off {
				n, l, _ := sess.Connect(s, now)
				keep(n, l)
				v.way = append(v.way, v.said[0])
			}
			if step < 200 && step%3 == 0 {
				v.tell()
			}
			if step < 200 && drops > 0 && r.Intn(60) == 0 {
				drops--
				keep(sess.Drop(s), nil)
				continue
			}
			if m, ok := v.next(); ok {
				n, l, tells, _, e := sess.Come(s, m, now)
				if e == api.OK {
					told = append(told, tells...)
					keep(n, l)
				}
				continue
			}
			now++
			// Something is heard at times, so that it goes on and sees what is missing.
			if r.Intn(3) == 0 {
				v.way = append(v.way, v.said[len(v.said)-1])
			}
			n, l, _ := sess.Tick(s, now)
			keep(n, l)
		}
		var want []api.Msg
		for _, m := range v.said {
			if m.Kind == api.Report && m.Seq < next {
				want = append(want, m)
			}
		}
		for i := range told {
			told[i].Copy = false
		}
		if !slices.Equal(told, want) || next != v.out {
			t.Fatal("told", len(told), "of", len(want), "next", next, "of", v.out)
		}
		last := int64(0)
		for _, m := range said {
			if m.Kind == api.Reset && m.Copy {
				continue
			}
			if m.Seq != last+1 {
				t.Fatal("said", m.Seq, "behind", last)
			}
			last = m.Seq
		}
	}
}
