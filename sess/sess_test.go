package sess_test

import (
	"math"
	"slices"
	"testing"

	"checkroll/api"
	"checkroll/sess"
)

const (
	small = 1 << 40
	line  = 1 << 41
	often = 1 << 20
)

// times that stand at an edge, and whether they are any.
var times = map[int64]bool{
	math.MinInt64: false, -api.MaxNum: false, -1: false, 0: true, 1: true, 9: true,
	api.MaxNum - 1: true, api.MaxNum: true, api.MaxNum + 1: false, math.MaxInt64: false,
}

// report with this number; the execution's name tells it apart.
func report(seq int64) api.Msg {
	id := "e" + string(rune('A'+seq%26)) + string(rune('a'+seq/26%26))
	return api.Msg{Kind: api.Report, Seq: seq, Time: 3, Exec: api.Exec{ID: id, Order: "o", Account: "a", Symbol: "s", Kind: api.New, Qty: seq}}
}

func beat(seq int64) api.Msg {
	return api.Msg{Kind: api.Beat, Seq: seq, Time: 3}
}

// hold items of one number each.
func hold(l ...api.Msg) []api.Item {
	var held []api.Item
	for _, m := range l {
		held = append(held, api.Item{From: m.Seq, To: m.Seq + 1, M: m})
	}
	return held
}

// on is a session that is On, with these next numbers, every 10 ticks, heard and said last at 100.
func on(next, out int64, held ...api.Item) api.Sess {
	return api.Sess{State: api.On, In: api.Line{Next: next, Held: held}, Out: out, Every: 10, Heard: 100, Said: 100, When: 100}
}

// with is the session changed by f.
func with(s api.Sess, f func(*api.Sess)) api.Sess {
	s.In.Held = slices.Clone(s.In.Held)
	f(&s)
	return s
}

func same(a, b api.Sess) bool {
	if !slices.Equal(a.In.Held, b.In.Held) || a.In.Next != b.In.Next {
		return false
	}
	a.In, b.In = api.Line{}, api.Line{}
	return a.State == b.State && a.Out == b.Out && a.Every == b.Every && a.Heard == b.Heard && a.Said == b.Said &&
		a.Asked == b.Asked && a.When == b.When && a.Tested == b.Tested
}

// wrong sessions, each by one thing.
func wrong() []api.Sess {
	base := on(5, 3, hold(beat(7), beat(9))...)
	l := []api.Sess{
		{},
		with(base, func(s *api.Sess) { s.State = -1 }),
		with(base, func(s *api.Sess) { s.State = 3 }),
		with(base, func(s *api.Sess) { s.In.Next = 0 }),
		with(base, func(s *api.Sess) { s.In.Next = 7 }),
		with(base, func(s *api.Sess) { s.In.Next = line + 1; s.In.Held = nil }),
		with(base, func(s *api.Sess) { s.In.Held[1].From = 7 }),
		with(base, func(s *api.Sess) { s.In.Held[1].To = 9 }),
		with(base, func(s *api.Sess) { s.Out = 0 }),
		with(base, func(s *api.Sess) { s.Out = -1 }),
		with(base, func(s *api.Sess) { s.Out = small + 1 }),
		with(base, func(s *api.Sess) { s.Every = 0 }),
		with(base, func(s *api.Sess) { s.Every = -1 }),
		with(base, func(s *api.Sess) { s.Every = often + 1 }),
	}
	for n, ok := range times {
		if !ok {
			l = append(l,
				with(base, func(s *api.Sess) { s.Heard = n }),
				with(base, func(s *api.Sess) { s.Said = n }),
				with(base, func(s *api.Sess) { s.Asked = n }),
				with(base, func(s *api.Sess) { s.When = n }))
		}
	}
	return l
}

func TestRight(t *testing.T) {
	for _, s := range wrong() {
		if sess.Right(s) {
			t.Error("Right:", s)
		}
	}
	base := on(5, 3, hold(beat(7), beat(9))...)
	l := []api.Sess{
		base,
		with(base, func(s *api.Sess) { s.State = api.Off }),
		with(base, func(s *api.Sess) { s.State = api.Asks }),
		with(base, func(s *api.Sess) { s.In.Next = 1 }),
		with(base, func(s *api.Sess) { s.In.Next = line; s.In.Held = nil }),
		with(base, func(s *api.Sess) { s.Out = 1 }),
		with(base, func(s *api.Sess) { s.Out = small }),
		with(base, func(s *api.Sess) { s.Every = 1 }),
		with(base, func(s *api.Sess) { s.Every = often }),
		with(base, func(s *api.Sess) { s.Tested = true }),
	}
	for n, ok := range times {
		if ok {
			l = append(l,
				with(base, func(s *api.Sess) { s.Heard = n }),
				with(base, func(s *api.Sess) { s.Said = n }),
				with(base, func(s *api.Sess) { s.Asked = n }),
				with(base, func(s *api.Sess) { s.When = n }))
		}
	}
	for _, s := range l {
		if !sess.Right(s) {
			t.Error("not Right:", s)
		}
	}
}

func TestNew(t *testing.T) {
	for _, every := range []int64{1, 2, 10, often - 1, often} {
		s, e := sess.New(every)
		if e != api.OK || !same(s, api.Sess{In: api.Line{Next: 1}, Out: 1, Every: every}) || !sess.Right(s) {
			t.Error("New", every, s, e)
		}
	}
	for _, every := range []int64{math.MinInt64, -often, -1, 0, often + 1, api.MaxNum, math.MaxInt64} {
		if s, e := sess.New(every); e != api.ErrArg || !same(s, api.Sess{}) {
			t.Error("New", every, s, e)
		}
	}
}

func TestDrop(t *testing.T) {
	for _, state := range []int{api.Off, api.Asks, api.On} {
		for _, held := range [][]api.Item{nil, hold(beat(7)), hold(beat(7), report(9))} {
			s := on(5, 3, held...)
			s.State, s.Asked, s.Tested = state, 4, true
			want := with(s, func(s *api.Sess) { s.State, s.In.Held = api.Off, nil })
			if d := sess.Drop(s); !same(d, want) {
				t.Error("Drop", s, d)
			}
		}
	}
	for _, s := range wrong() {
		if d := sess.Drop(s); !same(d, s) {
			t.Error("Drop of one that isn't right", s, d)
		}
	}
}

func TestConnect(t *testing.T) {
	off := with(on(5, 3, hold(beat(7))...), func(s *api.Sess) { s.State, s.Asked, s.When, s.Tested = api.Off, 6, 50, true })
	for now, ok := range times {
		s, said, e := sess.Connect(off, now)
		if !ok {
			if e != api.ErrArg || len(said) != 0 || !same(s, off) {
				t.Error("Connect at", now, s, said, e)
			}
			continue
		}
		want := with(off, func(s *api.Sess) {
			s.State, s.Heard, s.Said, s.Out, s.Asked, s.Tested = api.Asks, now, now, 4, 0, false
		})
		if e != api.OK || !same(s, want) || !slices.Equal(said, []api.Msg{{Kind: api.Logon, Seq: 3, Time: now, A: 10}}) {
			t.Error("Connect at", now, s, said, e)
		}
	}
	for _, state := range []int{api.Asks, api.On} {
		bad := with(off, func(s *api.Sess) { s.State = state })
		if s, said, e := sess.Connect(bad, 7); e != api.ErrState || len(said) != 0 || !same(s, api.Sess{}) {
			t.Error("Connect in state", state, s, said, e)
		}
		// ErrArg is ahead.
		if s, said, e := sess.Connect(bad, -1); e != api.ErrArg || len(said) != 0 || !same(s, bad) {
			t.Error("Connect in state", state, "at -1:", s, said, e)
		}
	}
	for _, bad := range wrong() {
		if s, said, e := sess.Connect(bad, 7); e != api.ErrArg || len(said) != 0 || !same(s, bad) {
			t.Error("Connect", bad, s, said, e)
		}
	}
}

func TestNothingIsSaidAtTheEnd(t *testing.T) {
	for _, out := range []int64{small - 1, small} {
		says := int(small - out)
		base := on(5, out)
		base.Said = 60
		off := with(base, func(s *api.Sess) { s.State = api.Off })
		s, said, e := sess.Connect(off, 105)
		if e != api.OK || s.State != api.Asks || s.Out != small || s.Heard != 105 || len(said) != says {
			t.Error("Connect, Out", out, s, said, e)
		}
		if (s.Said == 105) != (says == 1) || (s.Said == 60) != (says == 0) {
			t.Error("Connect, Out", out, "Said", s.Said)
		}
		s, said, _, _, e = sess.Come(base, api.Msg{Kind: api.Test, Seq: 5, Text: "x"}, 105)
		if e != api.OK || s.Out != small || s.In.Next != 6 || len(said) != says || (s.Said == 60) != (says == 0) {
			t.Error("a Test comes, Out", out, s, said, e)
		}
		// It has asked and tested all the same.
		s, said, _, _, e = sess.Come(base, beat(9), 105)
		if e != api.OK || s.Out != small || len(said) != says || s.Asked != 8 || s.When != 105 {
			t.Error("one comes beyond a hole, Out", out, s, said, e)
		}
		s, said, e = sess.Tick(base, 120)
		if e != api.OK || s.Out != small || len(said) != says || !s.Tested || (s.Said == 60) != (says == 0) {
			t.Error("Tick, Out", out, s, said, e)
		}
		// A Reset that answers needs no number.
		s, said, _, _, e = sess.Come(base, api.Msg{Kind: api.Resend, Seq: 5, A: 1}, 105)
		want := []api.Msg{{Kind: api.Reset, Seq: 1, Time: 105, Copy: true, A: out, Gap: true}}
		if e != api.OK || s.Out != out || s.Said != 60 || !slices.Equal(said, want) {
			t.Error("a Resend comes, Out", out, s, said, e)
		}
	}
}

func TestComeNotNow(t *testing.T) {
	right := []api.Msg{
		{Kind: api.Logon, Seq: 5, A: 10}, beat(5), {Kind: api.Test, Seq: 5, Text: "q"}, {Kind: api.Resend, Seq: 5, A: 1},
		{Kind: api.Reset, Seq: 5, A: 9, Gap: true}, {Kind: api.Reset, Seq: 5, A: 9}, {Kind: api.Logout, Seq: 5}, report(5),
	}
	wrongs := []api.Msg{
		{}, {Kind: api.Beat}, {Kind: api.Beat, Seq: -1}, {Kind: api.Beat, Seq: small + 1}, {Kind: 8, Seq: 5}, {Kind: api.Test, Seq: 5},
		{Kind: api.Logon, Seq: 5, A: -1}, {Kind: api.Logon, Seq: 5, Text: "x"}, {Kind: api.Report, Seq: 5}, {Kind: api.Reset, Seq: 5}, {Kind: api.Resend, Seq: 5},
	}
	for _, state := range []int{api.Off, api.Asks, api.On} {
		base := with(on(5, 3, hold(beat(7))...), func(s *api.Sess) { s.State = state })
		for _, m := range right {
			want := api.ErrState
			if state == api.On || state == api.Asks && m.Kind == api.Logon {
				want = api.OK
			}
			s, said, told, broken, e := sess.Come(base, m, 107)
			if e != want {
				t.Error("Come in state", state, m, e)
			}
			if e != api.OK && (len(said) != 0 || len(told) != 0 || broken || !same(s, api.Sess{})) {
				t.Error("Come in state", state, m, s, said, told, broken, e)
			}
			for now, ok := range times {
				if s, said, told, broken, e := sess.Come(base, m, now); !ok && (e != api.ErrArg || len(said) != 0 || len(told) != 0 || broken || !same(s, base)) {
					t.Error("Come at", now, m, s, said, told, broken, e)
				} else if ok && e != want {
					t.Error("Come at", now, m, e)
				}
			}
			for _, bad := range wrong() {
				if s, said, told, broken, e := sess.Come(bad, m, 107); e != api.ErrArg || len(said) != 0 || len(told) != 0 || broken || !same(s, bad) {
					t.Error("Come to", bad, m, s, said, told, broken, e)
				}
			}
		}
		for _, m := range wrongs {
			if s, said, told, broken, e := sess.Come(base, m, 107); e != api.ErrArg || len(said) != 0 || len(told) != 0 || broken || !same(s, base) {
				t.Error("Come of what may not be", state, m, s, said, told, broken, e)
			}
		}
	}
}

func TestComeByKind(t *testing.T) {
	const now = 107
	// heard is the session behind a message that only comes.
	heard := func(next, out int64, held ...api.Item) api.Sess {
		s := on(next, out, held...)
		s.Heard = now
		return s
	}
	said := func(s api.Sess) api.Sess {
		s.Said = now
		return s
	}
	asked := func(s api.Sess, to int64) api.Sess {
		s.Said, s.Asked, s.When = now, to, now
		return s
	}
	resend := func(seq, a, b int64) api.Msg {
		return api.Msg{Kind: api.Resend, Seq: seq, Time: now, A: a, B: b}
	}
	for _, c := range []struct {
		name   string
		s      api.Sess
		m      api.Msg
		behind api.Sess
		said   []api.Msg
		told   []api.Msg
		broken bool
	}{
		{"a Beat", on(5, 3), beat(5), heard(6, 3), nil, nil, false},
		{"a Logon that is On", on(5, 3), api.Msg{Kind: api.Logon, Seq: 5, A: 99}, heard(6, 3), nil, nil, false},
		{"a Logon that Asks", with(on(5, 3), func(s *api.Sess) { s.State, s.Tested = api.Asks, true }), api.Msg{Kind: api.Logon, Seq: 5}, heard(6, 3), nil, nil, false},
		{"a Logon that Asks, beyond a hole", with(on(5, 3), func(s *api.Sess) { s.State = api.Asks }), api.Msg{Kind: api.Logon, Seq: 8},
			asked(heard(5, 4, hold(api.Msg{Kind: api.Logon, Seq: 8})...), 7), []api.Msg{resend(3, 5, 7)}, nil, false},
		{"a Report", on(5, 3), report(5), heard(6, 3), nil, []api.Msg{report(5)}, false},
		{"an old Report", on(5, 3), report(4), heard(5, 3), nil, nil, false},
		{"a copy of an old Report", on(5, 3), copyOf(report(4)), heard(5, 3), nil, nil, false},
		{"a copy that is new", on(5, 3), copyOf(report(5)), heard(6, 3), nil, []api.Msg{copyOf(report(5))}, false},
		{"a Test", with(on(5, 3), func(s *api.Sess) { s.Tested = true }), api.Msg{Kind: api.Test, Seq: 5, Text: "who"},
			said(heard(6, 4)), []api.Msg{{Kind: api.Beat, Seq: 3, Time: now, Text: "who"}}, nil, false},
		{"an old Test", on(5, 3), api.Msg{Kind: api.Test, Seq: 1, Text: "who"}, said(heard(5, 4)), []api.Msg{{Kind: api.Beat, Seq: 3, Time: now, Text: "who"}}, nil, false},
		{"a Test beyond a hole", on(5, 3), api.Msg{Kind: api.Test, Seq: 7, Text: "who"}, asked(heard(5, 5, hold(api.Msg{Kind: api.Test, Seq: 7, Text: "who"})...), 6),
			[]api.Msg{{Kind: api.Beat, Seq: 3, Time: now, Text: "who"}, resend(4, 5, 6)}, nil, false},
		{"a Resend", on(5, 4), api.Msg{Kind: api.Resend, Seq: 5, A: 2, B: 2}, heard(6, 4), []api.Msg{{Kind: api.Reset, Seq: 2, Time: now, Copy: true, A: 4, Gap: true}}, nil, false},
		{"a Resend of the last one", on(5, 4), api.Msg{Kind: api.Resend, Seq: 5, A: 3}, heard(6, 4), []api.Msg{{Kind: api.Reset, Seq: 3, Time: now, Copy: true, A: 4, Gap: true}}, nil, false},
		{"a Resend of what isn't said", on(5, 4), api.Msg{Kind: api.Resend, Seq: 5, A: 4}, heard(6, 4), nil, nil, false},
		{"a Resend of what is far away", on(5, 4), api.Msg{Kind: api.Resend, Seq: 5, A: small, B: small}, heard(6, 4), nil, nil, false},
		{"an old Resend", on(5, 4), api.Msg{Kind: api.Resend, Seq: 1, A: 1}, heard(5, 4), []api.Msg{{Kind: api.Reset, Seq: 1, Time: now, Copy: true, A: 4, Gap: true}}, nil, false},
		{"a Resend beyond a hole", on(5, 4), api.Msg{Kind: api.Resend, Seq: 9, A: 1}, asked(heard(5, 5, hold(api.Msg{Kind: api.Resend, Seq: 9, A: 1})...), 8),
			[]api.Msg{{Kind: api.Reset, Seq: 1, Time: now, Copy: true, A: 4, Gap: true}, resend(4, 5, 8)}, nil, false},
		{"a Reset over a gap", on(5, 3), api.Msg{Kind: api.Reset, Seq: 5, Gap: true, A: 9}, heard(9, 3), nil, nil, false},
		{"a Reset to the one behind it", on(5, 3), api.Msg{Kind: api.Reset, Seq: 5, Gap: true, A: 6}, heard(6, 3), nil, nil, false},
		{"a Reset to itself", on(5, 3), api.Msg{Kind: api.Reset, Seq: 5, Gap: true, A: 5}, heard(6, 3), nil, nil, false},
		{"a Reset to one before it", on(5, 3), api.Msg{Kind: api.Reset, Seq: 5, Gap: true, A: 1}, heard(6, 3), nil, nil, false},
		{"an old Reset that goes on", on(5, 3), api.Msg{Kind: api.Reset, Seq: 2, Gap: true, A: 7}, heard(7, 3), nil, nil, false},
		{"an old Reset", on(5, 3), api.Msg{Kind: api.Reset, Seq: 2, Gap: true, A: 5}, heard(5, 3), nil, nil, false},
		{"a Reset as far as it goes", on(5, 3), api.Msg{Kind: api.Reset, Seq: 5, Gap: true, A: small}, heard(small, 3), nil, nil, false},
		{"a Reset, and what is held behind it", on(5, 3, hold(report(7), beat(8), report(9), report(12))...), api.Msg{Kind: api.Reset, Seq: 5, Gap: true, A: 8},
			asked(heard(10, 4, hold(report(12))...), 11), []api.Msg{resend(3, 10, 11)}, []api.Msg{report(9)}, false},
		{"a Reset beyond a hole", on(5, 3), api.Msg{Kind: api.Reset, Seq: 7, Gap: true, A: 30},
			asked(heard(5, 4, api.Item{From: 7, To: 30, M: api.Msg{Kind: api.Reset, Seq: 7, Gap: true, A: 30}}), 6), []api.Msg{resend(3, 5, 6)}, nil, false},
		{"a Reset without Gap", with(on(5, 3, hold(report(6))...), func(s *api.Sess) { s.Tested = true }), api.Msg{Kind: api.Reset, Seq: 5, A: 9},
			with(heard(5, 3, hold(report(6))...), func(s *api.Sess) { s.State = api.Off }), nil, nil, true},
		{"an old Reset without Gap", on(5, 3), api.Msg{Kind: api.Reset, Seq: 1, A: 2}, with(heard(5, 3), func(s *api.Sess) { s.State = api.Off }), nil, nil, true},
		{"a Logout", on(5, 3), api.Msg{Kind: api.Logout, Seq: 5}, with(heard(6, 3), func(s *api.Sess) { s.State = api.Off }), nil, nil, false},
		{"a Logout, and what is held behind it", on(5, 3, hold(report(6), report(8))...), api.Msg{Kind: api.Logout, Seq: 5},
			with(asked(heard(7, 4, hold(report(8))...), 7), func(s *api.Sess) { s.State = api.Off }), []api.Msg{resend(3, 7, 7)}, []api.Msg{report(6)}, false},
		{"a Logout beyond a hole", on(5, 3), api.Msg{Kind: api.Logout, Seq: 6},
			with(asked(heard(5, 4, hold(api.Msg{Kind: api.Logout, Seq: 6})...), 5), func(s *api.Sess) { s.State = api.Off }), []api.Msg{resend(3, 5, 5)}, nil, false},
		{"the Reports alone are told", on(5, 3, hold(beat(6), report(7), api.Msg{Kind: api.Logon, Seq: 8}, report(9))...), report(5),
			heard(10, 3), nil, []api.Msg{report(5), report(7), report(9)}, false},
	} {
		s, said, told, broken, e := sess.Come(c.s, c.m, now)
		if e != api.OK || !same(s, c.behind) || !slices.Equal(said, c.said) || !slices.Equal(told, c.told) || broken != c.broken {
			t.Errorf("%s: %v, says %v, told %v, broken %t, %d; want %v, %v, %v, %t", c.name, s, said, told, broken, e, c.behind, c.said, c.told, c.broken)
		}
	}
}

// copyOf is a message that may be a copy.
func copyOf(m api.Msg) api.Msg {
	m.Copy = true
	return m
}

func TestAsks(t *testing.T) {
	const now = 107
	for _, c := range []struct {
		name      string
		next      int64
		asked     int64
		seq       int64
		says      bool
		to, after int64
	}{
		{"one is missing", 5, 0, 6, true, 5, 5},
		{"nine are", 5, 0, 14, true, 13, 13},
		{"ten are", 5, 0, 15, true, 14, 14},
		{"eleven are", 5, 0, 16, true, 14, 14},
		{"many are", 5, 0, 4000, true, 14, 14},
		{"it has asked up to the one before", 5, 4, 9, true, 8, 8},
		{"it has asked up to this one", 5, 5, 9, false, 0, 5},
		{"it has asked beyond it", 5, 14, 9, false, 0, 14},
		{"it has asked for all", 5, api.MaxNum, 9, false, 0, api.MaxNum},
		{"nothing is", 5, 0, 5, false, 0, 0},
	} {
		s := on(c.next, 3)
		s.Asked = c.asked
		behind, said, _, _, e := sess.Come(s, beat(c.seq), now)
		var want []api.Msg
		when, out := int64(100), int64(3)
		if c.says {
			want, when, out = []api.Msg{{Kind: api.Resend, Seq: 3, Time: now, A: c.next, B: c.to}}, now, 4
		}
		if e != api.OK || !slices.Equal(said, want) || behind.Asked != c.after || behind.When != when || behind.Out != out {
			t.Errorf("%s: says %v, Asked %d, When %d, Out %d; want %v, %d, %d, %d", c.name, said, behind.Asked, behind.When, behind.Out, want, c.after, when, out)
		}
	}
}

func TestComeWhenManyAreHeld(t *testing.T) {
	var l []api.Msg
	for i := range int64(api.MaxHeld) {
		l = append(l, report(10+2*i))
	}
	s := on(5, 3, hold(l...)...)
	s.Asked = 9
	behind, said, told, broken, e := sess.Come(s, report(11), 107)
	if e != api.OK || len(said) != 0 || len(told) != 0 || broken || !same(behind, with(s, func(s *api.Sess) { s.Heard = 107 })) {
		t.Error("64 are held, one more comes:", behind, said, told, broken, e)
	}
	behind, said, told, _, e = sess.Come(s, api.Msg{Kind: api.Reset, Seq: 5, Gap: true, A: 500}, 107)
	if e != api.OK || len(said) != 0 || len(told) != 0 || len(behind.In.Held) != 0 || behind.In.Next != 500 {
		t.Error("64 are held, a Reset beyond them:", behind, said, told, e)
	}
}

func TestTick(t *testing.T) {
	test := func(seq, now int64) api.Msg { return api.Msg{Kind: api.Test, Seq: seq, Time: now, Text: "t"} }
	alive := func(seq, now int64) api.Msg { return api.Msg{Kind: api.Beat, Seq: seq, Time: now} }
	hole := hold(report(7))
	again := func(seq, now int64) api.Msg { return api.Msg{Kind: api.Resend, Seq: seq, Time: now, A: 5, B: 6} }
	for _, c := range []struct {
		name   string
		s      api.Sess
		now    int64
		change func(*api.Sess)
		said   []api.Msg
	}{
		{"at once", on(5, 3), 100, func(s *api.Sess) {}, nil},
		{"ahead of it", on(5, 3), 0, func(s *api.Sess) {}, nil},
		{"9 ticks", on(5, 3), 109, func(s *api.Sess) {}, nil},
		{"10 ticks", on(5, 3), 110, func(s *api.Sess) { s.Out, s.Said = 4, 110 }, []api.Msg{alive(3, 110)}},
		{"19 ticks", on(5, 3), 119, func(s *api.Sess) { s.Out, s.Said = 4, 119 }, []api.Msg{alive(3, 119)}},
		// What says Test needs no Beat.
		{"20 ticks", on(5, 3), 120, func(s *api.Sess) { s.Out, s.Said, s.Tested = 4, 120, true }, []api.Msg{test(3, 120)}},
		{"20 ticks, nothing due", with(on(5, 3), func(s *api.Sess) { s.Said = 120 }), 120, func(s *api.Sess) { s.Out, s.Said, s.Tested = 4, 120, true }, []api.Msg{test(3, 120)}},
		{"29 ticks", on(5, 3), 129, func(s *api.Sess) { s.Out, s.Said, s.Tested = 4, 129, true }, []api.Msg{test(3, 129)}},
		{"20 ticks, tested", with(on(5, 3), func(s *api.Sess) { s.Tested = true }), 120, func(s *api.Sess) { s.Out, s.Said = 4, 120 }, []api.Msg{alive(3, 120)}},
		{"20 ticks, tested, nothing due", with(on(5, 3), func(s *api.Sess) { s.Tested, s.Said = true, 111 }), 120, func(s *api.Sess) {}, nil},
		{"30 ticks", on(5, 3), 130, func(s *api.Sess) { s.State = api.Off }, nil},
		{"30 ticks, something held", on(5, 3, hole...), 130, func(s *api.Sess) { s.State = api.Off }, nil},
		{"far beyond", on(5, 3), api.MaxNum, func(s *api.Sess) { s.State = api.Off }, nil},
		// What waits for a Logon says nothing.
		{"Asks, 29 ticks", with(on(5, 3, hole...), func(s *api.Sess) { s.State = api.Asks }), 129, func(s *api.Sess) {}, nil},
		{"Asks, 30 ticks", with(on(5, 3, hole...), func(s *api.Sess) { s.State = api.Asks }), 130, func(s *api.Sess) { s.State = api.Off }, nil},
		{"Off, 20 ticks", with(on(5, 3, hole...), func(s *api.Sess) { s.State = api.Off }), 120, func(s *api.Sess) {}, nil},
		{"Off, 30 ticks", with(on(5, 3, hole...), func(s *api.Sess) { s.State = api.Off }), 130, func(s *api.Sess) {}, nil},
		// What is missing is asked for again.
		{"a hole, asked for 9 ticks ago", with(on(5, 3, hole...), func(s *api.Sess) { s.Asked, s.Said, s.When = 6, 105, 101 }), 110, func(s *api.Sess) {}, nil},
		{"a hole, asked for 10 ticks ago", with(on(5, 3, hole...), func(s *api.Sess) { s.Asked, s.Said, s.When = 6, 105, 100 }), 110,
			func(s *api.Sess) { s.Out, s.Said, s.When = 4, 110, 110 }, []api.Msg{again(3, 110)}},
		{"a hole, asked for beyond it long ago", with(on(5, 3, hole...), func(s *api.Sess) { s.Asked, s.Said, s.When = 900, 105, 7 }), 110,
			func(s *api.Sess) { s.Out, s.Said, s.Asked, s.When = 4, 110, 6, 110 }, []api.Msg{again(3, 110)}},
		{"a hole, a Beat is due", with(on(5, 3, hole...), func(s *api.Sess) { s.Asked = 6 }), 110,
			func(s *api.Sess) { s.Out, s.Said, s.When = 5, 110, 110 }, []api.Msg{alive(3, 110), again(4, 110)}},
		{"a hole, a Test is due", with(on(5, 3, hole...), func(s *api.Sess) { s.Asked = 6 }), 120,
			func(s *api.Sess) { s.Out, s.Said, s.When, s.Tested = 5, 120, 120, true }, []api.Msg{test(3, 120), again(4, 120)}},
		{"a hole not asked for, lately", with(on(5, 3, hole...), func(s *api.Sess) { s.Said = 105 }), 109, func(s *api.Sess) {}, nil},
		{"no hole, asked for long ago", with(on(5, 3), func(s *api.Sess) { s.Asked, s.Said, s.When = 4, 105, 7 }), 110, func(s *api.Sess) {}, nil},
	} {
		s, said, e := sess.Tick(c.s, c.now)
		if want := with(c.s, c.change); e != api.OK || !same(s, want) || !slices.Equal(said, c.said) {
			t.Errorf("%s: %v, says %v, %d; want %v, %v", c.name, s, said, e, want, c.said)
		}
	}
}

// A number of ticks ago may be below 0, and reaches as far as the times do.
func TestTickAtTheEdges(t *testing.T) {
	for _, c := range []struct {
		every, heard, now int64
		state, says       int
	}{
		{10, 0, 0, api.On, 0}, {10, 0, 9, api.On, 0}, {10, 0, 10, api.On, 1}, {10, 0, 29, api.On, 1}, {10, 0, 30, api.Off, 0},
		{1, 0, 1, api.On, 1}, {1, 0, 2, api.On, 1}, {1, 0, 3, api.Off, 0},
		{often, 0, often - 1, api.On, 0}, {often, 0, often, api.On, 1}, {often, 0, 3*often - 1, api.On, 1}, {often, 0, 3 * often, api.Off, 0},
		{often, api.MaxNum, 0, api.On, 0}, {often, api.MaxNum, api.MaxNum, api.On, 0},
		{often, api.MaxNum - 3*often, api.MaxNum, api.Off, 0}, {often, api.MaxNum - 3*often + 1, api.MaxNum, api.On, 1},
		{often, 0, api.MaxNum, api.Off, 0},
	} {
		s := api.Sess{State: api.On, In: api.Line{Next: 1}, Out: 1, Every: c.every, Heard: c.heard, Said: c.heard}
		if b, said, e := sess.Tick(s, c.now); e != api.OK || b.State != c.state || len(said) != c.says {
			t.Error("Tick", c, b, said, e)
		}
	}
}

func TestTickNotNow(t *testing.T) {
	for _, state := range []int{api.Off, api.Asks, api.On} {
		base := with(on(5, 3, hold(beat(7))...), func(s *api.Sess) { s.State = state })
		for now, ok := range times {
			if s, said, e := sess.Tick(base, now); !ok && (e != api.ErrArg || len(said) != 0 || !same(s, base)) {
				t.Error("Tick at", now, s, said, e)
			} else if ok && e != api.OK {
				t.Error("Tick at", now, e)
			}
		}
	}
	for _, bad := range wrong() {
		if s, said, e := sess.Tick(bad, 107); e != api.ErrArg || len(said) != 0 || !same(s, bad) {
			t.Error("Tick", bad, s, said, e)
		}
	}
}

func TestExample(t *testing.T) {
	_, said, told, _, e := sess.Come(on(2, 1), report(5), 107)
	if e != api.OK || len(told) != 0 || !slices.Equal(said, []api.Msg{{Kind: api.Resend, Seq: 1, Time: 107, A: 2, B: 4}}) {
		t.Error("next 2, a Report of 5 comes:", said, told, e)
	}
}

// steps that change a session, or leave it.
func steps() []func(api.Sess) (api.Sess, []api.Msg, []api.Msg) {
	var l []func(api.Sess) (api.Sess, []api.Msg, []api.Msg)
	for _, m := range []api.Msg{
		{}, report(5), report(6), report(8), report(40), {Kind: api.Test, Seq: 5, Text: "q"}, {Kind: api.Resend, Seq: 6, A: 1},
		{Kind: api.Reset, Seq: 5, Gap: true, A: 9}, {Kind: api.Reset, Seq: 5, A: 9}, {Kind: api.Logout, Seq: 8}, {Kind: api.Logon, Seq: 8},
	} {
		l = append(l, func(s api.Sess) (api.Sess, []api.Msg, []api.Msg) {
			s, said, told, _, _ := sess.Come(s, m, 107)
			return s, said, told
		})
	}
	for _, now := range []int64{-1, 107, 110, 120, 130} {
		l = append(l, func(s api.Sess) (api.Sess, []api.Msg, []api.Msg) {
			s, said, _ := sess.Tick(s, now)
			return s, said, nil
		}, func(s api.Sess) (api.Sess, []api.Msg, []api.Msg) {
			s, said, _ := sess.Connect(s, now)
			return s, said, nil
		})
	}
	return append(l, func(s api.Sess) (api.Sess, []api.Msg, []api.Msg) { return sess.Drop(s), nil, nil })
}

// scribble over a list up to the end of its room.
func scribble[T any](l []T, x T) {
	l = l[:cap(l)]
	for i := range l {
		l[i] = x
	}
}

func TestWhatIsHandedInStaysAndAnswersAreNew(t *testing.T) {
	for _, state := range []int{api.Off, api.Asks, api.On, 9} {
		for i, step := range steps() {
			room := hold(report(7), report(9), report(11), report(13), report(15))
			kept := slices.Clone(room)
			s := on(5, 3, room[:3]...)
			s.State = state
			was := with(s, func(*api.Sess) {})
			behind, said, told := step(s)
			if !slices.Equal(room, kept) || !same(s, was) {
				t.Fatal("step", i, "changed what was handed in, or its spare room")
			}
			says, tells := slices.Clone(said), slices.Clone(told)
			scribble(behind.In.Held, api.Item{From: 500, To: 501})
			if !slices.Equal(said, says) || !slices.Equal(told, tells) {
				t.Fatal("step", i, "the session shares memory with a list")
			}
			scribble(said, api.Msg{Kind: 99})
			if !slices.Equal(told, tells) {
				t.Fatal("step", i, "both lists share memory")
			}
			scribble(told, api.Msg{Kind: 98})
			if !slices.Equal(room, kept) {
				t.Fatal("step", i, "an answer shares memory with what was handed in")
			}
		}
	}
}
