package sess

import (
	"checkroll/api"
	"checkroll/reseq"
)

// talk is a session while something happens to it, the time, and what it says meanwhile.
type talk struct {
	s    api.Sess
	now  int64
	said []api.Msg
}

// say a message with the next number, if there is one.
func (t *talk) say(m api.Msg) {
	if t.s.Out == last {
		return
	}
	m.Seq, m.Time = t.s.Out, t.now
	t.said = append(t.said, m)
	t.s.Out++
	t.s.Said = t.now
}

// ask for what is missing, a batch at a time, unless it was asked for. Only a session that is On comes here.
func (t *talk) ask() {
	from, to, missing := reseq.Gap(t.s.In)
	if !missing || from <= t.s.Asked {
		return
	}
	to = min(to, from+batch-1)
	t.say(api.Msg{Kind: api.Resend, A: from, B: to})
	t.s.Asked, t.s.When = to, t.now
}

// answer what a message wants to hear.
func (t *talk) answer(m api.Msg) {
	switch m.Kind {
	case api.Test:
		t.say(api.Msg{Kind: api.Beat, Text: m.Text})
	case api.Resend:
		t.skip(m.A)
	}
}

// skip tells that what was said from a number on says nothing any more. It stands in the place of these, with the first one's number: no number of its own goes with it.
func (t *talk) skip(from int64) {
	if from < t.s.Out {
		t.said = append(t.said, api.Msg{Kind: api.Reset, Seq: from, Time: t.now, Copy: true, A: t.s.Out, Gap: true})
	}
}

// enter puts a message in line: the Reports that are told.
func (t *talk) enter(m api.Msg) []api.Msg {
	x := api.Item{From: m.Seq, To: m.Seq + 1, M: m}
	if m.Kind == api.Reset {
		x.To = max(x.To, m.A)
	}
	line, items, _ := reseq.Come(t.s.In, x)
	t.s.In = line
	var reports []api.Msg
	for _, y := range items {
		if y.M.Kind == api.Report {
			reports = append(reports, y.M)
		}
	}
	return reports
}

// wait: what is said because nothing came, or was said, for long.
func (t *talk) wait() {
	if t.ago(2) >= t.s.Heard && !t.s.Tested {
		t.say(api.Msg{Kind: api.Test, Text: "t"})
		t.s.Tested = true
	}
	if t.ago(1) >= t.s.Said {
		t.say(api.Msg{Kind: api.Beat})
	}
	if _, _, missing := reseq.Gap(t.s.In); missing && t.ago(1) >= t.s.When {
		t.s.Asked = 0
		t.ask()
	}
}

// ago is the time so many times Every ago: it may be below 0.
func (t *talk) ago(times int64) int64 {
	return t.now - times*t.s.Every
}
