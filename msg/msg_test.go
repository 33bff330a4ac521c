package msg_test

import (
	"bytes"
	"fmt"
	"math"
	"math/rand"
	"regexp"
	"slices"
	"strconv"
	"strings"
	"testing"

	"checkroll/api"
	"checkroll/field"
	"checkroll/msg"
)

const small = 1 << 40

// fill is an execution that may be; report one that names another.
var (
	fill = api.Exec{ID: "e1", Order: "o1", Account: "acc", Symbol: "XYZ", Kind: api.Fill, Buy: true, Qty: 5, Price: 70, Time: 9}
	bust = api.Exec{ID: "e2", Ref: "e1", Order: "o1", Account: "acc", Symbol: "XYZ", Kind: api.Bust, Qty: 5, Price: 70, Time: 10}
)

// bytesOf a body that is written with | at the end of each field.
func bytesOf(text string) []byte {
	return []byte(strings.ReplaceAll(text, "|", "\x01"))
}

func TestName(t *testing.T) {
	for _, c := range []struct {
		s  string
		ok bool
	}{
		{"", false}, {"a", true}, {"Z", true}, {"0", true}, {"007", true}, {"Aa09", true}, {"azAZ09", true},
		{"abcdefghijklmnop", true}, {"abcdefghijklmno", true}, {"abcdefghijklmnopq", false}, {strings.Repeat("a", 1<<16), false},
		{"a-", false}, {"-a", false}, {"a b", false}, {" ", false}, {"a\x01", false}, {"a\x00", false}, {"a_b", false}, {"a.b", false}, {"a\n", false},
		// Letters and digits of other scripts are none.
		{"\u00e9", false}, {"a\u0660", false}, {"\u0416", false}, {"\uff21", false}, {"\xff", false},
	} {
		if msg.Name(c.s) != c.ok {
			t.Errorf("Name(%.40q): not %t", c.s, c.ok)
		}
	}
}

func TestNameOfEachByte(t *testing.T) {
	const letters = "ABCDEFGHIJKLMNOPQRSTUVWXYZabcdefghijklmnopqrstuvwxyz0123456789"
	for c := range 256 {
		b := string([]byte{byte(c)})
		for _, s := range []string{b, b + "a", "a" + b, "a" + b + "a", strings.Repeat("a", 15) + b} {
			if msg.Name(s) != strings.Contains(letters, b) {
				t.Errorf("Name(%q): %t", s, msg.Name(s))
			}
		}
	}
}

// Each of an execution's names must be one.
func TestExecNames(t *testing.T) {
	for name, ok := range map[string]bool{"": false, "a": true, "abcdefghijklmnop": true, "abcdefghijklmnopq": false, "a-b": false, "a\x01": false} {
		for i, change := range []func(*api.Exec){
			func(x *api.Exec) { x.ID = name }, func(x *api.Exec) { x.Order = name }, func(x *api.Exec) { x.Account = name }, func(x *api.Exec) { x.Symbol = name },
		} {
			for _, x := range []api.Exec{fill, bust} {
				change(&x)
				if msg.Exec(x) != ok {
					t.Errorf("Exec with name %d %q: not %t", i, name, ok)
				}
			}
		}
	}
}

// A name of another execution stands in those of three kinds, and in no others.
func TestExecKinds(t *testing.T) {
	kinds := []int{math.MinInt, -1, 0, 1, 2, 3, 4, 5, 6, 7, 8, 9, 10, 1<<32 + 1, math.MaxInt}
	for _, kind := range kinds {
		refers := kind == api.Replace || kind == api.Bust || kind == api.Correct
		for _, ref := range []string{"", "e0", "abcdefghijklmnop", "abcdefghijklmnopq", "a-b", "\x01"} {
			x := fill
			x.Kind, x.Ref = kind, ref
			want := kind >= 1 && kind <= 8 && (refers && (ref == "e0" || len(ref) == 16) || !refers && ref == "")
			if msg.Exec(x) != want {
				t.Errorf("Exec of kind %d, with Ref %q: not %t", kind, ref, want)
			}
		}
	}
}

func TestExecNumbers(t *testing.T) {
	numbers := []int64{math.MinInt64, -api.MaxNum, -1, 0, 1, small - 1, small, small + 1, api.MaxNum, api.MaxNum + 1, math.MaxInt64}
	for _, n := range numbers {
		qty, price, time := fill, fill, fill
		qty.Qty, price.Price, time.Time = n, n, n
		if msg.Exec(qty) != (n >= 0 && n <= small) {
			t.Errorf("Exec of Qty %d: %t", n, msg.Exec(qty))
		}
		if msg.Exec(price) != (n >= 0 && n <= small) {
			t.Errorf("Exec of Price %d: %t", n, msg.Exec(price))
		}
		if msg.Exec(time) != (n >= 0 && n <= api.MaxNum) {
			t.Errorf("Exec of Time %d: %t", n, msg.Exec(time))
		}
	}
	sale := fill
	sale.Buy = false
	if !msg.Exec(fill) || !msg.Exec(sale) || !msg.Exec(bust) || msg.Exec(api.Exec{}) {
		t.Error("Exec of one to buy, one to sell, one that names another, and none")
	}
}

// mayBe tells of a message, part by part, whether it may be so in its kind.
func mayBe(m api.Msg) bool {
	isSmall := func(n int64) bool { return n >= 0 && n <= small }
	in := func(kinds ...int) bool { return slices.Contains(kinds, m.Kind) }
	kind := m.Kind >= 1 && m.Kind <= 7
	head := m.Seq > 0 && isSmall(m.Seq) && m.Time >= 0 && m.Time <= api.MaxNum
	a := m.A == 0 && !in(api.Resend, api.Reset) || isSmall(m.A) && m.A != 0 && in(api.Logon, api.Resend, api.Reset)
	b := m.B == 0 || isSmall(m.B) && in(api.Resend)
	gap := !m.Gap || in(api.Reset)
	text := m.Text == "" && !in(api.Test) || m.Text != "" && in(api.Beat, api.Test) && len(m.Text) <= 64 && !strings.Contains(m.Text, "\x01")
	exec := m.Exec == api.Exec{} && !in(api.Report) || in(api.Report) && msg.Exec(m.Exec)
	return kind && head && a && b && gap && text && exec
}

// body of a message that may be, written out.
func body(m api.Msg) []byte {
	head := fmt.Sprintf("35=%s|34=%d|52=%d|", []string{"", "A", "0", "1", "2", "4", "5", "8"}[m.Kind], m.Seq, m.Time)
	if m.Copy {
		head += "43=Y|"
	}
	switch m.Kind {
	case api.Logon:
		head += fmt.Sprintf("108=%d|", m.A)
	case api.Resend:
		head += fmt.Sprintf("7=%d|16=%d|", m.A, m.B)
	case api.Reset:
		head += map[bool]string{true: "123=Y|"}[m.Gap] + fmt.Sprintf("36=%d|", m.A)
	}
	b := bytesOf(head)
	if m.Text != "" {
		b = append(b, "112="+m.Text+"\x01"...)
	}
	if x := m.Exec; m.Kind == api.Report {
		ref := ""
		if x.Kind == api.Replace || x.Kind == api.Bust || x.Kind == api.Correct {
			ref = "19=" + x.Ref + "|"
		}
		side := map[bool]int{true: 1, false: 2}[x.Buy]
		b = append(b, bytesOf(fmt.Sprintf("17=%s|%s11=%s|1=%s|55=%s|54=%d|150=%d|32=%d|31=%d|60=%d|", x.ID, ref, x.Order, x.Account, x.Symbol, side, x.Kind, x.Qty, x.Price, x.Time))...)
	}
	return b
}

// check what Right, Put and Read tell of a message.
func check(t *testing.T, m api.Msg) bool {
	t.Helper()
	ok := mayBe(m)
	if msg.Right(m) != ok {
		t.Fatalf("Right of %+v: not %t", m, ok)
	}
	b, e := msg.Put(m)
	if !ok {
		if len(b) > 0 || e != api.ErrArg {
			t.Fatalf("Put of %+v: %q, %d", m, b, e)
		}
		return false
	}
	if e != api.OK || !bytes.Equal(b, body(m)) {
		t.Fatalf("Put of %+v: %q, %d; not %q", m, b, e, body(m))
	}
	if back, e := msg.Read(b); e != api.OK || back != m {
		t.Fatalf("%+v, put as %q, is read as %+v, %d", m, b, back, e)
	}
	return true
}

// What a kind names may be there; what it doesn't is nought: all of the parts with each other.
func TestEachKindWithEachPart(t *testing.T) {
	numbers := []int64{-1, 0, 1, small, small + 1}
	right := 0
	for kind := -1; kind <= 9; kind++ {
		for _, a := range numbers {
			for _, b := range numbers {
				for _, text := range []string{"", "hi", "a\x01"} {
					for _, exec := range []api.Exec{{}, fill, bust, {ID: "e1"}, {Time: 1}} {
						for flags := range 4 {
							if check(t, api.Msg{Kind: kind, Seq: 1, Copy: flags&1 > 0, A: a, B: b, Gap: flags&2 > 0, Text: text, Exec: exec}) {
								right++
							}
						}
					}
				}
			}
		}
	}
	// Each with and without Copy: 3 logons, 2 beats, 1 test, 6 that ask for more, 4 resets, 1 logout, 2 reports.
	if right != 38 {
		t.Error("so many may be:", right)
	}
}

func TestHead(t *testing.T) {
	numbers := []int64{math.MinInt64, -api.MaxNum, -1, 0, 1, 9, small - 1, small, small + 1, api.MaxNum - 1, api.MaxNum, api.MaxNum + 1, math.MaxInt64}
	for kind := range 9 {
		m := sample(kind)
		for _, seq := range numbers {
			for _, time := range numbers {
				m.Seq, m.Time = seq, time
				check(t, m)
			}
		}
	}
	for _, kind := range []int{math.MinInt, -2, 8, 9, 1<<32 + 2, math.MaxInt} {
		check(t, api.Msg{Kind: kind, Seq: 1})
	}
}

// sample of a kind, of as little as may be; of none it is one that may not be.
func sample(kind int) api.Msg {
	m := api.Msg{Kind: kind, Seq: 1}
	switch kind {
	case api.Test:
		m.Text = "t"
	case api.Resend, api.Reset:
		m.A = 1
	case api.Report:
		m.Exec = fill
	}
	return m
}

// Nothing but what is named may be there, whichever part it is.
func TestOneStrayPart(t *testing.T) {
	for kind := 1; kind <= 7; kind++ {
		if !check(t, sample(kind)) {
			t.Error("a sample of kind", kind, "may not be")
		}
		for i, add := range []func(*api.Msg){
			func(m *api.Msg) { m.A = 1 << 50 }, func(m *api.Msg) { m.B = 1 << 50 }, func(m *api.Msg) { m.Text = "\x01" },
			func(m *api.Msg) { m.Exec.Ref = "e0" }, func(m *api.Msg) { m.Exec.Kind += 100 }, func(m *api.Msg) { m.Exec.Qty -= 100 },
			func(m *api.Msg) { m.Exec.Price -= 100 }, func(m *api.Msg) { m.Exec.Time -= 100 }, func(m *api.Msg) { m.Exec.ID += "-" },
			func(m *api.Msg) { m.Exec.Order += "-" }, func(m *api.Msg) { m.Exec.Account += "-" }, func(m *api.Msg) { m.Exec.Symbol += "-" },
		} {
			m := sample(kind)
			add(&m)
			if check(t, m) {
				t.Errorf("kind %d may be with stray part %d", kind, i)
			}
		}
	}
	for kind := 1; kind < 7; kind++ {
		m := sample(kind)
		m.Exec.Buy = true
		check(t, m)
	}
}

func TestText(t *testing.T) {
	texts := []string{"", "x", strings.Repeat("x", 63), strings.Repeat("x", 64), strings.Repeat("x", 65), strings.Repeat("x", 1<<12), strings.Repeat("x", 63) + "\x01", "\x01", "\x01a", "a\x01b"}
	// Bytes are counted, not runes; a text may look like fields and numbers.
	texts = append(texts, strings.Repeat("\u0101", 32), strings.Repeat("\u0101", 33), "a=b", "112=x", "=", " ", "0", "-07", "Y", "\xff\xfe", "\x00", "\n")
	for _, text := range texts {
		for kind := range 9 {
			check(t, api.Msg{Kind: kind, Seq: 3, Text: text})
		}
	}
	for c := range 256 {
		ok := msg.Right(api.Msg{Kind: api.Test, Seq: 3, Text: string([]byte{'a', byte(c)})})
		if ok != (c != 1) {
			t.Errorf("a text with byte %d: %t", c, ok)
		}
		check(t, api.Msg{Kind: api.Beat, Seq: 3, Text: string([]byte{byte(c)})})
	}
}

func TestBodies(t *testing.T) {
	change := bust
	change.Kind, change.Ref, change.Buy = api.Replace, "o0", true
	for _, c := range []struct {
		m    api.Msg
		body string
	}{
		{api.Msg{Kind: api.Logon, Seq: 1}, "35=A|34=1|52=0|108=0|"},
		{api.Msg{Kind: api.Logon, Seq: small, Time: api.MaxNum, Copy: true, A: small}, "35=A|34=1099511627776|52=4611686018427387904|43=Y|108=1099511627776|"},
		{api.Msg{Kind: api.Beat, Seq: 2, Time: 7}, "35=0|34=2|52=7|"}, {api.Msg{Kind: api.Beat, Seq: 2, Time: 7, Copy: true, Text: "hi"}, "35=0|34=2|52=7|43=Y|112=hi|"},
		{api.Msg{Kind: api.Test, Seq: 2, Text: "a=b"}, "35=1|34=2|52=0|112=a=b|"},
		{api.Msg{Kind: api.Resend, Seq: 3, A: 4, B: 9}, "35=2|34=3|52=0|7=4|16=9|"}, {api.Msg{Kind: api.Resend, Seq: 3, A: 9, B: 4}, "35=2|34=3|52=0|7=9|16=4|"},
		{api.Msg{Kind: api.Reset, Seq: 3, A: 9}, "35=4|34=3|52=0|36=9|"}, {api.Msg{Kind: api.Reset, Seq: 3, Copy: true, A: 9, Gap: true}, "35=4|34=3|52=0|43=Y|123=Y|36=9|"},
		{api.Msg{Kind: api.Logout, Seq: 8}, "35=5|34=8|52=0|"},
		{api.Msg{Kind: api.Report, Seq: 4, Time: 9, Exec: fill}, "35=8|34=4|52=9|17=e1|11=o1|1=acc|55=XYZ|54=1|150=2|32=5|31=70|60=9|"},
		{api.Msg{Kind: api.Report, Seq: 4, Copy: true, Exec: bust}, "35=8|34=4|52=0|43=Y|17=e2|19=e1|11=o1|1=acc|55=XYZ|54=2|150=7|32=5|31=70|60=10|"},
		{api.Msg{Kind: api.Report, Seq: 4, Exec: change}, "35=8|34=4|52=0|17=e2|19=o0|11=o1|1=acc|55=XYZ|54=1|150=4|32=5|31=70|60=10|"},
	} {
		if b, e := msg.Put(c.m); !bytes.Equal(b, bytesOf(c.body)) || e != api.OK {
			t.Errorf("Put of %+v: %q, %d", c.m, b, e)
		}
		if m, e := msg.Read(bytesOf(c.body)); m != c.m || e != api.OK {
			t.Errorf("Read of %s: %+v, %d", c.body, m, e)
		}
	}
}

func TestReadOfNone(t *testing.T) {
	field101 := strings.Repeat("1=a|", 101)
	for _, c := range []struct {
		body string
		e    api.Errno
	}{
		{"", api.ErrForm}, {"|", api.ErrForm}, {"35=0|", api.ErrForm}, {"35=0|34=2|", api.ErrForm}, {"34=2|52=7|", api.ErrForm}, {"1=a|", api.ErrForm},
		// The fields' errors, each ahead of what the message is.
		{"35=0", api.ErrShort}, {"35=0|34=2|52=7", api.ErrShort}, {"35=9|34=2|52=7", api.ErrShort}, {"35=0|34=2|52=|", api.ErrForm}, {"35=0|34=2|052=7|", api.ErrForm}, {"35=0|34=2|52=7||", api.ErrForm},
		{field101, api.ErrLong}, {field101[4:], api.ErrForm}, {field101 + "x", api.ErrLong}, {strings.Repeat("x", 1<<16), api.ErrShort}, {strings.Repeat("x", 1<<16+1), api.ErrLong}, {"35=0|34=2|52=7|112=" + strings.Repeat("x", 257) + "|", api.ErrForm},
		// Kinds that are none.
		{"35=9|34=2|52=7|", api.ErrForm}, {"35=3|34=2|52=7|", api.ErrForm}, {"35=a|34=2|52=7|108=1|", api.ErrForm}, {"35=A0|34=2|52=7|108=1|", api.ErrForm}, {"35=01|34=2|52=7|", api.ErrForm}, {"35=0 |34=2|52=7|", api.ErrForm}, {"34=2|52=7|108=1|", api.ErrForm},
		// Heads that may not be, or aren't put so.
		{"35=0|34=0|52=7|", api.ErrForm}, {"35=0|34=-1|52=7|", api.ErrForm}, {"35=0|34=1099511627776|52=7|", api.OK}, {"35=0|34=1099511627777|52=7|", api.ErrForm}, {"35=0|34=02|52=7|", api.ErrForm}, {"35=0|34=+2|52=7|", api.ErrForm}, {"35=0|34=x|52=7|", api.ErrForm},
		{"35=0|34=2|52=-1|", api.ErrForm}, {"35=0|34=2|52=-0|", api.ErrForm}, {"35=0|34=2|52=4611686018427387904|", api.OK}, {"35=0|34=2|52=4611686018427387905|", api.ErrForm}, {"35=0|34=18446744073709551618|52=7|", api.ErrForm}, {"35=0|34=2|52=x|", api.ErrForm},
		{"35=0|34=2|52=7|43=Y|", api.OK}, {"35=0|34=2|52=7|43=N|", api.ErrForm}, {"35=0|34=2|52=7|43=y|", api.ErrForm}, {"35=0|34=2|52=7|43=YY|", api.ErrForm},
		// Fields in another order, doubled, missing, or of another kind.
		{"34=2|35=0|52=7|", api.ErrForm}, {"35=0|52=7|34=2|", api.ErrForm}, {"35=0|34=2|43=Y|52=7|", api.ErrForm}, {"35=0|34=2|52=7|112=x|43=Y|", api.ErrForm}, {"35=2|34=3|52=0|16=9|7=4|", api.ErrForm}, {"35=4|34=3|52=0|36=9|123=Y|", api.ErrForm},
		{"35=0|35=0|34=2|52=7|", api.ErrForm}, {"35=0|34=2|52=7|52=7|", api.ErrForm}, {"35=0|34=2|52=7|43=Y|43=Y|", api.ErrForm}, {"35=0|34=2|52=7|112=x|112=x|", api.ErrForm}, {"35=0|34=2|52=7|112=x|112=y|", api.ErrForm},
		{"35=A|34=1|52=0|", api.ErrForm}, {"35=1|34=1|52=0|", api.ErrForm}, {"35=2|34=3|52=0|7=4|", api.ErrForm}, {"35=2|34=3|52=0|16=4|", api.ErrForm}, {"35=4|34=3|52=0|", api.ErrForm}, {"35=4|34=3|52=0|123=Y|", api.ErrForm}, {"35=8|34=4|52=9|", api.ErrForm},
		{"35=0|34=2|52=7|99=x|", api.ErrForm}, {"35=0|34=2|52=7|108=1|", api.ErrForm}, {"35=A|34=2|52=7|108=1|112=x|", api.ErrForm}, {"35=5|34=2|52=7|112=x|", api.ErrForm}, {"35=5|34=2|52=7|36=9|", api.ErrForm}, {"35=4|34=3|52=0|36=9|7=4|", api.ErrForm}, {"35=5|34=3|52=0|123=Y|", api.ErrForm},
		// What the kinds name, and it may not be.
		{"35=A|34=1|52=0|108=-1|", api.ErrForm}, {"35=A|34=1|52=0|108=1099511627777|", api.ErrForm}, {"35=A|34=1|52=0|108=00|", api.ErrForm}, {"35=A|34=1|52=0|108=x|", api.ErrForm},
		{"35=2|34=3|52=0|7=0|16=0|", api.ErrForm}, {"35=2|34=3|52=0|7=4|16=-1|", api.ErrForm}, {"35=2|34=3|52=0|7=4|16=x|", api.ErrForm}, {"35=2|34=3|52=0|7=4|16=00|", api.ErrForm}, {"35=4|34=3|52=0|36=0|", api.ErrForm}, {"35=4|34=3|52=0|123=N|36=9|", api.ErrForm},
		{"35=1|34=1|52=0|112=" + strings.Repeat("x", 64) + "|", api.OK}, {"35=1|34=1|52=0|112=" + strings.Repeat("x", 65) + "|", api.ErrForm}, {"35=0|34=1|52=0|112=" + strings.Repeat("x", 65) + "|", api.ErrForm},
		// Executions.
		{"35=8|34=4|52=9|17=e1|11=o1|1=a|55=X|54=1|150=2|32=5|31=70|60=9|", api.OK}, {"35=8|34=4|52=9|17=e1|11=o1|1=a|55=X|54=1|150=2|32=5|31=70|", api.ErrForm}, {"35=8|34=4|52=9|17=e-1|11=o1|1=a|55=X|54=1|150=2|32=5|31=70|60=9|", api.ErrForm},
		{"35=8|34=4|52=9|17=e1|19=e0|11=o1|1=a|55=X|54=1|150=2|32=5|31=70|60=9|", api.ErrForm}, {"35=8|34=4|52=9|17=e1|19=e0|11=o1|1=a|55=X|54=1|150=8|32=5|31=70|60=9|", api.OK}, {"35=8|34=4|52=9|17=e1|11=o1|1=a|55=X|54=1|150=8|32=5|31=70|60=9|", api.ErrForm},
		{"35=8|34=4|52=9|17=e1|11=o1|19=e0|1=a|55=X|54=1|150=8|32=5|31=70|60=9|", api.ErrForm}, {"35=8|34=4|52=9|17=e1|11=o1|1=a|55=X|54=3|150=2|32=5|31=70|60=9|", api.ErrForm}, {"35=8|34=4|52=9|17=e1|11=o1|1=a|55=X|54=0|150=2|32=5|31=70|60=9|", api.ErrForm},
		{"35=8|34=4|52=9|17=e1|11=o1|1=a|55=X|54=1|150=9|32=5|31=70|60=9|", api.ErrForm}, {"35=8|34=4|52=9|17=e1|11=o1|1=a|55=X|54=1|150=0|32=5|31=70|60=9|", api.ErrForm}, {"35=8|34=4|52=9|17=e1|11=o1|1=a|55=X|54=1|150=4294967298|32=5|31=70|60=9|", api.ErrForm},
		{"35=8|34=4|52=9|17=e1|11=o1|1=a|55=X|54=1|150=2|31=70|32=5|60=9|", api.ErrForm}, {"35=8|34=4|52=9|17=e1|11=o1|1=a|55=X|54=1|150=2|32=5|31=-70|60=9|", api.ErrForm}, {"35=8|34=4|52=9|17=e1|11=o1|1=a|55=X|54=1|150=2|32=5|31=70|60=9|112=x|", api.ErrForm},
	} {
		m, e := msg.Read(bytesOf(c.body))
		if e != c.e || e != api.OK && m != (api.Msg{}) {
			t.Errorf("Read of %.100s: %+v, %d; not %d", c.body, m, e, c.e)
		}
	}
}

// anyNumber from least on, often at an edge.
func anyNumber(r *rand.Rand, least, most int64) int64 {
	switch r.Intn(4) {
	case 0:
		return least
	case 1:
		return most
	case 2:
		return least + r.Int63n(10)
	}
	return least + r.Int63n(most-least+1)
}

func anyName(r *rand.Rand) string {
	const letters = "ABCDEFGHIJKLMNOPQRSTUVWXYZabcdefghijklmnopqrstuvwxyz0123456789"
	b := make([]byte, 1+r.Intn(16))
	for i := range b {
		b[i] = letters[r.Intn(len(letters))]
	}
	return string(b)
}

func anyExec(r *rand.Rand) api.Exec {
	x := api.Exec{ID: anyName(r), Order: anyName(r), Account: anyName(r), Symbol: anyName(r), Kind: 1 + r.Intn(8), Buy: r.Intn(2) == 0}
	x.Qty, x.Price, x.Time = anyNumber(r, 0, small), anyNumber(r, 0, small), anyNumber(r, 0, api.MaxNum)
	if x.Kind == api.Replace || x.Kind == api.Bust || x.Kind == api.Correct {
		x.Ref = anyName(r)
	}
	return x
}

// anyMsg that may be.
func anyMsg(r *rand.Rand) api.Msg {
	m := api.Msg{Kind: 1 + r.Intn(7), Seq: anyNumber(r, 1, small), Time: anyNumber(r, 0, api.MaxNum), Copy: r.Intn(2) == 0}
	switch m.Kind {
	case api.Logon:
		m.A = anyNumber(r, 0, small)
	case api.Beat, api.Test:
		text := make([]byte, 1+r.Intn(64))
		for i := range text {
			text[i] = byte(2 + r.Intn(254))
		}
		m.Text = string(text)
		if m.Kind == api.Beat && r.Intn(2) == 0 {
			m.Text = ""
		}
	case api.Resend:
		m.A, m.B = anyNumber(r, 1, small), anyNumber(r, 0, small)
	case api.Reset:
		m.A, m.Gap = anyNumber(r, 1, small), r.Intn(2) == 0
	case api.Report:
		m.Exec = anyExec(r)
	}
	return m
}

// What is said is read as it was.
func TestReadAsSaid(t *testing.T) {
	r := rand.New(rand.NewSource(1))
	for range 20000 {
		if m := anyMsg(r); !check(t, m) {
			t.Fatalf("%+v may not be", m)
		}
	}
}

// step is a field that comes next in a body: its tag, which values it may have, and whether it may be missing.
type step struct {
	tag   string
	right func(string) bool
	may   bool
}

func among(texts ...string) func(string) bool {
	return func(s string) bool { return slices.Contains(texts, s) }
}

func numberIn(least, most int64) func(string) bool {
	return func(s string) bool {
		n, err := strconv.ParseInt(s, 10, 64)
		return err == nil && least <= n && n <= most && strconv.FormatInt(n, 10) == s
	}
}

// forms of bodies, each all the fields that it has.
func forms() [][]step {
	size, mark, time, name := numberIn(0, small), numberIn(1, small), numberIn(0, api.MaxNum), regexp.MustCompile("^[A-Za-z0-9]{1,16}$").MatchString
	text := func(s string) bool { return 1 <= len(s) && len(s) <= 64 }
	form := func(kind string, behind ...step) []step {
		return append([]step{{"35", among(kind), false}, {"34", mark, false}, {"52", time, false}, {"43", among("Y"), true}}, behind...)
	}
	report := func(ref []step, kinds ...string) []step {
		ahead := append([]step{{"17", name, false}}, ref...)
		return form("8", append(ahead, step{"11", name, false}, step{"1", name, false}, step{"55", name, false}, step{"54", among("1", "2"), false}, step{"150", among(kinds...), false},
			step{"32", size, false}, step{"31", size, false}, step{"60", time, false})...)
	}
	return [][]step{
		form("A", step{"108", size, false}), form("0", step{"112", text, true}), form("1", step{"112", text, false}), form("2", step{"7", mark, false}, step{"16", size, false}),
		form("4", step{"123", among("Y"), true}, step{"36", mark, false}), form("5"), report(nil, "1", "2", "3", "5", "6"), report([]step{{"19", name, false}}, "4", "7", "8"),
	}
}

// fits tells whether the fields of b are those of a form.
func fits(b []byte, form []step) bool {
	rest := string(b)
	for _, s := range form {
		part, behind, _ := strings.Cut(rest, "\x01")
		tag, value, _ := strings.Cut(part, "=")
		if tag == s.tag && s.right(value) {
			rest = behind
		} else if !s.may {
			return false
		}
	}
	return rest == ""
}

// values that a field may be given, of which many don't fit it.
func anyValue(r *rand.Rand) string {
	values := []string{"0", "1", "2", "5", "8", "9", "A", "Y", "N", "00", "01", "-1", "+1", "1099511627776", "1099511627777", "4611686018427387904", "4611686018427387905", "9223372036854775808", "a b", "x=y", strings.Repeat("m", 16), strings.Repeat("m", 17), strings.Repeat("m", 65)}
	if r.Intn(3) == 0 {
		return strconv.FormatInt(anyNumber(r, 0, small), 10)
	}
	return values[r.Intn(len(values))]
}

// changed are some fields with one or two of them off.
func changed(r *rand.Rand, l []api.Field) []api.Field {
	tags := []int{35, 34, 52, 43, 108, 112, 7, 16, 123, 36, 17, 19, 11, 1, 55, 54, 150, 32, 31, 60, 99}
	for range 1 + r.Intn(2) {
		i, other := r.Intn(len(l)), api.Field{Tag: tags[r.Intn(len(tags))], Value: anyValue(r)}
		switch r.Intn(6) {
		case 0, 1:
			l[i].Value = other.Value
		case 2:
			l = slices.Delete(l, i, i+1)
		case 3:
			l = slices.Insert(l, i+r.Intn(2), other)
		case 4:
			j := r.Intn(len(l))
			l[i], l[j] = l[j], l[i]
		case 5:
			l = slices.Insert(l, i, l[r.Intn(len(l))])
		}
		if len(l) == 0 {
			break
		}
	}
	return l
}

// What is read was said in just these bytes; all else is refused: held against the forms of bodies.
func TestReadInJustTheseBytes(t *testing.T) {
	const others = "=\x010123456789-AYaz \xff"
	r := rand.New(rand.NewSource(2))
	all := forms()
	read, none := 0, 0
	for range 60000 {
		b, _ := msg.Put(anyMsg(r))
		l, _ := field.Parse(b)
		if r.Intn(2) == 0 {
			b, _ = field.Put(changed(r, l))
		} else if i := r.Intn(len(b)); r.Intn(2) == 0 {
			b = slices.Replace(b, i, i+1, others[r.Intn(len(others))])
		} else {
			b = slices.Delete(b, i, i+1)
		}
		m, e := msg.Read(b)
		_, want := field.Parse(b)
		if want == api.OK && !slices.ContainsFunc(all, func(form []step) bool { return fits(b, form) }) {
			want = api.ErrForm
		}
		if e != want {
			t.Fatalf("Read of %q: %+v, %d; not %d", b, m, e, want)
		}
		if e != api.OK {
			none++
			if m != (api.Msg{}) {
				t.Fatalf("Read of %q: %+v beside %d", b, m, e)
			}
			continue
		}
		read++
		if back, e := msg.Put(m); !msg.Right(m) || !bytes.Equal(back, b) || e != api.OK {
			t.Fatalf("%q is read as %+v and put as %q, %d", b, m, back, e)
		}
	}
	if read < 5000 || none < 5000 {
		t.Errorf("only %d were read, and %d were none", read, none)
	}
}

func TestWhatIsHandedInStays(t *testing.T) {
	for _, given := range []string{"35=0|34=2|52=7|112=hi|", "35=8|34=4|52=9|17=e1|11=o1|1=a|55=X|54=1|150=2|32=5|31=70|60=9|", "35=0|34=2|52=7", "35=0|34=2|52=7|99=x|", ""} {
		room := bytesOf(given + "spare room")
		m, e := msg.Read(room[:len(given)])
		if string(room) != string(bytesOf(given+"spare room")) {
			t.Errorf("changed: %q", room)
		}
		// What was read stays when the bytes are overwritten, which may be used again.
		for i := range room {
			room[i] = 'z'
		}
		if again, e2 := msg.Read(bytesOf(given)); m != again || e != e2 {
			t.Errorf("what was read of %s hangs on its bytes: %+v", given, m)
		}
	}
}

func TestAnswersAreNew(t *testing.T) {
	for kind := 1; kind <= 7; kind++ {
		one, _ := msg.Put(sample(kind))
		two, _ := msg.Put(sample(kind))
		one = one[:cap(one)]
		for i := range one {
			one[i] = 'z'
		}
		if !bytes.Equal(two, body(sample(kind))) {
			t.Errorf("two answers share bytes: %q", two)
		}
	}
}
