package field_test

import (
	"bytes"
	"fmt"
	"math"
	"math/rand"
	"regexp"
	"slices"
	"strings"
	"testing"

	"checkroll/api"
	"checkroll/field"
)

// text of so many bytes that none of them is 1.
func text(size int) string {
	return strings.Repeat("v", size)
}

func one(tag int, value string) api.Field {
	return api.Field{Tag: tag, Value: value}
}

// show fields, of long ones only the beginning.
func show(l []api.Field) string {
	return fmt.Sprintf("%d fields, %.80q", len(l), fmt.Sprint(l))
}

// many times the same field.
func many(count int, f api.Field) []api.Field {
	return slices.Repeat([]api.Field{f}, count)
}

// anyValue has from 1 to MaxValue bytes, any but 1.
func anyValue(r *rand.Rand) string {
	b := make([]byte, 1+r.Intn(api.MaxValue))
	for i := range b {
		if b[i] = byte(r.Intn(256)); b[i] == 1 {
			b[i] = '='
		}
	}
	return string(b)
}

// anyFields are so many that may be.
func anyFields(r *rand.Rand, count int) []api.Field {
	l := make([]api.Field, count)
	for i := range l {
		l[i] = one(1+r.Intn(api.MaxTag), anyValue(r))
	}
	return l
}

func TestRight(t *testing.T) {
	for _, c := range []struct {
		tag   int
		value string
		ok    bool
	}{
		{35, "A", true}, {1, "a", true}, {api.MaxTag, "a", true}, {api.MaxTag - 1, "a", true},
		{0, "a", false}, {-1, "a", false}, {api.MaxTag + 1, "a", false}, {-35, "a", false},
		{math.MaxInt, "a", false}, {math.MinInt, "a", false}, {1<<32 + 1, "a", false}, {1<<16 + 1, "a", false},
		{1, "", false}, {1, text(255), true}, {1, text(256), true}, {1, text(257), false}, {1, text(1 << 16), false},
		{1, "\x01", false}, {1, "\x01a", false}, {1, "a\x01", false}, {1, "a\x01b", false}, {1, text(255) + "\x01", false},
		{1, "\x00", true}, {1, "\x02", true}, {1, "=", true}, {1, "a=b=", true}, {1, " ", true}, {1, "\n", true}, {1, "\xff\xfe", true},
		// Bytes are counted, not runes; and of a rune's bytes none is 1.
		{1, strings.Repeat("\u0101", 128), true}, {1, strings.Repeat("\u0101", 128) + "a", false}, {1, strings.Repeat("\u0101", 129), false},
		{0, "", false}, {0, "\x01", false},
	} {
		if field.Right(one(c.tag, c.value)) != c.ok {
			t.Errorf("Right of %d and %d bytes, %.10q: not %t", c.tag, len(c.value), c.value, c.ok)
		}
	}
}

func TestRightOfEachTag(t *testing.T) {
	for tag := -100; tag < 70000; tag++ {
		if ok := field.Right(one(tag, "a")); ok != (tag >= 1 && tag <= 9999) {
			t.Errorf("Right of tag %d: %t", tag, ok)
		}
	}
}

func TestRightOfEachByte(t *testing.T) {
	for b := range 256 {
		for _, value := range []string{string([]byte{byte(b)}), string([]byte{'a', byte(b), 'a'})} {
			if ok := field.Right(one(1, value)); ok != (b != 1) {
				t.Errorf("Right of %q: %t", value, ok)
			}
		}
	}
}

func TestPut(t *testing.T) {
	for _, c := range []struct {
		l []api.Field
		b string
		e api.Errno
	}{
		{nil, "", api.OK}, {[]api.Field{}, "", api.OK},
		{[]api.Field{one(35, "A")}, "35=A\x01", api.OK},
		{[]api.Field{one(1, "a"), one(9999, "x=y"), one(1, "-5")}, "1=a\x019999=x=y\x011=-5\x01", api.OK},
		{[]api.Field{one(10, "="), one(100, "\x00\xff")}, "10==\x01100=\x00\xff\x01", api.OK},
		{[]api.Field{one(7, text(256))}, "7=" + text(256) + "\x01", api.OK},
		{many(100, one(1, "a")), strings.Repeat("1=a\x01", 100), api.OK},
		{[]api.Field{one(0, "a")}, "", api.ErrArg}, {[]api.Field{one(-1, "a")}, "", api.ErrArg}, {[]api.Field{one(10000, "a")}, "", api.ErrArg},
		{[]api.Field{one(1, "")}, "", api.ErrArg}, {[]api.Field{one(1, text(257))}, "", api.ErrArg}, {[]api.Field{one(1, "a\x012=b")}, "", api.ErrArg},
		{[]api.Field{one(1, "a"), one(2, "b"), one(3, "")}, "", api.ErrArg}, {[]api.Field{one(1, ""), one(2, "b")}, "", api.ErrArg},
		{append(many(99, one(1, "a")), api.Field{}), "", api.ErrArg},
		{many(100, api.Field{}), "", api.ErrArg},
		{many(101, one(1, "a")), "", api.ErrLong}, {many(5000, one(1, "a")), "", api.ErrLong},
		// Too many is told ahead of one that may not be.
		{many(101, api.Field{}), "", api.ErrLong}, {append(many(100, api.Field{}), one(1, "a")), "", api.ErrLong},
	} {
		if b, e := field.Put(c.l); string(b) != c.b || e != c.e {
			t.Errorf("Put of %s: %.60q, %d; not %.60q, %d", show(c.l), b, e, c.b, c.e)
		}
	}
}

func TestParse(t *testing.T) {
	for _, c := range []struct {
		b string
		l []api.Field
		e api.Errno
	}{
		{"", nil, api.OK},
		{"35=A\x01", []api.Field{one(35, "A")}, api.OK},
		{"1=a\x019999=x=y\x011=-5\x01", []api.Field{one(1, "a"), one(9999, "x=y"), one(1, "-5")}, api.OK},
		{"1==\x01", []api.Field{one(1, "=")}, api.OK}, {"1===\x01", []api.Field{one(1, "==")}, api.OK}, {"1= \x01", []api.Field{one(1, " ")}, api.OK},
		{"1=\x00\xff\xfe\x02\n\x01", []api.Field{one(1, "\x00\xff\xfe\x02\n")}, api.OK},
		{"1=" + text(256) + "\x01", []api.Field{one(1, text(256))}, api.OK},
		{"1", nil, api.ErrShort}, {"1=", nil, api.ErrShort}, {"1=a", nil, api.ErrShort}, {"1=a\x012=b", nil, api.ErrShort}, {"1=a\x012", nil, api.ErrShort},
		{"1=a\x00", nil, api.ErrShort}, {"a", nil, api.ErrShort}, {"=", nil, api.ErrShort}, {"1=" + text(257), nil, api.ErrShort},
		{"\x01", nil, api.ErrForm}, {"=\x01", nil, api.ErrForm}, {"1\x01", nil, api.ErrForm}, {"1=\x01", nil, api.ErrForm}, {"=a\x01", nil, api.ErrForm},
		{"35A\x01", nil, api.ErrForm}, {"A=35\x01", nil, api.ErrForm}, {"1:a\x01", nil, api.ErrForm}, {"1=a\x01\x01", nil, api.ErrForm}, {"\x011=a\x01", nil, api.ErrForm},
		{"0=a\x01", nil, api.ErrForm}, {"00=a\x01", nil, api.ErrForm}, {"01=a\x01", nil, api.ErrForm}, {"-1=a\x01", nil, api.ErrForm}, {"-0=a\x01", nil, api.ErrForm},
		{"+1=a\x01", nil, api.ErrForm}, {" 1=a\x01", nil, api.ErrForm}, {"1 =a\x01", nil, api.ErrForm}, {"1.0=a\x01", nil, api.ErrForm}, {"0x1=a\x01", nil, api.ErrForm},
		{"9999=a\x01", []api.Field{one(9999, "a")}, api.OK}, {"10000=a\x01", nil, api.ErrForm}, {"09999=a\x01", nil, api.ErrForm},
		// Tags that fewer bits would show as a small one, or that are no number at all.
		{"65537=a\x01", nil, api.ErrForm}, {"4294967297=a\x01", nil, api.ErrForm}, {"-4294967295=a\x01", nil, api.ErrForm}, {"4611686018427387905=a\x01", nil, api.ErrForm},
		{"18446744073709551617=a\x01", nil, api.ErrForm}, {strings.Repeat("1", 30) + "=a\x01", nil, api.ErrForm},
		{"1=" + text(257) + "\x01", nil, api.ErrForm},
	} {
		if l, e := field.Parse([]byte(c.b)); !slices.Equal(l, c.l) || e != c.e {
			t.Errorf("Parse(%.60q): %s, %d; not %s, %d", c.b, show(l), e, show(c.l), c.e)
		}
	}
}

// What is told of several faults is the first field's; of one field's the first by name.
func TestParseTellsTheFirstFault(t *testing.T) {
	hundred := strings.Repeat("1=a\x01", 100)
	for _, c := range []struct {
		b string
		e api.Errno
	}{
		{"1=a\x01x\x012=b", api.ErrForm}, {"1=a\x01x\x01" + hundred, api.ErrForm}, {"x", api.ErrShort},
		{hundred, api.OK}, {hundred + "2=b\x01", api.ErrLong}, {hundred + hundred, api.ErrLong},
		{hundred + "2=b", api.ErrShort}, {hundred + "2", api.ErrShort}, {hundred + "x", api.ErrShort},
		{hundred + "x\x01", api.ErrForm}, {hundred + "\x01", api.ErrForm}, {hundred + "2=" + text(257) + "\x01", api.ErrForm},
		// Of what is behind the one too many nothing is told.
		{hundred + "2=b\x01x\x01", api.ErrLong}, {hundred + "2=b\x01x", api.ErrLong},
		{hundred[4:] + "x\x012=b\x01", api.ErrForm}, {hundred[4:] + "2=b", api.ErrShort},
	} {
		if l, e := field.Parse([]byte(c.b)); e != c.e || e != api.OK && len(l) > 0 {
			t.Errorf("Parse of %d bytes, that end with %q: %d fields, %d; not %d", len(c.b), c.b[max(0, len(c.b)-12):], len(l), e, c.e)
		}
	}
}

// Of 2^16 bytes each field is looked at, of one more none.
func TestParseLength(t *testing.T) {
	const most = 1 << 16
	hundred := strings.Repeat("1=a\x01", 100)
	fill := func(begin string, size int) string { return begin + text(size-len(begin)) }
	for _, c := range []struct {
		b string
		e api.Errno
	}{
		{fill("", most), api.ErrShort}, {fill("x\x01", most), api.ErrForm}, {fill(hundred, most), api.ErrShort}, {fill(hundred+"1=a\x01", most), api.ErrLong},
		{fill("1=", most-1) + "\x01", api.ErrForm}, {strings.Repeat("\x01", most), api.ErrForm},
		{fill("", most+1), api.ErrLong}, {fill("x\x01", most+1), api.ErrLong}, {fill(hundred, most+1), api.ErrLong},
		{fill("1=", most) + "\x01", api.ErrLong}, {strings.Repeat("\x01", most+1), api.ErrLong}, {fill("", 1<<20), api.ErrLong},
	} {
		if l, e := field.Parse([]byte(c.b)); e != c.e || len(l) > 0 {
			t.Errorf("Parse of %d bytes, %.8q: %d fields, %d; not %d", len(c.b), c.b, len(l), e, c.e)
		}
	}
}

func TestGet(t *testing.T) {
	l := []api.Field{one(35, "A"), one(7, "first"), one(9999, "x=y"), one(7, "second"), one(8, "\x00")}
	for _, c := range []struct {
		l     []api.Field
		tag   int
		value string
		ok    bool
	}{
		{l, 35, "A", true}, {l, 7, "first", true}, {l[2:], 7, "second", true}, {l, 9999, "x=y", true}, {l, 8, "\x00", true},
		{l, 36, "", false}, {l, 3, "", false}, {l, -35, "", false}, {l, 0, "", false}, {l, 10000, "", false}, {l[1:], 35, "", false}, {l[:1], 7, "", false},
		{l, math.MaxInt, "", false}, {l, math.MinInt, "", false}, {l, 1<<32 + 35, "", false},
		{nil, 35, "", false}, {[]api.Field{}, 0, "", false},
		// The first of this tag, whatever is in it.
		{[]api.Field{one(7, ""), one(7, "second")}, 7, "", true}, {[]api.Field{one(0, "a"), one(-1, "b")}, -1, "b", true}, {[]api.Field{{}}, 0, "", true},
	} {
		if value, ok := field.Get(c.l, c.tag); value != c.value || ok != c.ok {
			t.Errorf("Get of %s, %d: %q, %t; not %q, %t", show(c.l), c.tag, value, ok, c.value, c.ok)
		}
	}
}

func TestNum(t *testing.T) {
	for _, c := range []struct {
		value string
		n     int64
		ok    bool
	}{
		{"0", 0, true}, {"7", 7, true}, {"-5", -5, true}, {"1234567890", 1234567890, true},
		{"4611686018427387904", api.MaxNum, true}, {"-4611686018427387904", -api.MaxNum, true},
		{"4611686018427387905", 0, false}, {"-4611686018427387905", 0, false}, {strings.Repeat("1", 30), 0, false},
		{"", 0, false}, {"A", 0, false}, {"07", 0, false}, {"-07", 0, false}, {"-0", 0, false}, {"+7", 0, false}, {" 7", 0, false}, {"7 ", 0, false}, {"7x", 0, false}, {"-", 0, false},
	} {
		l := []api.Field{one(34, "1"), one(35, c.value), one(35, "3"), one(36, "4")}
		if n, ok := field.Num(l, 35); n != c.n || ok != c.ok {
			t.Errorf("Num of %q: %d, %t; not %d, %t", c.value, n, ok, c.n, c.ok)
		}
	}
}

func TestNumOfNone(t *testing.T) {
	l := []api.Field{one(35, "1"), one(36, "2")}
	for _, tag := range []int{0, 1, 34, 37, -35, math.MaxInt, math.MinInt} {
		if n, ok := field.Num(l, tag); n != 0 || ok {
			t.Errorf("Num of %s, %d: %d, %t", show(l), tag, n, ok)
		}
	}
	if n, ok := field.Num(nil, 35); n != 0 || ok {
		t.Error("Num of no fields:", n, ok)
	}
}

// What is put is read as it was.
func TestPutAndParse(t *testing.T) {
	r := rand.New(rand.NewSource(1))
	for i := range 2000 {
		l := anyFields(r, i%(api.MaxFields+1))
		b, e := field.Put(l)
		if e != api.OK {
			t.Fatalf("Put of %s: %d", show(l), e)
		}
		if back, e := field.Parse(b); !slices.Equal(back, l) || e != api.OK {
			t.Fatalf("%s, put as %.60q and read as %s, %d", show(l), b, show(back), e)
		}
	}
}

func TestEachTagIsReadAsPut(t *testing.T) {
	for tag := 1; tag <= api.MaxTag; tag++ {
		b, _ := field.Put([]api.Field{one(tag, "a")})
		if l, e := field.Parse(b); len(l) != 1 || l[0].Tag != tag || e != api.OK {
			t.Errorf("tag %d is put as %q and read as %s, %d", tag, b, show(l), e)
		}
	}
}

// plain tells what Parse answers, of bytes so few that no limit is met.
func plain(form *regexp.Regexp, b string) ([]api.Field, api.Errno) {
	var l []api.Field
	for _, part := range strings.SplitAfter(b, "\x01") {
		parts := form.FindStringSubmatch(part)
		switch {
		case part == "":
			return l, api.OK
		case !strings.HasSuffix(part, "\x01"):
			return nil, api.ErrShort
		case parts == nil:
			return nil, api.ErrForm
		}
		tag := 0
		for _, digit := range parts[1] {
			tag = 10*tag + int(digit-'0')
		}
		l = append(l, one(tag, parts[2]))
	}
	return l, api.OK
}

// What is read was put in just these bytes, and all else is refused: held against a plain reading, for all bytes of a few kinds.
func TestReadInJustTheseBytes(t *testing.T) {
	const kinds = "=\x01019-a"
	form := regexp.MustCompile("^([1-9][0-9]{0,3})=([^\x01]+)\x01$")
	read := 0
	for size, all := 0, 1; size <= 7; size, all = size+1, all*len(kinds) {
		b := make([]byte, size)
		for n := range all {
			for i := range b {
				b[i] = kinds[n%len(kinds)]
				n /= len(kinds)
			}
			want, wrong := plain(form, string(b))
			l, e := field.Parse(b)
			if !slices.Equal(l, want) || e != wrong {
				t.Fatalf("Parse(%q): %s, %d; not %s, %d", b, show(l), e, show(want), wrong)
			}
			if e != api.OK {
				continue
			}
			read++
			if back, e := field.Put(l); !bytes.Equal(back, b) || e != api.OK {
				t.Fatalf("%.60q is read as %s and put as %.60q, %d", b, show(l), back, e)
			}
		}
	}
	if read < 1000 {
		t.Error("only so many were the bytes of fields:", read)
	}
}

// One byte that is changed, taken away or put in: what is still read is put in just these bytes.
func TestReadWithOneByteOff(t *testing.T) {
	r := rand.New(rand.NewSource(2))
	for range 20000 {
		b, _ := field.Put(anyFields(r, 1+r.Intn(4)))
		i, other := r.Intn(len(b)), []byte{"=\x010123456789-+ ax"[r.Intn(17)]}
		switch r.Intn(3) {
		case 0:
			b = slices.Replace(b, i, i+1, other...)
		case 1:
			b = slices.Delete(b, i, i+1)
		case 2:
			b = slices.Insert(b, i, other...)
		}
		l, e := field.Parse(b)
		if e != api.OK {
			if len(l) > 0 {
				t.Fatalf("beside %d: %s", e, show(l))
			}
			continue
		}
		if back, e := field.Put(l); !bytes.Equal(back, b) || e != api.OK {
			t.Fatalf("%.60q is read as %s and put as %.60q, %d", b, show(l), back, e)
		}
	}
}

func TestWhatIsHandedInStays(t *testing.T) {
	fields := []api.Field{one(35, "7"), one(36, "b"), one(37, "spare"), one(38, "spare")}
	field.Put(fields[:2])
	field.Get(fields[:2], 36)
	field.Num(fields[:2], 35)
	if !slices.Equal(fields, []api.Field{one(35, "7"), one(36, "b"), one(37, "spare"), one(38, "spare")}) {
		t.Error("changed:", fields)
	}
	for _, given := range []string{"35=7\x0136=b\x01", "35=7\x0136=b", "35=7\x01x\x01"} {
		room := []byte(given + "spare")
		field.Parse(room[:len(given)])
		if string(room) != given+"spare" {
			t.Errorf("changed: %q", room)
		}
	}
}

func TestAnswersAreNew(t *testing.T) {
	b := []byte("35=A\x0136=b\x01")
	l, _ := field.Parse(b)
	for i := range b {
		b[i] = 'x'
	}
	if !slices.Equal(l, []api.Field{one(35, "A"), one(36, "b")}) {
		t.Error("the fields hang on the bytes that they were read of:", l)
	}
	one, _ := field.Put(l)
	two, _ := field.Put(l)
	one[0] = 'x'
	if string(two) != "35=A\x0136=b\x01" {
		t.Errorf("two answers share bytes: %q", two)
	}
}
