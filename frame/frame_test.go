package frame_test

import (
	"bytes"
	"fmt"
	"math/rand"
	"regexp"
	"slices"
	"strconv"
	"strings"
	"testing"

	"checkroll/api"
	"checkroll/field"
	"checkroll/frame"
)

const (
	begin = "8=FIX.4.4\x019="
	small = "35=0\x0134=2\x01"
)

// framed is a body's frame, plainly: whether the body may be or not.
func framed(body string) string {
	return summed(begin + strconv.Itoa(len(body)) + "\x01" + body)
}

// summed is b and its sum's field behind it.
func summed(b string) string {
	sum := 0
	for i := range len(b) {
		sum += int(b[i])
	}
	return b + fmt.Sprintf("10=%03d\x01", sum%256)
}

// sized is a body of so many bytes, at least 4; of more fields than needed none.
func sized(size int) string {
	var b strings.Builder
	for b.Len() < size {
		left := size - b.Len()
		if left > 259 {
			// What is left behind this one is enough for one more.
			left = min(259, left-4)
		}
		b.WriteString("1=" + strings.Repeat("v", left-3) + "\x01")
	}
	return b.String()
}

// body of some fields that may be.
func anyBody(r *rand.Rand) []byte {
	var l []api.Field
	for range 1 + r.Intn(8) {
		value := make([]byte, 1+r.Intn(30))
		for i := range value {
			if value[i] = byte(r.Intn(256)); value[i] == 1 {
				value[i] = '8'
			}
		}
		l = append(l, api.Field{Tag: 11 + r.Intn(api.MaxTag-10), Value: string(value)})
	}
	b, _ := field.Put(l)
	return b
}

func TestSum(t *testing.T) {
	for _, c := range []struct {
		b   string
		sum int
	}{
		{"", 0}, {"\x00", 0}, {"\x01", 1}, {"a", 97}, {"\xff", 255}, {"\xff\x01", 0}, {"\xff\x02", 1}, {"\xff\xff", 254}, {"\x80\x80\x80", 128},
		{strings.Repeat("\x01", 255), 255}, {strings.Repeat("\x01", 256), 0}, {strings.Repeat("\x01", 1<<16+7), 7}, {strings.Repeat("\xff", 1<<16+1), 255},
	} {
		if sum := frame.Sum([]byte(c.b)); sum != c.sum {
			t.Errorf("Sum of %d bytes, %.10q: %d, not %d", len(c.b), c.b, sum, c.sum)
		}
	}
	if sum := frame.Sum(nil); sum != 0 {
		t.Errorf("Sum of nothing: %d", sum)
	}
}

func TestSized(t *testing.T) {
	for size := 4; size <= 9000; size++ {
		b := sized(size)
		if l, e := field.Parse([]byte(b)); len(b) != size || e != api.OK || len(l) > 50 {
			t.Fatalf("a body of %d bytes: %d, of %d fields, %d", size, len(b), len(l), e)
		}
	}
}

// bodies, and what is wrong with them.
var bodies = []struct {
	b string
	e api.Errno
}{
	{small, api.OK}, {"1=a\x01", api.OK}, {"7=a\x01", api.OK}, {"11=a\x01", api.OK}, {"80=a\x01", api.OK}, {"89=a\x01", api.OK}, {"100=a\x01", api.OK}, {"1010=a\x01", api.OK}, {"9999=a\x01", api.OK},
	{"1=8=FIX\x01", api.OK}, {"1=10=\x01", api.OK}, {"1=\x00\xff\x02\x01", api.OK}, {"1=a\x011=a\x01", api.OK},
	{strings.Repeat("1=a\x01", 100), api.OK}, {strings.Repeat("1=a\x01", 101), api.ErrArg}, {strings.Repeat("1=a\x01", 1999), api.ErrArg},
	{"1=" + strings.Repeat("v", 256) + "\x01", api.OK}, {"1=" + strings.Repeat("v", 257) + "\x01", api.ErrArg},
	{"", api.ErrArg}, {"\x01", api.ErrArg}, {"a", api.ErrArg}, {"35=0", api.ErrArg}, {"35=0\x0134", api.ErrArg}, {"35=0\x0134=2", api.ErrArg}, {"35=\x01", api.ErrArg}, {"=0\x01", api.ErrArg}, {"35=0\x01\x01", api.ErrArg}, {"035=0\x01", api.ErrArg}, {"0=0\x01", api.ErrArg}, {"10000=0\x01", api.ErrArg}, {"-1=0\x01", api.ErrArg}, {"1=a\x01x\x011=a\x01", api.ErrArg},
	{"8=a\x01", api.ErrArg}, {"9=a\x01", api.ErrArg}, {"10=a\x01", api.ErrArg}, {"1=a\x018=a\x01", api.ErrArg}, {"1=a\x019=1\x011=a\x01", api.ErrArg}, {"1=a\x0110=000\x01", api.ErrArg}, {strings.Repeat("1=a\x01", 99) + "10=a\x01", api.ErrArg}, {begin + "5\x01", api.ErrArg},
	{sized(7999), api.OK}, {sized(8000), api.OK}, {sized(8001), api.ErrLong}, {sized(9000), api.ErrLong},
	// Too long is told ahead of what may not be.
	{strings.Repeat("x", 8000), api.ErrArg}, {strings.Repeat("x", 8001), api.ErrLong}, {strings.Repeat("1=a\x01", 2000), api.ErrArg}, {strings.Repeat("1=a\x01", 2001), api.ErrLong}, {strings.Repeat("x", 1<<16+1), api.ErrLong},
}

func TestRight(t *testing.T) {
	for _, c := range bodies {
		if ok := frame.Right([]byte(c.b)); ok != (c.e == api.OK) {
			t.Errorf("Right of %d bytes, %.40q: %t", len(c.b), c.b, ok)
		}
	}
	if frame.Right(nil) {
		t.Error("nothing may be a body")
	}
}

func TestRightOfEachTag(t *testing.T) {
	for tag := range 10010 {
		ok := tag >= 1 && tag <= 9999 && tag != 8 && tag != 9 && tag != 10
		if frame.Right([]byte("1=a\x01"+strconv.Itoa(tag)+"=a\x01")) != ok {
			t.Errorf("Right of tag %d: not %t", tag, ok)
		}
	}
}

func TestPut(t *testing.T) {
	for _, c := range bodies {
		b, e := frame.Put([]byte(c.b))
		want := ""
		if c.e == api.OK {
			want = framed(c.b)
		}
		if string(b) != want || e != c.e {
			t.Errorf("Put of %d bytes, %.40q: %.60q, %d; not %d", len(c.b), c.b, b, e, c.e)
		}
		if e != api.OK && len(b) > 0 {
			t.Errorf("Put of %d bytes: %d and bytes beside it", len(c.b), e)
		}
	}
}

func TestPutByHand(t *testing.T) {
	for _, c := range []struct{ body, frame string }{
		{"35=0\x01", "8=FIX.4.4\x019=5\x0135=0\x0110=163\x01"},
		{"1=a\x01", "8=FIX.4.4\x019=4\x011=a\x0110=156\x01"},
		// The sum has three digits, 0s ahead.
		{"1=\xcc\x01", "8=FIX.4.4\x019=4\x011=\xcc\x0110=007\x01"},
		{"1=\xc5\x01", "8=FIX.4.4\x019=4\x011=\xc5\x0110=000\x01"},
		{"1=\xdb\x01", "8=FIX.4.4\x019=4\x011=\xdb\x0110=022\x01"},
		{"1=\xc4\x01", "8=FIX.4.4\x019=4\x011=\xc4\x0110=255\x01"},
	} {
		if b, e := frame.Put([]byte(c.body)); string(b) != c.frame || e != api.OK {
			t.Errorf("Put of %q: %q, %d", c.body, b, e)
		}
	}
}

// next is what Next ought to answer.
type next struct {
	kind int
	body string
	size int
}

func need() next             { return next{kind: api.Need} }
func junk(size int) next     { return next{kind: api.Junk, size: size} }
func whole(body string) next { return next{api.Frame, body, len(framed(body))} }

func ask(b []byte) next {
	kind, body, size := frame.Next(b)
	return next{kind, string(body), size}
}

func check(t *testing.T, b string, want next) {
	t.Helper()
	if got := ask([]byte(b)); got != want {
		t.Errorf("Next of %d bytes, %.60q: %d, %.40q, %d; not %d, %.40q, %d", len(b), b, got.kind, got.body, got.size, want.kind, want.body, want.size)
	}
}

func TestNextNeeds(t *testing.T) {
	check(t, "", need())
	for i := range len(begin) + 1 {
		check(t, begin[:i], need())
	}
	for n := 1; n <= 8000; n++ {
		check(t, begin+strconv.Itoa(n), need())
		check(t, begin+strconv.Itoa(n)+"\x01", need())
	}
	// What stands in these isn't looked at till all is there.
	for _, c := range []struct {
		size int
		rest string
	}{
		{1, "x"}, {1, "\x01"}, {5, "35=0\x0110=16"}, {5, "8=FIX.4.4\x01"}, {5, strings.Repeat("\x01", 11)}, {5, "8=a\x01\x0110=xxx"},
		{10, strings.Repeat("x", 16)}, {10, begin + "5"}, {8000, strings.Repeat("x", 8006)}, {8000, framed(small) + framed(small)},
	} {
		check(t, begin+strconv.Itoa(c.size)+"\x01"+c.rest, need())
	}
}

func TestNextOfAFramesFirstBytes(t *testing.T) {
	for _, body := range []string{small, "1=a\x01", sized(8000), sized(1000), sized(999)} {
		b := framed(body)
		for i := range len(b) {
			check(t, b[:i], need())
		}
		check(t, b, whole(body))
	}
}

func TestNextLength(t *testing.T) {
	for _, c := range []struct {
		text string
		want next
	}{
		{"0", junk(13)}, {"00", junk(14)}, {"01", junk(14)}, {"05\x01", junk(15)}, {"0\x01", junk(14)}, {"\x01", junk(13)}, {"x", junk(13)}, {"-", junk(13)}, {"-1", junk(14)}, {"+", junk(13)}, {"+5", junk(14)}, {"+5\x01", junk(15)}, {" 5", junk(14)}, {"5 ", junk(14)}, {"5x", junk(14)}, {"5=", junk(14)}, {"1_0", junk(15)}, {"1e3", junk(15)}, {"0x1", junk(15)},
		{"8000", need()}, {"8001", junk(16)}, {"8010", junk(16)}, {"9000", junk(16)}, {"9999", junk(16)}, {"8001\x01", junk(17)}, {"7999", need()}, {"9", need()}, {"99", need()}, {"999", need()},
		{"12345", junk(17)}, {"10000", junk(17)}, {"80000", junk(17)}, {"00001", junk(17)}, {"1234x", junk(17)}, {"12345\x01", junk(18)}, {"1234567890123456789012", junk(34)}, {"18446744073709551621\x01", junk(33)},
		{"8=F", junk(12)}, {"5" + begin, junk(13)}, {"12345" + begin + "5", junk(17)}, {"8", need()}, {"8=", junk(12)}, {"88", need()}, {"58=", junk(13)},
	} {
		check(t, begin+c.text, c.want)
	}
	for n := range 100000 {
		text := strconv.Itoa(n)
		if n < 1 || n > 8000 {
			check(t, begin+text+"\x01", next{kind: api.Junk, size: len(begin) + len(text) + 1})
		}
	}
}

func TestNextJunk(t *testing.T) {
	good := framed(small)
	for _, c := range []struct {
		b    string
		want next
	}{
		{"x", junk(1)}, {"x8=FIX", junk(1)}, {"xy", junk(2)}, {"x8", junk(1)}, {"88", junk(1)}, {"888", junk(2)}, {"888x", junk(4)}, {"8x", junk(2)}, {"8x8", junk(2)}, {"8=FIX.4.5", junk(9)}, {"8=8=8=", junk(4)}, {"8=8=8=x", junk(7)},
		{"x" + begin, junk(1)}, {"x" + begin + "0", junk(1)}, {"x" + begin + begin, junk(1)}, {begin + begin, junk(12)}, {begin + begin[:11], junk(12)}, {begin + "x" + begin, junk(13)}, {begin[:11] + begin, junk(11)}, {begin[:11] + "x", junk(12)},
		{"\x01", junk(1)}, {"\x00\x00", junk(2)}, {"=FIX.4.4\x019=", junk(11)}, {"8=fix.4.4\x019=", junk(12)}, {"8=FIX.4.4\x019\x01", junk(12)}, {"8=FIX.4.4|9=", junk(12)},
		{"x" + good, junk(1)}, {"xy" + good + good, junk(2)}, {good[1:], junk(len(good) - 1)}, {good[1:] + good, junk(len(good) - 1)}, {good[:20] + good + "xxxxxxxxxxxxxxx", junk(20)},
		{strings.Repeat("x", 100000), junk(100000)}, {strings.Repeat("x", 100000) + "8=FIX", junk(100000)}, {strings.Repeat("8", 100000), junk(99999)}, {strings.Repeat("8=", 50000) + good, junk(100000)}, {strings.Repeat("8=FI", 25000), junk(99996)}, {strings.Repeat("8=FI", 25000) + "Y", junk(100001)},
	} {
		check(t, c.b, c.want)
	}
}

func TestNextOfWrongFrames(t *testing.T) {
	good := framed(small)
	for _, b := range []string{
		// The sum, its digits and what stands about them.
		strings.Replace(good, "34=2", "34=3", 1), good[:len(good)-1] + "x", good[:len(good)-1] + "\x00", good[:len(good)-2] + "x\x01", good[:len(good)-4] + "999\x01", good[:len(good)-4] + "-01\x01",
		strings.Replace(good, "\x0110=", "\x0111=", 1), strings.Replace(good, "\x0110=", "\x01010", 1), strings.Replace(good, "\x0110=", "\x0110:", 1),
		begin + "4\x011=\xcc\x0110=  7\x01", begin + "4\x011=\xcc\x0110=7\x01\x01\x01", begin + "4\x011=\xcc\x0110=+07\x01", begin + "4\x011=\xcc\x0110=263\x01",
		// The length: of one byte more, of one less.
		summed(begin + "11\x01" + small), summed(begin + "9\x01" + small), summed(begin + "10\x01" + small + "x"),
		// Bodies that may not be.
		framed("x"), framed("\x01"), framed("35=0"), framed("8=0\x01"), framed("1=a\x019=0\x01"), framed("10=0\x01"), framed("1=a\x0110=000\x01"), framed(strings.Repeat("1=a\x01", 101)), framed("1=" + strings.Repeat("v", 257) + "\x01"), framed("01=a\x01"), framed("1=\x01"), framed(strings.Repeat("x", 8000)),
	} {
		for _, tail := range []string{"xxxxxxxxxxxxxxxx", "xxxxxxxxxxxxx8=F", "xxxxxxxxxxxxxxxx" + good} {
			check(t, b+tail, plain(b+tail))
			if got := ask([]byte(b + tail)); got.kind != api.Junk {
				t.Errorf("Next of %.60q: %d, %q", b+tail, got.kind, got.body)
			}
		}
	}
	// Each byte of a frame counts: with another one it is none any more.
	for i := range len(good) {
		for c := range 256 {
			b := []byte(good)
			b[i] = byte(c)
			if got := ask(b); (got.kind == api.Frame) != (good[i] == byte(c)) || got != plain(string(b)) {
				t.Errorf("Next of %q: %d, %q, %d", b, got.kind, got.body, got.size)
			}
		}
	}
}

func TestNextLooksAtNothingBehind(t *testing.T) {
	good := framed(small)
	for _, tail := range []string{"", "x", "8", begin, good, "\x01", strings.Repeat("x", 10000)} {
		check(t, good+tail, whole(small))
		long := sized(8000)
		check(t, framed(long)+tail, whole(long))
	}
}

var heading = regexp.MustCompile(`^8=FIX\.4\.4\x019=([1-9][0-9]{0,3})(\x01?)`)

// plain is a plain reading of what Next promises.
func plain(b string) next {
	if strings.HasPrefix(begin, b) {
		return need()
	}
	if m := heading.FindStringSubmatch(b); m != nil {
		if size, _ := strconv.Atoi(m[1]); size <= 8000 {
			all := len(m[0]) + size + 7
			switch {
			case m[2] == "" && len(m[0]) == len(b), m[2] != "" && len(b) < all:
				return need()
			case m[2] != "" && mayBe(b[len(m[0]):][:size]) && framed(b[len(m[0]):][:size]) == b[:all]:
				return next{api.Frame, b[len(m[0]):][:size], all}
			}
		}
	}
	for i := 1; i < len(b); i++ {
		if strings.HasPrefix(b[i:], begin) || strings.HasPrefix(begin, b[i:]) {
			return junk(i)
		}
	}
	return junk(len(b))
}

// mayBe tells plainly whether a body may be, by its fields' form.
func mayBe(body string) bool {
	l, e := field.Parse([]byte(body))
	own := func(f api.Field) bool { return slices.Contains([]int{8, 9, 10}, f.Tag) }
	return e == api.OK && len(l) > 0 && !slices.ContainsFunc(l, own)
}

// stream of pieces of frames, changed here and there.
func stream(r *rand.Rand) []byte {
	pieces := []string{"8", "8=", "8=FIX.4.4\x01", begin, begin + "5\x01", begin + "12", "10=", "\x01", "35=0\x01", "x", "8=FIX", "10=163\x01", "0", framed("35=0\x01"), framed("1=a\x01"), framed("8=0\x01"), framed(small), summed(begin + "05\x0135=0\x01"), framed("")}
	var b []byte
	for range r.Intn(6) {
		b = append(b, pieces[r.Intn(len(pieces))]...)
	}
	for r.Intn(3) == 0 && len(b) > 0 {
		b[r.Intn(len(b))] = pieces[r.Intn(len(pieces))][0]
	}
	return b[:len(b)-r.Intn(1+len(b)/2)]
}

func TestNextAgainstPlainReading(t *testing.T) {
	r := rand.New(rand.NewSource(3))
	seen := map[int]int{}
	for range 200000 {
		b := stream(r)
		want := plain(string(b))
		seen[want.kind]++
		check(t, string(b), want)
	}
	for kind := range 3 {
		if seen[kind] < 10000 {
			t.Errorf("kind %d stood only %d times", kind, seen[kind])
		}
	}
}

// Of all texts of a few bytes behind the beginning.
func TestNextOfAllShortTexts(t *testing.T) {
	const letters = "\x0108=159"
	var all func(text string, left int)
	all = func(text string, left int) {
		for _, head := range []string{"", "8=FIX.4.4\x01", begin} {
			check(t, head+text, plain(head+text))
		}
		for i := 0; i < len(letters) && left > 0; i++ {
			all(text+letters[i:i+1], left-1)
		}
	}
	all("", 5)
}

func TestWhatIsPutIsFound(t *testing.T) {
	r := rand.New(rand.NewSource(4))
	for range 20000 {
		body := anyBody(r)
		b, e := frame.Put(body)
		if e != api.OK {
			t.Fatalf("Put of %q: %d", body, e)
		}
		behind := stream(r)
		check(t, string(b)+string(behind), next{api.Frame, string(body), len(b)})
		ahead := make([]byte, r.Intn(20))
		for i := range ahead {
			if ahead[i] = byte(r.Intn(256)); ahead[i] == '8' {
				ahead[i] = '9'
			}
		}
		if len(ahead) == 0 {
			continue
		}
		check(t, string(ahead)+string(b)+string(behind), junk(len(ahead)))
	}
}

// Frames with junk between, in which an 8 may stand, are all found if none begins in the junk.
func TestStreamIsReadThrough(t *testing.T) {
	r := rand.New(rand.NewSource(5))
	for range 2000 {
		var b []byte
		var want, got []string
		for range r.Intn(10) {
			if r.Intn(2) == 0 {
				b = append(b, strings.Repeat("8=FIXx", r.Intn(4))...)
			}
			body := anyBody(r)
			f, _ := frame.Put(body)
			b = append(b, f...)
			want = append(want, string(body))
		}
		for len(b) > 0 {
			n := ask(b)
			if n.size < 1 || n.size > len(b) {
				t.Fatalf("Next of %d bytes takes %d", len(b), n.size)
			}
			if n.kind == api.Frame {
				got = append(got, n.body)
			}
			b = b[n.size:]
		}
		if !slices.Equal(got, want) {
			t.Errorf("%d frames are found, not %d", len(got), len(want))
		}
	}
}

// with spare room behind, to be seen if it is written.
func spare(text string) []byte {
	return append([]byte(text), "spare room of some bytes"...)[:len(text)]
}

func TestWhatIsHandedInStays(t *testing.T) {
	for _, text := range []string{small, framed(small), framed(small) + "x", "x" + framed(small), begin + "5", ""} {
		b := spare(text)
		before := bytes.Clone(b[:cap(b)])
		frame.Sum(b)
		frame.Right(b)
		frame.Put(b)
		frame.Next(b)
		if !bytes.Equal(b[:cap(b)], before) {
			t.Errorf("%q was changed", text)
		}
	}
}

func TestAnswersAreNew(t *testing.T) {
	body := spare(small)
	b, _ := frame.Put(body)
	again, _ := frame.Put(body)
	for i := range b[:cap(b)] {
		b[:cap(b)][i] = 'x'
	}
	if string(body) != small || string(again) != framed(small) {
		t.Error("a frame shares memory")
	}
	given := spare(framed(small))
	before := bytes.Clone(given[:cap(given)])
	_, found, _ := frame.Next(given)
	_, other, _ := frame.Next(given)
	for i := range found[:cap(found)] {
		found[:cap(found)][i] = 'x'
	}
	if !bytes.Equal(given[:cap(given)], before) || string(other) != small {
		t.Error("a body shares memory")
	}
}
