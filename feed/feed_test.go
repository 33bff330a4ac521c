package feed_test

import (
	"bytes"
	"fmt"
	"math/rand"
	"slices"
	"strings"
	"testing"

	"checkroll/api"
	"checkroll/feed"
	"checkroll/frame"
)

const (
	begin = "8=FIX.4.4\x019="
	beat  = "35=0\x01"
	test  = "35=1\x01112=x\x01"
	// wrong is a frame but for its body, in which there is a tag that may not be.
	wrong = begin + "4\x018=0\x0110=114\x01"
)

// framed is the frame of a body that may be.
func framed(body string) string {
	b, e := frame.Put([]byte(body))
	if e != api.OK {
		panic("no body: " + body)
	}
	return string(b)
}

// fields are a body of so many fields, each of so many bytes, at least 4.
func fields(many, size int) string {
	return strings.Repeat("1="+strings.Repeat("v", size-3)+"\x01", many)
}

// told is what was told of a stream, and what is kept of it.
type told struct {
	kept   string
	bodies []string
	junk   int
}

func (w told) same(o told) bool {
	return w.kept == o.kept && slices.Equal(w.bodies, o.bodies) && w.junk == o.junk
}

func (w told) String() string {
	return fmt.Sprintf("%d bodies %.120q, %d of junk, %d kept: %.60q", len(w.bodies), w.bodies, w.junk, len(w.kept), w.kept)
}

// in hands on one piece, which must come in.
func in(t *testing.T, kept, piece string) told {
	t.Helper()
	k, l, junk, e := feed.In([]byte(kept), []byte(piece))
	if e != api.OK {
		t.Fatalf("In of %d and %d bytes: %d", len(kept), len(piece), e)
	}
	w := told{kept: string(k), junk: junk}
	for _, body := range l {
		w.bodies = append(w.bodies, string(body))
	}
	return w
}

// inPieces hands on one piece after the other, and answers what was told in all.
func inPieces(t *testing.T, kept string, pieces ...string) told {
	t.Helper()
	all := told{kept: kept}
	for _, piece := range pieces {
		w := in(t, all.kept, piece)
		all = told{w.kept, append(all.bodies, w.bodies...), all.junk + w.junk}
	}
	return all
}

func check(t *testing.T, kept, piece string, want told) {
	t.Helper()
	if got := in(t, kept, piece); !got.same(want) {
		t.Errorf("In(%.60q, %.60q): %v; not %v", kept, piece, got, want)
	}
}

// Whole streams, and what is told of them.
var streams = []struct {
	b    string
	want told
}{
	{"", told{}},
	{framed(beat), told{bodies: []string{beat}}},
	{framed(beat) + framed(test), told{bodies: []string{beat, test}}},
	{framed(test) + framed(beat) + framed(test), told{bodies: []string{test, beat, test}}},
	{framed(beat) + framed(beat), told{bodies: []string{beat, beat}}},
	{"x", told{junk: 1}}, {"junk", told{junk: 4}}, {"8", told{kept: "8"}}, {"88", told{kept: "8", junk: 1}}, {"x8=FIX", told{kept: "8=FIX", junk: 1}}, {"8=FIX.4.5", told{junk: 9}}, {"8=8=FI", told{kept: "8=FI", junk: 2}},
	{begin, told{kept: begin}}, {begin + "8000", told{kept: begin + "8000"}}, {begin + "8001", told{junk: 16}}, {begin + "0", told{junk: 13}}, {begin + "5x" + begin, told{kept: begin, junk: 14}},
	{"xy" + framed(beat), told{bodies: []string{beat}, junk: 2}},
	{framed(beat) + "xyz", told{bodies: []string{beat}, junk: 3}},
	{"x" + framed(beat) + "yz" + framed(test) + "abc" + begin + "9", told{kept: begin + "9", bodies: []string{beat, test}, junk: 6}},
	{"8" + framed(beat) + "8=" + framed(test) + "8=FIX.4.4\x01", told{kept: "8=FIX.4.4\x01", bodies: []string{beat, test}, junk: 3}},
	{"junk" + framed(beat) + "8=" + framed(test) + framed(beat)[:7], told{kept: "8=FIX.4", bodies: []string{beat, test}, junk: 6}},
	// A frame that is none, by its sum or its body, is junk, and one behind it is found.
	{strings.Replace(framed(beat), "163", "164", 1) + framed(test), told{bodies: []string{test}, junk: 26}},
	{wrong + framed(test), told{bodies: []string{test}, junk: len(wrong)}},
	{begin + "8\x01nonsense10=057\x01" + framed(beat) + wrong + "8", told{kept: "8", bodies: []string{beat}, junk: 29 + len(wrong)}},
	// A length that reaches beyond: what stands in it is looked at once all of it is there.
	{begin + "30\x01" + framed(beat), told{kept: begin + "30\x01" + framed(beat)}},
	{begin + "30\x01" + framed(beat) + framed(test), told{bodies: []string{beat, test}, junk: 15}},
	{framed(beat) + framed(test)[:20] + framed(beat), told{bodies: []string{beat, beat}, junk: 20}},
	// The longest frame, of 8000 bytes of body.
	{framed(fields(32, 250)), told{bodies: []string{fields(32, 250)}}},
	{framed(fields(32, 250))[:8023], told{kept: framed(fields(32, 250))[:8023]}},
	{"x" + framed(fields(32, 250)) + framed(fields(32, 249)) + framed(beat)[:23], told{kept: framed(beat)[:23], bodies: []string{fields(32, 250), fields(32, 249)}, junk: 1}},
}

func TestInWhole(t *testing.T) {
	for _, c := range streams {
		check(t, "", c.b, c.want)
		// The piece comes behind what is kept, which is taken with it.
		check(t, c.b, "", c.want)
	}
}

func TestInHalves(t *testing.T) {
	b := framed(beat)
	for i := range len(b) {
		check(t, "", b[:i], told{kept: b[:i]})
		check(t, b[:i], b[i:], told{bodies: []string{beat}})
		check(t, b[:i], b[i:]+"8=", told{kept: "8=", bodies: []string{beat}})
	}
}

func TestInKeptOfAnyBytes(t *testing.T) {
	for _, c := range []struct {
		kept, piece string
		want        told
	}{
		{"junk", "", told{junk: 4}}, {"junk", "x", told{junk: 5}}, {"x8=", "FIX", told{kept: "8=FIX", junk: 1}}, {"x8=", "FIY", told{junk: 6}},
		{"8", "8", told{kept: "8", junk: 1}}, {"8=FIX.4.4\x019", framed(beat), told{bodies: []string{beat}, junk: 11}},
		{framed(beat), framed(test), told{bodies: []string{beat, test}}}, {framed(beat) + "x", "y" + framed(test), told{bodies: []string{beat, test}, junk: 2}},
		{framed(beat) + framed(test)[:9], framed(test)[9:] + "x", told{bodies: []string{beat, test}, junk: 1}},
	} {
		check(t, c.kept, c.piece, c.want)
	}
}

func TestInTooLong(t *testing.T) {
	whole, part := framed(beat), framed(beat)[:9]
	fill := func(head string, size int) string { return head + strings.Repeat("x", size-len(head)) }
	for _, c := range []struct {
		kept, piece string
		e           api.Errno
	}{
		{fill(whole, 1<<14-1), "", api.OK}, {fill(whole, 1<<14), "", api.ErrLong}, {fill(whole, 1<<14+1), "", api.ErrLong}, {fill(part, 1<<17), "", api.ErrLong},
		{"", fill(whole, 1<<16), api.OK}, {"", fill(whole, 1<<16+1), api.ErrLong}, {whole, fill(whole, 1<<16+1), api.ErrLong}, {part, fill("", 1<<20), api.ErrLong},
		{fill(whole, 1<<14-1), fill(whole, 1<<16), api.OK}, {fill(whole, 1<<14-1), fill(whole, 1<<16+1), api.ErrLong}, {fill(whole, 1<<14), fill(whole, 1<<16), api.ErrLong}, {fill(whole, 1<<14), fill(whole, 1<<16+1), api.ErrLong},
		{fill("", 1<<14), whole, api.ErrLong}, {part, fill(whole, 1<<16), api.OK}, {part, fill(whole, 1<<15), api.OK},
	} {
		kept, bodies, junk, e := feed.In([]byte(c.kept), []byte(c.piece))
		if e != c.e {
			t.Errorf("In of %d and %d bytes: %d, not %d", len(c.kept), len(c.piece), e, c.e)
		}
		if e == api.OK && (len(kept) > 0 || len(bodies)+junk == 0) {
			t.Errorf("In of %d and %d bytes: %d kept, %d bodies, %d of junk", len(c.kept), len(c.piece), len(kept), len(bodies), junk)
		}
		if e != api.OK && (string(kept) != c.kept || len(bodies) > 0 || junk != 0) {
			t.Errorf("In of %d and %d bytes: %d beside %d kept, %d bodies, %d of junk", len(c.kept), len(c.piece), e, len(kept), len(bodies), junk)
		}
	}
}

func TestInMuch(t *testing.T) {
	junk := strings.Repeat("x", 1<<16)
	check(t, "", junk, told{junk: 1 << 16})
	check(t, junk[:1<<14-1], junk, told{junk: 1<<16 + 1<<14 - 1})
	check(t, "", strings.Repeat("8", 1<<16), told{kept: "8", junk: 1<<16 - 1})
	check(t, "", strings.Repeat("8=", 1<<15), told{kept: "8=", junk: 1<<16 - 2})
	many := 1 << 16 / len(framed(beat))
	check(t, "", strings.Repeat(framed(beat), many), told{bodies: slices.Repeat([]string{beat}, many)})
	longest := fields(32, 250)
	check(t, "", strings.Repeat(framed(longest), 8), told{bodies: slices.Repeat([]string{longest}, 8)})
	// Of beginnings alone the ones are junk behind which enough comes; the last ones wait for it.
	heads := strings.Repeat(begin+"8000\x01", 1<<16/17)
	kept := heads[len(heads)-8023/17*17:]
	check(t, "", heads, told{kept: kept, junk: len(heads) - len(kept)})
}

// Each cut of a stream in three pieces tells the same.
func TestInThreePieces(t *testing.T) {
	for _, c := range streams {
		if len(c.b) > 200 {
			continue
		}
		for i := range len(c.b) + 1 {
			for j := i; j <= len(c.b); j++ {
				if got := inPieces(t, "", c.b[:i], c.b[i:j], c.b[j:]); !got.same(c.want) {
					t.Fatalf("%q in pieces, cut at %d and %d: %v; not %v", c.b, i, j, got, c.want)
				}
			}
		}
	}
}

func TestInByteByByte(t *testing.T) {
	for _, c := range streams {
		if got := inPieces(t, "", strings.Split(c.b, "")...); !got.same(c.want) {
			t.Errorf("%.60q byte by byte: %v; not %v", c.b, got, c.want)
		}
	}
}

// cut a stream into some pieces, of which some may be empty.
func cut(r *rand.Rand, b string) []string {
	pieces := []string{}
	for len(b) > 0 {
		size := min(len(b), r.Intn(1<<r.Intn(8)))
		pieces = append(pieces, b[:size])
		b = b[size:]
	}
	return append(pieces, b)
}

// mixed are parts of frames, whole ones and wrong ones, and junk.
func mixed(r *rand.Rand) string {
	parts := []string{"8", "8=", "8=FIX.4.4\x01", begin, begin + "5\x01", begin + "40\x01", begin + "12", "10=", "\x01", beat, "x", "8=FIX", "10=163\x01", "0", framed(beat), framed(test), wrong, framed(fields(2, 150)), begin + "0\x0110=200\x01"}
	var b strings.Builder
	for range r.Intn(20) {
		b.WriteString(parts[r.Intn(len(parts))])
	}
	return b.String()[:b.Len()-r.Intn(1+b.Len()/2)]
}

func TestInWhateverPieces(t *testing.T) {
	r := rand.New(rand.NewSource(1))
	bodies, junk, kept := 0, 0, 0
	for range 20000 {
		b := mixed(r)
		whole := in(t, "", b)
		bodies, junk, kept = bodies+len(whole.bodies), junk+whole.junk, kept+len(whole.kept)
		if got := inPieces(t, "", cut(r, b)...); !got.same(whole) {
			t.Fatalf("%q in pieces: %v; not %v", b, got, whole)
		}
		// What was kept of another stream, and is not whole yet, may stand ahead.
		ahead := in(t, "", mixed(r)).kept
		whole = in(t, ahead, b)
		if got := inPieces(t, ahead, cut(r, b)...); !got.same(whole) {
			t.Fatalf("%q in pieces behind %q: %v; not %v", b, ahead, got, whole)
		}
	}
	if bodies < 10000 || junk < 10000 || kept < 10000 {
		t.Errorf("only %d bodies, %d of junk, %d kept", bodies, junk, kept)
	}
}

// In order all that frame.Next takes is taken, and no byte is lost.
func TestInTakesWhatNextTakes(t *testing.T) {
	r := rand.New(rand.NewSource(2))
	for range 20000 {
		b := mixed(r)
		want := told{}
		rest := []byte(b)
		kind, body, size := frame.Next(rest)
		for ; size > 0; kind, body, size = frame.Next(rest) {
			if kind == api.Frame {
				want.bodies = append(want.bodies, string(body))
			} else {
				want.junk += size
			}
			rest = rest[size:]
		}
		want.kept = string(rest)
		i := r.Intn(len(b) + 1)
		check(t, b[:i], b[i:], want)
		all := len(want.kept) + want.junk
		for _, body := range want.bodies {
			all += len(framed(body))
		}
		if all != len(b) {
			t.Fatalf("%q: %d bytes of %d", b, all, len(b))
		}
	}
}

// What is kept is the first bytes of a frame, or none, fewer than 2^14; without more nothing comes of it.
func TestInKeepsWhatIsNeeded(t *testing.T) {
	r := rand.New(rand.NewSource(3))
	for range 20000 {
		kept := in(t, "", mixed(r)).kept
		if kind, _, _ := frame.Next([]byte(kept)); kind != api.Need || len(kept) >= 1<<14 {
			t.Fatalf("%d kept, %q: kind %d", len(kept), kept, kind)
		}
		check(t, kept, "", told{kept: kept})
	}
}

// Frames come through a long stream, one by one as they end, with junk between in which none begins.
func TestInLongStream(t *testing.T) {
	r := rand.New(rand.NewSource(4))
	var b strings.Builder
	want := told{}
	for b.Len() < 1<<19 {
		noise := strings.Repeat("9=FIX.4.4\x01", r.Intn(3)) + strings.Repeat("8=FIXx", r.Intn(3))
		body := fields(1+r.Intn(30), 4+r.Intn(256))
		b.WriteString(noise + framed(body))
		want.bodies = append(want.bodies, body)
		want.junk += len(noise)
	}
	var pieces []string
	for rest := b.String(); len(rest) > 0; {
		size := min(len(rest), 1+r.Intn(1<<r.Intn(17)))
		pieces = append(pieces, rest[:size])
		rest = rest[size:]
	}
	if got := inPieces(t, "", pieces...); !got.same(want) {
		t.Errorf("%v; not %v", got, want)
	}
}

// spare has spare room behind, to be seen if it is written.
func spare(text string) []byte {
	return append([]byte(text), "spare room of some bytes"...)[:len(text)]
}

// given are pairs of what is kept and a piece, of which some are too long.
var given = [][2]string{
	{"", ""}, {"", framed(beat)}, {framed(beat), ""}, {framed(beat)[:9], framed(beat)[9:]}, {framed(beat)[:9], ""}, {"", framed(beat)[:9]}, {framed(beat)[:9], framed(beat)[9:12]},
	{"x", "y" + framed(beat) + framed(test) + "8"}, {framed(beat), framed(test) + "8=FIX"}, {"8=", "8="},
	{strings.Repeat("8", 1<<14), "x"}, {framed(beat)[:9], strings.Repeat("8", 1<<16+1)}, {strings.Repeat("8", 1<<14), strings.Repeat("8", 1<<16+1)},
}

func TestWhatIsHandedInStays(t *testing.T) {
	for _, g := range given {
		kept, piece := spare(g[0]), spare(g[1])
		feed.In(kept, piece)
		if !bytes.Equal(kept[:cap(kept)], spare(g[0])[:cap(kept)]) || !bytes.Equal(piece[:cap(piece)], spare(g[1])[:cap(piece)]) {
			t.Errorf("%.60q was changed", g)
		}
		// Both may lie in the same memory.
		both := spare(g[0] + g[1])
		feed.In(both[:len(g[0])], both[len(g[0]):])
		if !bytes.Equal(both[:cap(both)], spare(g[0] + g[1])[:cap(both)]) {
			t.Errorf("%.60q was changed where it lies together", g)
		}
	}
}

// overwrite a list and its spare room.
func overwrite(b []byte) {
	b = b[:cap(b)]
	for i := range b {
		b[i] = 'z'
	}
}

func TestAnswersAreNew(t *testing.T) {
	for _, g := range given {
		kept, piece := spare(g[0]), spare(g[1])
		k, l, _, _ := feed.In(kept, piece)
		k2, l2, _, _ := feed.In(kept, piece)
		// Each list of the answer is overwritten, and what was not yet stays.
		for i := range l {
			overwrite(l[i])
			for j := i + 1; j < len(l); j++ {
				if !bytes.Equal(l[j], l2[j]) {
					t.Errorf("%.60q: bodies share memory", g)
				}
			}
		}
		if !bytes.Equal(k, k2) {
			t.Errorf("%.60q: what is kept shares a body's memory", g)
		}
		overwrite(k)
		if !bytes.Equal(kept[:cap(kept)], spare(g[0])[:cap(kept)]) || !bytes.Equal(piece[:cap(piece)], spare(g[1])[:cap(piece)]) {
			t.Errorf("%.60q: an answer shares memory with what was handed in", g)
		}
		// And what is handed in may be overwritten, too.
		k, l, _, _ = feed.In(kept, piece)
		overwrite(kept)
		overwrite(piece)
		if !bytes.Equal(k, k2) || !slices.EqualFunc(l, l2, bytes.Equal) {
			t.Errorf("%.60q: what was handed in is kept", g)
		}
	}
}
