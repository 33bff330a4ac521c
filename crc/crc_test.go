package crc_test

import (
	"bytes"
	"hash/crc32"
	"math/rand"
	"slices"
	"strings"
	"sync"
	"testing"

	"checkroll/api"
	"checkroll/crc"
)

// plainSum is a plain reading of what a sum is.
func plainSum(b []byte) uint32 {
	sum := uint32(1<<32 - 1)
	for _, c := range b {
		sum ^= uint32(c)
		for range 8 {
			odd := sum%2 == 1
			sum /= 2
			if odd {
				sum ^= 0xEDB88320
			}
		}
	}
	return ^sum
}

// headed is a record's bytes with this length, whatever stands behind it; the sum fits.
func headed(size int, record []byte) []byte {
	b := []byte{byte(size >> 8), byte(size)}
	sum := plainSum(append(bytes.Clone(b), record...))
	b = append(b, byte(sum>>24), byte(sum>>16), byte(sum>>8), byte(sum))
	return append(b, record...)
}

func whole(record string) []byte {
	return headed(len(record), []byte(record))
}

// noise is any bytes, so many.
func noise(r *rand.Rand, size int) []byte {
	b := make([]byte, size)
	r.Read(b)
	return b
}

// next is what Next ought to answer.
type next struct {
	record string
	size   int
	e      api.Errno
}

func found(record string) next { return next{record, 6 + len(record), api.OK} }
func nothing(e api.Errno) next { return next{e: e} }

func ask(b []byte) next {
	record, size, e := crc.Next(b)
	return next{string(record), size, e}
}

func check(t *testing.T, b []byte, want next) {
	t.Helper()
	if got := ask(b); got != want {
		t.Errorf("Next of %d bytes, %.20x: %.20q, %d, %d; not %.20q, %d, %d", len(b), b, got.record, got.size, got.e, want.record, want.size, want.e)
	}
}

// plainNext is a plain reading of what Next promises.
func plainNext(b []byte) next {
	switch {
	case len(b) < 6:
		return nothing(api.ErrShort)
	case int(b[0])*256+int(b[1]) < 1 || int(b[0])*256+int(b[1]) > 4096:
		return nothing(api.ErrForm)
	}
	size := int(b[0])*256 + int(b[1])
	switch {
	case len(b)-6 < size:
		return nothing(api.ErrShort)
	case !bytes.Equal(headed(size, b[6:6+size]), b[:6+size]):
		return nothing(api.ErrSum)
	}
	return found(string(b[6 : 6+size]))
}

// plainAll is a plain reading of what All promises.
func plainAll(b []byte) ([]string, int) {
	n := plainNext(b)
	if n.e != api.OK {
		return nil, 0
	}
	l, taken := plainAll(b[n.size:])
	return append([]string{n.record}, l...), n.size + taken
}

func all(b []byte) ([]string, int) {
	l, taken := crc.All(b)
	var records []string
	for _, record := range l {
		records = append(records, string(record))
	}
	return records, taken
}

func checkAll(t *testing.T, b []byte, want []string, size int) {
	t.Helper()
	if got, taken := all(b); !slices.Equal(got, want) || taken != size {
		t.Errorf("All of %d bytes: %d records, %.60q, in %d bytes; not %d, %.60q, in %d", len(b), len(got), got, taken, len(want), want, size)
	}
}

func TestSumByHand(t *testing.T) {
	for _, c := range []struct {
		b   string
		sum uint32
	}{
		{"", 0}, {"\x00", 0xD202EF8D}, {"\x01", 0xA505DF1B}, {"\x80", 0x3FBA6CAD}, {"\xff", 0xFF000000}, {"a", 0xE8B7BE43}, {"abc", 0x352441C2}, {"123456789", 0xCBF43926},
		{"\xff\xff\xff\xff", 0xFFFFFFFF}, {"\x00\x00\x00\x00", 0x2144DF1C}, {strings.Repeat("\x00", 32), 0x190A55AD}, {strings.Repeat("\xff", 32), 0xFF6CAB0B},
		{"The quick brown fox jumps over the lazy dog", 0x414FA339},
	} {
		if sum := crc.Sum([]byte(c.b)); sum != c.sum {
			t.Errorf("Sum of %q: %08X, not %08X", c.b, sum, c.sum)
		}
	}
	if sum := crc.Sum(nil); sum != 0 {
		t.Errorf("Sum of nothing: %08X", sum)
	}
}

func checkSum(t *testing.T, b []byte) {
	t.Helper()
	if sum := crc.Sum(b); sum != plainSum(b) || sum != crc32.ChecksumIEEE(b) {
		t.Errorf("Sum of %d bytes, %.20x: %08X, not %08X, %08X", len(b), b, sum, plainSum(b), crc32.ChecksumIEEE(b))
	}
}

func TestSumOfAllShortBytes(t *testing.T) {
	for i := range 256 {
		checkSum(t, []byte{byte(i)})
		for j := range 256 {
			checkSum(t, []byte{byte(i), byte(j)})
		}
	}
}

func TestSumOfAnyBytes(t *testing.T) {
	r := rand.New(rand.NewSource(8))
	for size := range 600 {
		checkSum(t, noise(r, size))
	}
	for _, size := range []int{4095, 4096, 4097, 1<<16 - 1, 1 << 16, 1<<16 + 1, 1 << 20} {
		checkSum(t, noise(r, size))
		checkSum(t, make([]byte, size))
	}
}

// A sum hangs on its bytes alone, whatever else is summed meanwhile.
func TestSumsAtOneTime(t *testing.T) {
	var group sync.WaitGroup
	sums := make([][]uint32, 8)
	for i := range sums {
		group.Go(func() {
			for size := range 200 {
				sums[i] = append(sums[i], crc.Sum(bytes.Repeat([]byte{byte(size)}, size)))
			}
		})
	}
	group.Wait()
	for i, l := range sums {
		for size, sum := range l {
			if sum != plainSum(bytes.Repeat([]byte{byte(size)}, size)) {
				t.Errorf("Sum of %d bytes by worker %d: %08X", size, i, sum)
			}
		}
	}
}

func TestPutByHand(t *testing.T) {
	for _, c := range []struct{ record, b string }{
		{"\x00", "\x00\x01\xe6\x5a\xe8\x53" + "\x00"},
		{"a", "\x00\x01\xdc\xef\xb9\x9d" + "a"},
		{"abc", "\x00\x03\x1e\xf2\xc0\x23" + "abc"},
		{"\xff\xff", "\x00\x02\x9c\xe6\x19\x8d" + "\xff\xff"},
		{strings.Repeat("y", 258), "\x01\x02\x4b\x85\xa4\xfb" + strings.Repeat("y", 258)},
	} {
		if b, e := crc.Put([]byte(c.record)); string(b) != c.b || e != api.OK {
			t.Errorf("Put of %q: %x, %d; not %x", c.record, b, e, c.b)
		}
	}
}

func TestPutOfEachSize(t *testing.T) {
	r := rand.New(rand.NewSource(9))
	for size := 1; size <= 4096; size++ {
		record := noise(r, size)
		b, e := crc.Put(record)
		if e != api.OK || !bytes.Equal(b, headed(size, record)) {
			t.Errorf("Put of %d bytes: %d bytes, %.10x, %d", size, len(b), b, e)
		}
		check(t, b, found(string(record)))
	}
}

func TestPutOfWhatIsNoRecord(t *testing.T) {
	for _, size := range []int{4097, 4098, 5000, 8192, 1<<16 - 1, 1 << 16, 1<<16 + 1, 1<<16 + 5, 1<<17 + 4096} {
		if b, e := crc.Put(make([]byte, size)); e != api.ErrArg || len(b) != 0 {
			t.Errorf("Put of %d bytes: %d bytes, %d", size, len(b), e)
		}
	}
	for _, record := range [][]byte{nil, {}} {
		if b, e := crc.Put(record); e != api.ErrArg || len(b) != 0 {
			t.Errorf("Put of nothing: %x, %d", b, e)
		}
	}
}

func TestNextErrors(t *testing.T) {
	abc := whole("abc")
	with := func(i int, c byte) []byte {
		b := bytes.Clone(abc)
		b[i] = c
		return b
	}
	ownSum := func(record string) []byte {
		b := whole(record)
		sum := plainSum([]byte(record))
		b[2], b[3], b[4], b[5] = byte(sum>>24), byte(sum>>16), byte(sum>>8), byte(sum)
		return b
	}
	lowFirst := bytes.Clone(abc)
	slices.Reverse(lowFirst[2:6])
	for _, c := range []struct {
		name string
		b    []byte
		want next
	}{
		{"nothing", nil, nothing(api.ErrShort)},
		{"no bytes", []byte{}, nothing(api.ErrShort)},
		{"five bytes", abc[:5], nothing(api.ErrShort)},
		{"six bytes", abc[:6], nothing(api.ErrShort)},
		{"all but one", abc[:8], nothing(api.ErrShort)},
		{"whole", abc, found("abc")},
		{"one behind", append(bytes.Clone(abc), 0), found("abc")},
		{"another behind", append(bytes.Clone(abc), abc...), found("abc")},
		// Fewer than six bytes are told ahead of a length that may not be.
		{"length 0, five bytes", make([]byte, 5), nothing(api.ErrShort)},
		{"length 65535, five bytes", bytes.Repeat([]byte{255}, 5), nothing(api.ErrShort)},
		{"length 65535, two bytes", []byte{255, 255}, nothing(api.ErrShort)},
		// A length that may not be is told ahead of all behind it.
		{"length 0, six bytes", make([]byte, 6), nothing(api.ErrForm)},
		{"length 0, its sum fits", headed(0, nil), nothing(api.ErrForm)},
		{"length 0, its sum fits, more behind", append(headed(0, nil), abc...), nothing(api.ErrForm)},
		{"length 4097, six bytes", []byte{16, 1, 0, 0, 0, 0}, nothing(api.ErrForm)},
		{"length 4097, all there, its sum fits", headed(4097, make([]byte, 4097)), nothing(api.ErrForm)},
		{"length 65535, all there, its sum fits", headed(65535, make([]byte, 65535)), nothing(api.ErrForm)},
		{"length 4096, all there", headed(4096, make([]byte, 4096)), found(string(make([]byte, 4096)))},
		{"length 4096, not to its end", headed(4096, make([]byte, 4096))[:4101], nothing(api.ErrShort)},
		{"length 1, all there", whole("x"), found("x")},
		// Its end is looked for ahead of its sum.
		{"a wrong sum, not to its end", with(2, ^abc[2])[:8], nothing(api.ErrShort)},
		{"a wrong sum", with(2, ^abc[2]), nothing(api.ErrSum)},
		{"a wrong sum's last byte", with(5, ^abc[5]), nothing(api.ErrSum)},
		{"another byte", with(8, 'd'), nothing(api.ErrSum)},
		{"a shorter length", with(1, 2), nothing(api.ErrSum)},
		{"a longer length", with(1, 4), nothing(api.ErrShort)},
		{"a longer length, and bytes behind", append(with(1, 4), 'd'), nothing(api.ErrSum)},
		{"the sum of its own bytes alone", ownSum("abc"), nothing(api.ErrSum)},
		{"the sum with its lowest byte first", lowFirst, nothing(api.ErrSum)},
		{"length with its lowest byte first", append([]byte{1, 0}, whole("x")[2:]...), nothing(api.ErrShort)},
		{"nothing but 1s", bytes.Repeat([]byte{1}, 300), nothing(api.ErrSum)},
	} {
		if plain := plainNext(c.b); plain != c.want {
			t.Fatal("the plain reading tells other of", c.name)
		}
		t.Run(c.name, func(t *testing.T) { check(t, c.b, c.want) })
	}
}

func TestNextOfEachLength(t *testing.T) {
	for size := range 1 << 16 {
		b := []byte{byte(size >> 8), byte(size), 1, 2, 3, 4}
		want := nothing(api.ErrShort)
		if size < 1 || size > 4096 {
			want = nothing(api.ErrForm)
		}
		check(t, b, want)
	}
	zeros := make([]byte, 1<<16+6)
	for _, size := range []int{0, 1, 2, 255, 256, 257, 4095, 4096, 4097, 4098, 8192, 65535} {
		zeros[0], zeros[1] = byte(size>>8), byte(size)
		want := nothing(api.ErrSum)
		if size < 1 || size > 4096 {
			want = nothing(api.ErrForm)
		}
		check(t, zeros, want)
	}
}

func TestNextOfARecordsFirstBytes(t *testing.T) {
	for _, record := range []string{"x", "abc", strings.Repeat("y", 256), strings.Repeat("\x00", 4096)} {
		b := whole(record)
		for i := range len(b) {
			check(t, b[:i], nothing(api.ErrShort))
		}
		check(t, b, found(record))
	}
}

// mixed bytes: records, changed, cut and run together with other bytes.
func mixed(r *rand.Rand) []byte {
	var b []byte
	for range r.Intn(8) {
		switch r.Intn(8) {
		case 0:
			b = append(b, noise(r, r.Intn(9))...)
		case 1:
			b = append(b, headed(r.Intn(5), noise(r, r.Intn(5)))...)
		default:
			record := noise(r, 1+r.Intn(20))
			b = append(b, headed(len(record), record)...)
		}
	}
	if r.Intn(3) == 0 && len(b) > 0 {
		b[r.Intn(len(b))] ^= 1 << r.Intn(8)
	}
	return b[:len(b)-r.Intn(1+len(b)/3)]
}

func TestAgainstPlainReading(t *testing.T) {
	r := rand.New(rand.NewSource(10))
	seen := map[api.Errno]int{}
	many := map[int]int{}
	for range 50000 {
		b := mixed(r)
		want := plainNext(b)
		seen[want.e]++
		check(t, b, want)
		l, size := plainAll(b)
		many[len(l)]++
		checkAll(t, b, l, size)
	}
	for _, e := range []api.Errno{api.OK, api.ErrShort, api.ErrForm, api.ErrSum} {
		if seen[e] < 300 {
			t.Errorf("%d was told only %d times", e, seen[e])
		}
	}
	for n := range 5 {
		if many[n] < 300 {
			t.Errorf("%d records stood only %d times", n, many[n])
		}
	}
}

func TestAll(t *testing.T) {
	a, b, c := whole("a"), whole("bb"), whole("ccc")
	join := func(l ...[]byte) []byte { return slices.Concat(l...) }
	spoilt := bytes.Clone(b)
	spoilt[7]++
	for _, x := range []struct {
		name string
		b    []byte
		want []string
		size int
	}{
		{"nothing", nil, nil, 0},
		{"no bytes", []byte{}, nil, 0},
		{"one", a, []string{"a"}, 7},
		{"three", join(a, b, c), []string{"a", "bb", "ccc"}, 24},
		{"the same again", join(a, a, a), []string{"a", "a", "a"}, 21},
		{"cut in the last one", join(a, b, c)[:23], []string{"a", "bb"}, 15},
		{"cut in the last one's length", join(a, b, c)[:16], []string{"a", "bb"}, 15},
		{"cut behind the first", join(a, b, c)[:7], []string{"a"}, 7},
		{"cut in the first", join(a, b, c)[:6], nil, 0},
		{"a wrong one between", join(a, spoilt, c), []string{"a"}, 7},
		{"a wrong one ahead", join(spoilt, a, c), nil, 0},
		{"a wrong one behind", join(a, c, spoilt), []string{"a", "ccc"}, 16},
		{"zeros between", join(a, make([]byte, 6), c), []string{"a"}, 7},
		{"zeros behind", join(a, c, make([]byte, 100)), []string{"a", "ccc"}, 16},
		{"a length 0 whose sum fits, between", join(a, headed(0, nil), c), []string{"a"}, 7},
		{"a length 4097 whose sum fits, between", join(a, headed(4097, make([]byte, 4097)), c), []string{"a"}, 7},
		{"one byte ahead", join([]byte{0}, a, c), nil, 0},
		{"one byte between", join(a, []byte{0}, c), []string{"a"}, 7},
		{"the longest", join(a, headed(4096, make([]byte, 4096)), c), []string{"a", string(make([]byte, 4096)), "ccc"}, 4118},
	} {
		t.Run(x.name, func(t *testing.T) { checkAll(t, x.b, x.want, x.size) })
	}
}

func TestAllOfMany(t *testing.T) {
	var b []byte
	var want []string
	for i := range 20000 {
		record := strings.Repeat(string(rune('a'+i%26)), 1+i%3)
		b = append(b, whole(record)...)
		want = append(want, record)
	}
	checkAll(t, b, want, len(b))
}

// Of what was put and then cut anywhere the whole records are told.
func TestWhatIsPutAndCut(t *testing.T) {
	r := rand.New(rand.NewSource(11))
	for range 50 {
		var b []byte
		var records []string
		ends := []int{0}
		for range 1 + r.Intn(5) {
			record := noise(r, 1+r.Intn(40))
			put, e := crc.Put(record)
			if e != api.OK {
				t.Fatalf("Put of %x: %d", record, e)
			}
			b = append(b, put...)
			records = append(records, string(record))
			ends = append(ends, len(b))
		}
		for cut := range len(b) + 1 {
			whole := 0
			for whole < len(records) && ends[whole+1] <= cut {
				whole++
			}
			checkAll(t, b[:cut], records[:whole], ends[whole])
		}
	}
}

// A record of which one bit was turned isn't told as it was, whatever stands behind it.
func TestATurnedBit(t *testing.T) {
	r := rand.New(rand.NewSource(12))
	for _, size := range []int{1, 2, 3, 16, 255, 256, 257, 600} {
		record := noise(r, size)
		put, _ := crc.Put(record)
		for _, behind := range [][]byte{nil, put, make([]byte, 5000), noise(r, 5000)} {
			b := slices.Concat(put, behind)
			for bit := range 8 * len(put) {
				b[bit/8] ^= 1 << (bit % 8)
				got := ask(b)
				if got.e == api.OK || got != plainNext(b) {
					t.Errorf("a record of %d bytes, bit %d turned: %.20q, %d, %d", size, bit, got.record, got.size, got.e)
				}
				if bit >= 16 && got.e != api.ErrSum {
					t.Errorf("a record of %d bytes, bit %d turned: %d", size, bit, got.e)
				}
				if l, n := all(b); len(l) != 0 || n != 0 {
					t.Errorf("a record of %d bytes, bit %d turned: All tells %d records", size, bit, len(l))
				}
				b[bit/8] ^= 1 << (bit % 8)
			}
			if got := ask(b); got != found(string(record)) {
				t.Errorf("a record of %d bytes, each bit turned back: %d", size, got.e)
			}
		}
	}
}

// spare room behind, to be seen if it is written.
func spare(b []byte) []byte {
	return append(bytes.Clone(b), "spare room of some bytes"...)[:len(b)]
}

func TestWhatIsHandedInStays(t *testing.T) {
	for _, given := range [][]byte{[]byte("abc"), whole("abc"), whole("abc")[:8], slices.Concat(whole("abc"), whole("d")), make([]byte, 6), {}} {
		b := spare(given)
		before := bytes.Clone(b[:cap(b)])
		crc.Sum(b)
		crc.Put(b)
		crc.Next(b)
		crc.All(b)
		if !bytes.Equal(b[:cap(b)], before) {
			t.Errorf("%x was changed", given)
		}
	}
}

// scribble over all of b, its spare room too.
func scribble(b []byte) {
	for i := range b[:cap(b)] {
		b[:cap(b)][i] = '?'
	}
}

func TestAnswersAreNew(t *testing.T) {
	record := spare([]byte("abc"))
	put, _ := crc.Put(record)
	again, _ := crc.Put(record)
	scribble(put)
	if string(record) != "abc" || !bytes.Equal(again, whole("abc")) {
		t.Error("a record's bytes share memory")
	}

	given := spare(slices.Concat(whole("abc"), whole("d"), whole("e")))
	before := bytes.Clone(given[:cap(given)])
	one, _, _ := crc.Next(given)
	other, _, _ := crc.Next(given)
	scribble(one)
	if !bytes.Equal(given[:cap(given)], before) || string(other) != "abc" {
		t.Error("a record shares memory")
	}

	l, _ := crc.All(given)
	want := []string{"abc", "d", "e"}
	for i := range l {
		scribble(l[i])
		for j := i + 1; j < len(l); j++ {
			if string(l[j]) != want[j] {
				t.Error("All's records share memory")
			}
		}
	}
	if !bytes.Equal(given[:cap(given)], before) {
		t.Error("All's records share memory with what was handed in")
	}
}

// What was handed in may change afterwards: what was told stays.
func TestNothingIsKept(t *testing.T) {
	b := slices.Concat(whole("abc"), whole("d"))
	record, _, _ := crc.Next(b)
	l, _ := crc.All(b)
	scribble(b)
	if string(record) != "abc" || len(l) != 2 || string(l[0]) != "abc" || string(l[1]) != "d" {
		t.Error("what was told has changed")
	}
	given := []byte("abc")
	put, _ := crc.Put(given)
	scribble(given)
	if !bytes.Equal(put, whole("abc")) {
		t.Error("what was put has changed")
	}
}
