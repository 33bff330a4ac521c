package disk_test

import (
	"bytes"
	"math"
	"math/rand"
	"slices"
	"strings"
	"testing"

	"checkroll/api"
	"checkroll/disk"
)

// plain is what a disk's files have in them: of each what lasts and what may not.
type plain [2]struct{ safe, tail string }

func plainOf(d api.Disk) plain {
	var p plain
	for i, f := range d.Files {
		p[i].safe, p[i].tail = string(f.Safe), string(f.Tail)
	}
	return p
}

func (p plain) disk() api.Disk {
	var d api.Disk
	for i, f := range p {
		d.Files[i] = api.File{Safe: []byte(f.safe), Tail: []byte(f.tail)}
	}
	return d
}

// The calls' plain readings.

func (p plain) right() bool {
	return len(p[0].safe)+len(p[0].tail) <= 65536 && len(p[1].safe)+len(p[1].tail) <= 65536
}

func (p plain) write(file int, b string) (plain, api.Errno) {
	if !p.right() || file != 0 && file != 1 {
		return p, api.ErrArg
	}
	if len(p[file].safe)+len(p[file].tail)+len(b) > 65536 {
		return p, api.ErrFull
	}
	p[file].tail += b
	return p, api.OK
}

func (p plain) sync(file int) (plain, api.Errno) {
	if !p.right() || file != 0 && file != 1 {
		return p, api.ErrArg
	}
	p[file].safe, p[file].tail = p[file].safe+p[file].tail, ""
	return p, api.OK
}

func (p plain) cut(file, n int) (plain, api.Errno) {
	if !p.right() || file != 0 && file != 1 || n < 0 || n > len(p[file].safe)+len(p[file].tail) {
		return p, api.ErrArg
	}
	p[file].safe, p[file].tail = (p[file].safe + p[file].tail)[:n], ""
	return p, api.OK
}

func (p plain) read(file int) string {
	if file != 0 && file != 1 {
		return ""
	}
	return p[file].safe + p[file].tail
}

func (p plain) crash(keep [2]int) plain {
	for i := range p {
		kept := keep[i]
		if kept < 0 {
			kept = 0
		}
		if kept > len(p[i].tail) {
			kept = len(p[i].tail)
		}
		p[i].safe, p[i].tail = p[i].safe+p[i].tail[:kept], ""
	}
	return p
}

func made(safe0, tail0, safe1, tail1 string) plain {
	var p plain
	p[0].safe, p[0].tail, p[1].safe, p[1].tail = safe0, tail0, safe1, tail1
	return p
}

func check(t *testing.T, what string, d api.Disk, e api.Errno, want plain, wantE api.Errno) {
	t.Helper()
	got := plainOf(d)
	if e != wantE {
		t.Errorf("%s: error %d, not %d", what, e, wantE)
	}
	for i := range got {
		if got[i] != want[i] {
			t.Errorf("%s: file %d has %d and %d bytes, %.20q and %.20q; not %d and %d, %.20q and %.20q", what, i,
				len(got[i].safe), len(got[i].tail), got[i].safe, got[i].tail, len(want[i].safe), len(want[i].tail), want[i].safe, want[i].tail)
		}
	}
}

func long(size int) string {
	return strings.Repeat("abcdefg", size/7+1)[:size]
}

func TestExample(t *testing.T) {
	var d api.Disk
	var e api.Errno
	d, e = disk.Write(d, 0, []byte("ab"))
	check(t, "Write", d, e, made("", "ab", "", ""), api.OK)
	d, e = disk.Sync(d, 0)
	check(t, "Sync", d, e, made("ab", "", "", ""), api.OK)
	d, e = disk.Write(d, 0, []byte("cd"))
	check(t, "Write", d, e, made("ab", "cd", "", ""), api.OK)
	d = disk.Crash(d, [2]int{1, 0})
	check(t, "Crash", d, api.OK, made("abc", "", "", ""), api.OK)
	if b := disk.Read(d, 0); string(b) != "abc" {
		t.Errorf("Read: %q", b)
	}
}

func TestRight(t *testing.T) {
	const most = 65536
	for _, c := range []struct {
		name string
		p    plain
		want bool
	}{
		{"empty", made("", "", "", ""), true},
		{"some", made("a", "b", "c", "d"), true},
		{"Safe full", made(long(most), "", "", ""), true},
		{"Tail full", made("", long(most), "", ""), true},
		{"full together", made(long(most-5), long(5), "", ""), true},
		{"the other full together", made("", "", long(5), long(most-5)), true},
		{"both full", made(long(most), "", long(most-1), "x"), true},
		{"Safe too long", made(long(most+1), "", "", ""), false},
		{"Tail too long", made("", long(most+1), "", ""), false},
		{"too long together", made(long(most-5), long(6), "", ""), false},
		{"the other's Safe too long", made("", "", long(most+1), ""), false},
		{"the other's Tail too long", made("", "", "", long(most+1)), false},
		{"the other too long together", made("", "", "x", long(most)), false},
		{"both too long", made("x", long(most), long(most), "x"), false},
	} {
		if got := disk.Right(c.p.disk()); got != c.want || c.p.right() != c.want {
			t.Errorf("%s: %v", c.name, got)
		}
	}
}

func TestWrite(t *testing.T) {
	const most = 65536
	ab := made("a", "b", "cc", "dd")
	for _, c := range []struct {
		name string
		p    plain
		file int
		b    string
		want plain
		e    api.Errno
	}{
		{"behind nothing", plain{}, 0, "xy", made("", "xy", "", ""), api.OK},
		{"behind nothing, file 1", plain{}, 1, "xy", made("", "", "", "xy"), api.OK},
		{"behind a Tail", ab, 0, "xy", made("a", "bxy", "cc", "dd"), api.OK},
		{"behind file 1's Tail", ab, 1, "xy", made("a", "b", "cc", "ddxy"), api.OK},
		{"nothing", ab, 0, "", ab, api.OK},
		{"any bytes", ab, 0, "\x00\xff\n\x00", made("a", "b\x00\xff\n\x00", "cc", "dd"), api.OK},
		{"just full", ab, 0, long(most - 2), made("a", "b"+long(most-2), "cc", "dd"), api.OK},
		{"just full, file 1", ab, 1, long(most - 4), made("a", "b", "cc", "dd"+long(most-4)), api.OK},
		{"all of an empty one", plain{}, 0, long(most), made("", long(most), "", ""), api.OK},
		{"one too many", ab, 0, long(most - 1), ab, api.ErrFull},
		{"one too many, file 1", ab, 1, long(most - 3), ab, api.ErrFull},
		{"one too many for an empty one", plain{}, 0, long(most + 1), plain{}, api.ErrFull},
		{"nothing to a full one", made(long(most-1), "x", "", ""), 0, "", made(long(most-1), "x", "", ""), api.OK},
		{"one to a full one", made(long(most-1), "x", "", ""), 0, "y", made(long(most-1), "x", "", ""), api.ErrFull},
		{"beside a full one", made(long(most-1), "x", "", ""), 1, long(most), made(long(most-1), "x", "", long(most)), api.OK},
		{"no such file", ab, 2, "x", ab, api.ErrArg},
		{"no such file, below", ab, -1, "x", ab, api.ErrArg},
		{"no such file, far", ab, math.MaxInt, "x", ab, api.ErrArg},
		{"no such file, far below", ab, math.MinInt, "x", ab, api.ErrArg},
		{"no such file, nothing", ab, 2, "", ab, api.ErrArg},
		// ErrArg is told ahead of ErrFull.
		{"no such file, no room", ab, 2, long(most + 1), ab, api.ErrArg},
		{"not right, no room", made(long(most+1), "", "", ""), 0, "x", made(long(most+1), "", "", ""), api.ErrArg},
		{"not right, nothing", made(long(most), "x", "", "y"), 0, "", made(long(most), "x", "", "y"), api.ErrArg},
		{"the other isn't right", made("z", "y", "x", long(most)), 0, "x", made("z", "y", "x", long(most)), api.ErrArg},
	} {
		d, e := disk.Write(c.p.disk(), c.file, []byte(c.b))
		check(t, c.name, d, e, c.want, c.e)
		if p, e := c.p.write(c.file, c.b); p != c.want || e != c.e {
			t.Errorf("%s: the plain reading tells other", c.name)
		}
	}
}

func TestSync(t *testing.T) {
	const most = 65536
	ab := made("a", "bb", "ccc", "dddd")
	for _, c := range []struct {
		name string
		p    plain
		file int
		want plain
		e    api.Errno
	}{
		{"file 0", ab, 0, made("abb", "", "ccc", "dddd"), api.OK},
		{"file 1", ab, 1, made("a", "bb", "cccdddd", ""), api.OK},
		{"nothing", plain{}, 1, plain{}, api.OK},
		{"no Tail", made("a", "", "c", "d"), 0, made("a", "", "c", "d"), api.OK},
		{"no Safe", made("", "b", "c", "d"), 0, made("b", "", "c", "d"), api.OK},
		{"a full one", made(long(most-7), long(7), "c", "d"), 0, made(long(most-7)+long(7), "", "c", "d"), api.OK},
		{"no such file", ab, 2, ab, api.ErrArg},
		{"no such file, below", ab, -1, ab, api.ErrArg},
		{"no such file, far below", ab, math.MinInt, ab, api.ErrArg},
		{"not right", made(long(most), "b", "c", "d"), 0, made(long(most), "b", "c", "d"), api.ErrArg},
		{"the other isn't right", made("a", "b", "c", long(most)), 0, made("a", "b", "c", long(most)), api.ErrArg},
	} {
		d, e := disk.Sync(c.p.disk(), c.file)
		check(t, c.name, d, e, c.want, c.e)
		if p, e := c.p.sync(c.file); p != c.want || e != c.e {
			t.Errorf("%s: the plain reading tells other", c.name)
		}
	}
}

func TestCut(t *testing.T) {
	const most = 65536
	ab := made("abc", "def", "gh", "i")
	full := made(long(most-1), "x", "", "y")
	for _, c := range []struct {
		name    string
		p       plain
		file, n int
		want    plain
		e       api.Errno
	}{
		{"to nothing", ab, 0, 0, made("", "", "gh", "i"), api.OK},
		{"within Safe", ab, 0, 2, made("ab", "", "gh", "i"), api.OK},
		{"behind Safe", ab, 0, 3, made("abc", "", "gh", "i"), api.OK},
		{"within Tail", ab, 0, 4, made("abcd", "", "gh", "i"), api.OK},
		{"all but one", ab, 0, 5, made("abcde", "", "gh", "i"), api.OK},
		{"nothing off", ab, 0, 6, made("abcdef", "", "gh", "i"), api.OK},
		{"more than there is", ab, 0, 7, ab, api.ErrArg},
		{"far more", ab, 0, math.MaxInt, ab, api.ErrArg},
		{"below 0", ab, 0, -1, ab, api.ErrArg},
		{"far below 0", ab, 0, math.MinInt, ab, api.ErrArg},
		{"file 1", ab, 1, 1, made("abc", "def", "g", ""), api.OK},
		{"file 1, nothing off", ab, 1, 3, made("abc", "def", "ghi", ""), api.OK},
		// The other file's length doesn't count.
		{"file 1, more than there is", ab, 1, 4, ab, api.ErrArg},
		{"an empty one", plain{}, 0, 0, plain{}, api.OK},
		{"an empty one, 1", plain{}, 0, 1, plain{}, api.ErrArg},
		{"a full one", full, 0, most, made(long(most-1)+"x", "", "", "y"), api.OK},
		{"a full one, more", full, 0, most + 1, full, api.ErrArg},
		{"no such file", ab, 2, 0, ab, api.ErrArg},
		{"no such file, below", ab, -1, 0, ab, api.ErrArg},
		{"no such file, far below", ab, math.MinInt, 0, ab, api.ErrArg},
		{"not right", made(long(most), "b", "c", "d"), 0, 0, made(long(most), "b", "c", "d"), api.ErrArg},
		{"the other isn't right", made("a", "b", "c", long(most)), 0, 0, made("a", "b", "c", long(most)), api.ErrArg},
	} {
		d, e := disk.Cut(c.p.disk(), c.file, c.n)
		check(t, c.name, d, e, c.want, c.e)
		if p, e := c.p.cut(c.file, c.n); p != c.want || e != c.e {
			t.Errorf("%s: the plain reading tells other", c.name)
		}
	}
}

func TestRead(t *testing.T) {
	ab := made("abc", "def", "gh", "i")
	for _, c := range []struct {
		p    plain
		file int
		want string
	}{
		{ab, 0, "abcdef"}, {ab, 1, "ghi"}, {ab, 2, ""}, {ab, -1, ""}, {ab, math.MaxInt, ""}, {ab, math.MinInt, ""},
		{plain{}, 0, ""}, {plain{}, 1, ""}, {made("", "x", "y", ""), 0, "x"}, {made("", "x", "y", ""), 1, "y"},
		{made(long(65536), "", "", ""), 0, long(65536)},
		// Read has no error: it tells of a disk that isn't right what stands there.
		{made(long(65536), "x", "", "y"), 0, long(65536) + "x"}, {made(long(65536), "x", "", "y"), 1, "y"},
	} {
		if b := disk.Read(c.p.disk(), c.file); string(b) != c.want || c.p.read(c.file) != c.want {
			t.Errorf("Read of file %d: %d bytes, %.20q; not %d, %.20q", c.file, len(b), b, len(c.want), c.want)
		}
	}
}

func TestCrash(t *testing.T) {
	ab := made("abc", "def", "gh", "ij")
	for _, c := range []struct {
		p    plain
		keep [2]int
		want plain
	}{
		{ab, [2]int{0, 0}, made("abc", "", "gh", "")},
		{ab, [2]int{1, 0}, made("abcd", "", "gh", "")},
		{ab, [2]int{2, 1}, made("abcde", "", "ghi", "")},
		{ab, [2]int{3, 2}, made("abcdef", "", "ghij", "")},
		{ab, [2]int{4, 3}, made("abcdef", "", "ghij", "")},
		{ab, [2]int{0, 2}, made("abc", "", "ghij", "")},
		{ab, [2]int{-1, -1}, made("abc", "", "gh", "")},
		{ab, [2]int{-1, 1}, made("abc", "", "ghi", "")},
		{ab, [2]int{math.MinInt, math.MaxInt}, made("abc", "", "ghij", "")},
		{ab, [2]int{math.MaxInt, math.MinInt}, made("abcdef", "", "gh", "")},
		{plain{}, [2]int{5, 5}, plain{}},
		{made("a", "", "", "b"), [2]int{5, 5}, made("a", "", "b", "")},
		{made(long(65530), long(6), "", "b"), [2]int{5, 0}, made(long(65530)+long(5), "", "", "")},
		{made(long(65536), "xy", "", "b"), [2]int{1, 1}, made(long(65536)+"x", "", "b", "")},
	} {
		check(t, "Crash", disk.Crash(c.p.disk(), c.keep), api.OK, c.want, api.OK)
		if c.p.crash(c.keep) != c.want {
			t.Errorf("Crash of %v: the plain reading tells other", c.keep)
		}
	}
}

// size of what is written: mostly small, at times near to what there is room for.
func size(r *rand.Rand, length int) int {
	switch r.Intn(20) {
	case 0:
		return max(0, 65536-length-2+r.Intn(5))
	case 1:
		return r.Intn(30000)
	}
	return r.Intn(6)
}

func noise(r *rand.Rand, size int) string {
	b := make([]byte, size)
	r.Read(b)
	return string(b)
}

// Any calls, one behind the other, tell what their plain readings tell; and P9.2 holds all along.
func TestAgainstPlainReading(t *testing.T) {
	r := rand.New(rand.NewSource(9))
	seen := map[api.Errno]int{}
	for range 300 {
		var d api.Disk
		var p plain
		var written, synced [2]string
		for range 1 + r.Intn(40) {
			file := r.Intn(2)
			if r.Intn(12) == 0 {
				file = r.Intn(7) - 3
			}
			var e, want api.Errno
			switch r.Intn(7) {
			case 0, 1, 2:
				b := noise(r, size(r, len(p.read(file))))
				d, e = disk.Write(d, file, []byte(b))
				p, want = p.write(file, b)
				if want == api.OK {
					written[file] += b
				}
			case 3:
				d, e = disk.Sync(d, file)
				p, want = p.sync(file)
				if want == api.OK {
					synced[file] = written[file]
				}
			case 4:
				n := r.Intn(len(p.read(file))+4) - 2
				d, e = disk.Cut(d, file, n)
				p, want = p.cut(file, n)
				if want == api.OK {
					written[file] = written[file][:n]
					synced[file] = written[file]
				}
			default:
				keep := [2]int{r.Intn(8) - 2, r.Intn(8) - 2}
				c := disk.Crash(d, keep)
				check(t, "Crash", c, api.OK, p.crash(keep), api.OK)
				checkCrashed(t, c, written, synced)
				if r.Intn(2) == 0 {
					d, p = c, p.crash(keep)
					written = [2]string{p[0].safe, p[1].safe}
					synced = written
				}
			}
			seen[want]++
			check(t, "a step", d, e, p, want)
			if !disk.Right(d) {
				t.Fatal("what was right isn't any more")
			}
			for file := -1; file < 3; file++ {
				if b := disk.Read(d, file); string(b) != p.read(file) {
					t.Fatalf("Read of file %d: %d bytes, not %d", file, len(b), len(p.read(file)))
				}
			}
		}
	}
	for _, e := range []api.Errno{api.OK, api.ErrArg, api.ErrFull} {
		if seen[e] < 50 {
			t.Errorf("%d was told only %d times", e, seen[e])
		}
	}
}

// checkCrashed holds what is read behind a crash against what was written and synced.
func checkCrashed(t *testing.T, d api.Disk, written, synced [2]string) {
	t.Helper()
	for file := range 2 {
		b := string(disk.Read(d, file))
		if !strings.HasPrefix(b, synced[file]) {
			t.Fatalf("what was synced of file %d isn't there behind a crash", file)
		}
		if !strings.HasPrefix(written[file], b) {
			t.Fatalf("what is read of file %d behind a crash is no beginning of what was written", file)
		}
	}
}

// spare room behind, to be seen if it is written.
func spare(s string) []byte {
	return append([]byte(s), "spare room of some bytes"...)[:len(s)]
}

// scribble over all of b, its spare room too.
func scribble(b []byte) {
	for i := range b[:cap(b)] {
		b[:cap(b)][i] = '?'
	}
}

func scribbleDisk(d api.Disk) {
	for _, f := range d.Files {
		scribble(f.Safe)
		scribble(f.Tail)
	}
}

// spared is the disk with spare room behind all of it.
func spared(p plain) api.Disk {
	var d api.Disk
	for i, f := range p {
		d.Files[i] = api.File{Safe: spare(f.safe), Tail: spare(f.tail)}
	}
	return d
}

// whole of a disk, spare room too.
func whole(d api.Disk) []string {
	var l []string
	for _, f := range d.Files {
		l = append(l, string(f.Safe[:cap(f.Safe)]), string(f.Tail[:cap(f.Tail)]))
	}
	return l
}

// calls on a disk, each with what it ought to answer.
func calls(b []byte) map[string]func(api.Disk) api.Disk {
	first := func(d api.Disk, _ api.Errno) api.Disk { return d }
	return map[string]func(api.Disk) api.Disk{
		"Write 0":            func(d api.Disk) api.Disk { return first(disk.Write(d, 0, b)) },
		"Write 1":            func(d api.Disk) api.Disk { return first(disk.Write(d, 1, b)) },
		"Write nothing":      func(d api.Disk) api.Disk { return first(disk.Write(d, 1, nil)) },
		"Write too much":     func(d api.Disk) api.Disk { return first(disk.Write(d, 1, make([]byte, 65537))) },
		"Write nowhere":      func(d api.Disk) api.Disk { return first(disk.Write(d, 2, b)) },
		"Sync 0":             func(d api.Disk) api.Disk { return first(disk.Sync(d, 0)) },
		"Sync 1":             func(d api.Disk) api.Disk { return first(disk.Sync(d, 1)) },
		"Sync nowhere":       func(d api.Disk) api.Disk { return first(disk.Sync(d, -1)) },
		"Cut 0":              func(d api.Disk) api.Disk { return first(disk.Cut(d, 0, 4)) },
		"Cut 0 within Safe":  func(d api.Disk) api.Disk { return first(disk.Cut(d, 0, 2)) },
		"Cut 0 behind Safe":  func(d api.Disk) api.Disk { return first(disk.Cut(d, 0, 3)) },
		"Cut 1 to nothing":   func(d api.Disk) api.Disk { return first(disk.Cut(d, 1, 0)) },
		"Cut nowhere":        func(d api.Disk) api.Disk { return first(disk.Cut(d, 2, 0)) },
		"Cut more than all":  func(d api.Disk) api.Disk { return first(disk.Cut(d, 0, 100)) },
		"Crash, none kept":   func(d api.Disk) api.Disk { return disk.Crash(d, [2]int{}) },
		"Crash, some kept":   func(d api.Disk) api.Disk { return disk.Crash(d, [2]int{1, 1}) },
		"Crash, all kept":    func(d api.Disk) api.Disk { return disk.Crash(d, [2]int{9, 9}) },
		"Read 0":             func(d api.Disk) api.Disk { return api.Disk{Files: [2]api.File{{Safe: disk.Read(d, 0)}}} },
		"Read 1":             func(d api.Disk) api.Disk { return api.Disk{Files: [2]api.File{{Safe: disk.Read(d, 1)}}} },
		"Right, and nothing": func(d api.Disk) api.Disk { disk.Right(d); return api.Disk{} },
	}
}

// Nothing handed in is changed or kept, and answers are new memory of their own.
func TestNothingIsShared(t *testing.T) {
	for _, p := range []plain{made("abc", "def", "gh", "ij"), made("abc", "", "", "ij"), made("", "defg", "gh", ""), made(long(65536), "x", "gh", "ij")} {
		b := spare("xyz")
		for name, call := range calls(b) {
			d := spared(p)
			before := whole(d)
			one, other := call(d), call(d)
			want := plainOf(other)
			if !slices.Equal(whole(d), before) || string(b[:cap(b)]) != string(append([]byte("xyz"), "spare room of some bytes"...)[:cap(b)]) {
				t.Errorf("%s: what was handed in was changed", name)
			}
			scribbleDisk(one)
			if !slices.Equal(whole(d), before) || !bytes.HasPrefix(b[:cap(b)], []byte("xyzspare room")) {
				t.Errorf("%s: the answer shares memory with what was handed in", name)
			}
			scribbleDisk(d)
			if plainOf(other) != want {
				t.Errorf("%s: the answer shares memory with another or with what was handed in", name)
			}
			checkApart(t, name, other)
		}
	}
	b := []byte("xyz")
	d, _ := disk.Write(api.Disk{}, 0, b)
	scribble(b)
	if string(d.Files[0].Tail) != "xyz" {
		t.Error("Write keeps the bytes")
	}
}

// checkApart scribbles over each list of a disk, and looks whether the others stay.
func checkApart(t *testing.T, name string, d api.Disk) {
	t.Helper()
	l := [][]byte{d.Files[0].Safe, d.Files[0].Tail, d.Files[1].Safe, d.Files[1].Tail}
	for i := range l {
		var rest []string
		for j := range l {
			rest = append(rest, string(l[j]))
		}
		scribble(l[i])
		for j := range l {
			if j != i && string(l[j]) != rest[j] {
				t.Errorf("%s: two lists of one answer share memory", name)
			}
		}
	}
}

// What is written may be the disk's own.
func TestWriteOfItsOwn(t *testing.T) {
	d := spared(made("abc", "def", "gh", "ij"))
	n, e := disk.Write(d, 0, d.Files[0].Tail)
	check(t, "its Tail", n, e, made("abc", "defdef", "gh", "ij"), api.OK)
	n, e = disk.Write(d, 0, d.Files[0].Safe[:cap(d.Files[0].Safe)][:6])
	check(t, "its Safe and more", n, e, made("abc", "defabcspa", "gh", "ij"), api.OK)
}
