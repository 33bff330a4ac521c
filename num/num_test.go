package num_test

import (
	"math"
	"math/big"
	"math/rand"
	"slices"
	"strconv"
	"strings"
	"testing"

	"checkroll/api"
	"checkroll/num"
)

const most = api.MaxNum

// edges are numbers, and what is none, where an answer may turn.
func edges() []int64 {
	return []int64{
		0, 1, -1, 2, -2, 3, -3, 7, -7, 9, 10, -10, 99, 100,
		1 << 31, -1 << 31, 1<<31 - 1, 1<<31 + 1, -1<<31 - 1, 1 << 32,
		1 << 61, -1 << 61, 1<<61 + 1, -1<<61 - 1, 1<<61 - 1,
		most - 1, -most + 1, most, -most, most + 1, -most - 1,
		math.MaxInt64, math.MinInt64, math.MaxInt64 - 1, math.MinInt64 + 1,
	}
}

// numbers are the edges and some others, by a seed that stays: all of them numbers.
func numbers() []int64 {
	l := slices.DeleteFunc(edges(), func(n int64) bool { return n < -most || n > most })
	r := rand.New(rand.NewSource(1))
	for range 100 {
		n := r.Int63() >> (1 + r.Intn(62))
		l = append(l, n, -n)
	}
	return l
}

// plain is what a calculation without bounds comes to: the number, or 0 and false.
func plain(n *big.Int) (int64, bool) {
	if n.CmpAbs(big.NewInt(most)) > 0 {
		return 0, false
	}
	return n.Int64(), true
}

func isNumber(n int64) bool {
	_, ok := plain(big.NewInt(n))
	return ok
}

func TestRight(t *testing.T) {
	for _, c := range []struct {
		n  int64
		ok bool
	}{
		{0, true}, {1, true}, {-1, true}, {most - 1, true}, {-most + 1, true}, {most, true}, {-most, true},
		{most + 1, false}, {-most - 1, false}, {math.MaxInt64, false}, {math.MinInt64, false},
	} {
		if num.Right(c.n) != c.ok {
			t.Errorf("Right(%d): not %t", c.n, c.ok)
		}
	}
}

func TestAdd(t *testing.T) {
	for _, c := range []struct {
		a, b, sum int64
		ok        bool
	}{
		{3, 4, 7, true}, {3, -4, -1, true}, {-3, -4, -7, true}, {0, 0, 0, true},
		{most, 0, most, true}, {most - 1, 1, most, true}, {-most + 1, -1, -most, true}, {most, -most, 0, true},
		{most, 1, 0, false}, {-most, -1, 0, false}, {most, most, 0, false}, {-most, -most, 0, false},
		{most + 1, 0, 0, false}, {most + 1, -1, 0, false}, {-1, most + 1, 0, false}, {-most - 1, 1, 0, false},
		{math.MaxInt64, math.MinInt64, 0, false}, {math.MinInt64, math.MinInt64, 0, false}, {math.MaxInt64, 1, 0, false},
	} {
		if s, ok := num.Add(c.a, c.b); s != c.sum || ok != c.ok {
			t.Errorf("Add(%d, %d): %d, %t; not %d, %t", c.a, c.b, s, ok, c.sum, c.ok)
		}
	}
}

func TestMul(t *testing.T) {
	for _, c := range []struct {
		a, b, product int64
		ok            bool
	}{
		{3, 4, 12, true}, {3, -4, -12, true}, {-3, 4, -12, true}, {-3, -4, 12, true}, {0, -5, 0, true}, {-5, 0, 0, true},
		{most, 1, most, true}, {most, -1, -most, true}, {-most, -1, most, true}, {-most, 1, -most, true}, {-most, 0, 0, true},
		{1 << 31, 1 << 31, most, true}, {-1 << 31, 1 << 31, -most, true}, {-1 << 31, -1 << 31, most, true},
		{1<<31 + 1, 1 << 31, 0, false}, {most, 2, 0, false}, {-most, 2, 0, false}, {1 << 32, 1 << 32, 0, false},
		{most, 4, 0, false}, {most, most, 0, false}, {-most, most, 0, false}, {-most, -most, 0, false},
		{most + 1, 0, 0, false}, {0, most + 1, 0, false}, {most + 1, 1, 0, false}, {-most - 1, 0, 0, false},
		{math.MinInt64, -1, 0, false}, {-1, math.MinInt64, 0, false}, {math.MinInt64, 0, 0, false}, {math.MaxInt64, 1, 0, false},
	} {
		if p, ok := num.Mul(c.a, c.b); p != c.product || ok != c.ok {
			t.Errorf("Mul(%d, %d): %d, %t; not %d, %t", c.a, c.b, p, ok, c.product, c.ok)
		}
	}
}

func TestAddAndMulAsWithoutBounds(t *testing.T) {
	l := append(edges(), numbers()...)
	for _, a := range l {
		for _, b := range l {
			x, y := big.NewInt(a), big.NewInt(b)
			sum, added := plain(new(big.Int).Add(x, y))
			product, multiplied := plain(new(big.Int).Mul(x, y))
			if !isNumber(a) || !isNumber(b) {
				sum, added, product, multiplied = 0, false, 0, false
			}
			if s, ok := num.Add(a, b); s != sum || ok != added {
				t.Errorf("Add(%d, %d): %d, %t; not %d, %t", a, b, s, ok, sum, added)
			}
			if p, ok := num.Mul(a, b); p != product || ok != multiplied {
				t.Errorf("Mul(%d, %d): %d, %t; not %d, %t", a, b, p, ok, product, multiplied)
			}
		}
	}
}

func TestSum(t *testing.T) {
	for _, c := range []struct {
		l   []int64
		sum int64
		ok  bool
	}{
		{nil, 0, true}, {[]int64{}, 0, true}, {[]int64{5}, 5, true}, {[]int64{-5}, -5, true}, {[]int64{3, -4, 12}, 11, true},
		{[]int64{most}, most, true}, {[]int64{-most}, -most, true}, {[]int64{most - 1, 1}, most, true},
		{[]int64{most, 1}, 0, false}, {[]int64{-most, -1}, 0, false}, {[]int64{most, most}, 0, false}, {[]int64{-most, -most}, 0, false},
		{[]int64{most, 1, -1}, most, true}, {[]int64{-most, -1, 1}, -most, true},
		{[]int64{most, most, -most}, most, true}, {[]int64{-most, -most, most}, -most, true},
		{[]int64{most, most, most, most, -most, -most, -most, 5, -most}, 5, true},
		{[]int64{-most, -most, -most, -most, most, most, most, -5, most}, -5, true},
		{[]int64{most, most, most, -most, -most, 1}, 0, false},
		// Sums that 64 bits would show as a small one.
		{[]int64{most, most, most, most}, 0, false}, {[]int64{-most, -most, -most, -most}, 0, false},
		{[]int64{most, most, most, most, 1}, 0, false}, {[]int64{-most, -most, -most, -most, -1}, 0, false},
		{[]int64{most + 1}, 0, false}, {[]int64{-most - 1}, 0, false}, {[]int64{most + 1, -1}, 0, false},
		{[]int64{-1, most + 1}, 0, false}, {[]int64{1, -most - 1, 1}, 0, false},
		{[]int64{math.MaxInt64, math.MinInt64, 1}, 0, false}, {[]int64{math.MinInt64}, 0, false}, {[]int64{1, 2, math.MaxInt64}, 0, false},
	} {
		if s, ok := num.Sum(c.l); s != c.sum || ok != c.ok {
			t.Errorf("Sum(%d): %d, %t; not %d, %t", c.l, s, ok, c.sum, c.ok)
		}
	}
}

func TestSumAsWithoutBounds(t *testing.T) {
	pool := append(edges(), numbers()...)
	r := rand.New(rand.NewSource(2))
	for range 5000 {
		l := make([]int64, r.Intn(20))
		want, right := new(big.Int), true
		for i := range l {
			l[i] = pool[r.Intn(len(pool))]
			want.Add(want, big.NewInt(l[i]))
			right = right && isNumber(l[i])
		}
		sum, ok := plain(want)
		if !right {
			sum, ok = 0, false
		}
		if s, may := num.Sum(l); s != sum || may != ok {
			t.Fatalf("Sum(%d): %d, %t; not %d, %t", l, s, may, sum, ok)
		}
	}
}

func TestSumGoesFarAndComesBack(t *testing.T) {
	l := slices.Repeat([]int64{most}, 5000)
	if s, ok := num.Sum(l); s != 0 || ok {
		t.Error("5000 times MaxNum:", s, ok)
	}
	l = append(l, slices.Repeat([]int64{-most}, 5000)...)
	if s, ok := num.Sum(append(l, -3)); s != -3 || !ok {
		t.Error("and back, and -3:", s, ok)
	}
}

func TestSumLeavesItsList(t *testing.T) {
	room := []int64{7, most, -9, 11, 13}
	l := room[:3]
	num.Sum(l)
	if !slices.Equal(room, []int64{7, most, -9, 11, 13}) {
		t.Error("changed:", room)
	}
}

func TestShow(t *testing.T) {
	for _, c := range []struct {
		n    int64
		text string
	}{
		{0, "0"}, {7, "7"}, {-7, "-7"}, {10, "10"}, {-70, "-70"}, {1000000, "1000000"},
		{most, "4611686018427387904"}, {-most, "-4611686018427387904"}, {most - 1, "4611686018427387903"},
		{most + 1, ""}, {-most - 1, ""}, {math.MaxInt64, ""}, {math.MinInt64, ""},
	} {
		if text := num.Show(c.n); text != c.text {
			t.Errorf("Show(%d): %q, not %q", c.n, text, c.text)
		}
	}
}

func TestParse(t *testing.T) {
	for _, c := range []struct {
		text string
		n    int64
		e    api.Errno
	}{
		{"0", 0, api.OK}, {"7", 7, api.OK}, {"-7", -7, api.OK}, {"10", 10, api.OK}, {"-1000", -1000, api.OK}, {"1234567890", 1234567890, api.OK},
		{"4611686018427387903", most - 1, api.OK}, {"4611686018427387904", most, api.OK}, {"-4611686018427387904", -most, api.OK},
		{"4611686018427387905", 0, api.ErrOver}, {"-4611686018427387905", 0, api.ErrOver},
		{"9223372036854775807", 0, api.ErrOver}, {"-9223372036854775808", 0, api.ErrOver},
		{"9223372036854775808", 0, api.ErrOver}, {"-9223372036854775809", 0, api.ErrOver},
		{"18446744073709551615", 0, api.ErrOver}, {"18446744073709551616", 0, api.ErrOver}, {"18446744073709551617", 0, api.ErrOver},
		{"10000000000000000000", 0, api.ErrOver}, {"99999999999999999999", 0, api.ErrOver}, {"-9999999999999999999", 0, api.ErrOver},
		{"", 0, api.ErrForm}, {"-", 0, api.ErrForm}, {"--7", 0, api.ErrForm}, {"-0", 0, api.ErrForm}, {"+7", 0, api.ErrForm}, {"+0", 0, api.ErrForm},
		{"00", 0, api.ErrForm}, {"07", 0, api.ErrForm}, {"-07", 0, api.ErrForm}, {"-00", 0, api.ErrForm},
		{" 7", 0, api.ErrForm}, {"7 ", 0, api.ErrForm}, {"7\n", 0, api.ErrForm}, {"7\x00", 0, api.ErrForm}, {"7-", 0, api.ErrForm}, {"- 7", 0, api.ErrForm},
		{"1_0", 0, api.ErrForm}, {"0x7", 0, api.ErrForm}, {"1e3", 0, api.ErrForm}, {"7.0", 0, api.ErrForm}, {"seven", 0, api.ErrForm},
		{"/", 0, api.ErrForm}, {":", 0, api.ErrForm}, {"1/", 0, api.ErrForm}, {"1:", 0, api.ErrForm}, {"\xff", 0, api.ErrForm}, {"1\u0663", 0, api.ErrForm},
	} {
		if n, e := num.Parse(c.text); n != c.n || e != c.e {
			t.Errorf("Parse(%q): %d, %d; not %d, %d", c.text, n, e, c.n, c.e)
		}
	}
}

// Of 20 bytes a text may be anything, of 21 it is too long before all else.
func TestParseLength(t *testing.T) {
	for _, c := range []struct {
		text string
		n    int64
		e    api.Errno
	}{
		{"-4611686018427387904", -most, api.OK},
		{strings.Repeat("9", 20), 0, api.ErrOver}, {strings.Repeat("0", 20), 0, api.ErrForm}, {strings.Repeat("x", 20), 0, api.ErrForm},
		{"-" + strings.Repeat("9", 19), 0, api.ErrOver},
		{strings.Repeat("9", 21), 0, api.ErrLong}, {strings.Repeat("0", 21), 0, api.ErrLong}, {strings.Repeat("x", 21), 0, api.ErrLong},
		{"-" + strings.Repeat("9", 20), 0, api.ErrLong}, {strings.Repeat(" ", 20) + "7", 0, api.ErrLong},
		{strings.Repeat("\u0663", 10), 0, api.ErrForm}, {strings.Repeat("\u0663", 10) + "1", 0, api.ErrLong},
		{strings.Repeat("7", 1<<20), 0, api.ErrLong},
	} {
		if n, e := num.Parse(c.text); n != c.n || e != c.e {
			t.Errorf("Parse of %d bytes (%.30q): %d, %d; not %d, %d", len(c.text), c.text, n, e, c.n, c.e)
		}
	}
}

func TestOrderDoesNotMatter(t *testing.T) {
	l := append(edges(), numbers()...)
	for _, a := range l {
		for _, b := range l {
			s, ok := num.Add(a, b)
			if back, may := num.Add(b, a); back != s || may != ok {
				t.Errorf("Add(%d, %d) is not Add(%d, %d)", a, b, b, a)
			}
			if both, may := num.Sum([]int64{a, b}); both != s || may != ok {
				t.Errorf("Sum of %d and %d is not Add's", a, b)
			}
			p, ok := num.Mul(a, b)
			if back, may := num.Mul(b, a); back != p || may != ok {
				t.Errorf("Mul(%d, %d) is not Mul(%d, %d)", a, b, b, a)
			}
		}
	}
}

func TestSumInAnyOrder(t *testing.T) {
	pool := append(numbers(), most, most, most, -most, -most, -most)
	r := rand.New(rand.NewSource(3))
	for range 2000 {
		l := make([]int64, 1+r.Intn(12))
		for i := range l {
			l[i] = pool[r.Intn(len(pool))]
		}
		s, ok := num.Sum(l)
		mixed := slices.Clone(l)
		r.Shuffle(len(mixed), func(i, k int) { mixed[i], mixed[k] = mixed[k], mixed[i] })
		if other, may := num.Sum(mixed); other != s || may != ok {
			t.Fatalf("Sum(%d): %d, %t; Sum(%d): %d, %t", l, s, ok, mixed, other, may)
		}
	}
}

func TestOnePartTakenAway(t *testing.T) {
	for _, a := range numbers() {
		for _, b := range numbers() {
			s, ok := num.Add(a, b)
			if !ok {
				continue
			}
			if n, may := num.Add(s, -b); n != a || !may {
				t.Errorf("Add(%d, %d) and %d taken away: %d, %t", a, b, b, n, may)
			}
		}
	}
}

func TestTextsAreReadAsShown(t *testing.T) {
	for _, n := range numbers() {
		text := num.Show(n)
		if back, e := num.Parse(text); back != n || e != api.OK {
			t.Errorf("%d is shown as %q and read as %d, %d", n, text, back, e)
		}
	}
}

// What is read shows as it was: no number has two texts.
func TestOneTextOfEachNumber(t *testing.T) {
	read := 0
	for _, text := range shortTexts("-+0179 _", 5) {
		n, e := num.Parse(text)
		if e == api.OK && num.Show(n) != text {
			t.Errorf("%q is read as %d, which shows as %q", text, n, num.Show(n))
		}
		if own, err := strconv.Atoi(text); err == nil && strconv.Itoa(own) == text {
			if read++; n != int64(own) || e != api.OK {
				t.Errorf("%q is read as %d, %d", text, n, e)
			}
		} else if n != 0 || e != api.ErrForm {
			t.Errorf("%q is no number's text, and read as %d, %d", text, n, e)
		}
	}
	if read == 0 {
		t.Error("none of the texts is a number's")
	}
}

// shortTexts are all texts of at most so many of these bytes.
func shortTexts(bytes string, longest int) []string {
	all, last := []string{""}, []string{""}
	for range longest {
		var next []string
		for _, text := range last {
			for _, b := range []byte(bytes) {
				next = append(next, text+string(rune(b)))
			}
		}
		all, last = append(all, next...), next
	}
	return all
}
