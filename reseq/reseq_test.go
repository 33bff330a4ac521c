package reseq_test

import (
	"fmt"
	"math"
	"math/rand"
	"slices"
	"strconv"
	"testing"

	"checkroll/api"
	"checkroll/reseq"
)

const last = 1 << 41

// numbers that stand at an edge.
var numbers = []int64{math.MinInt64, -api.MaxNum, -last, -1, 0, 1, 2, 3, last - 1, last, last + 1, api.MaxNum, math.MaxInt64}

// item for the numbers from one up to another, that one not counted in, told apart by its message.
func item(from, to int64) api.Item {
	text := strconv.FormatInt(from, 10) + "-" + strconv.FormatInt(to, 10)
	return api.Item{From: from, To: to, M: api.Msg{Kind: api.Beat, Seq: from, Time: 7, Text: text}}
}

// line that holds items of these numbers.
func line(next int64, held ...api.Item) api.Line {
	return api.Line{Next: next, Held: held}
}

// row of n items of one number each, from a number on, by steps.
func row(n int, from, step int64) []api.Item {
	var l []api.Item
	for i := range int64(n) {
		l = append(l, item(from+i*step, from+i*step+1))
	}
	return l
}

func same(a, b api.Line) bool {
	return a.Next == b.Next && slices.Equal(a.Held, b.Held)
}

func TestMay(t *testing.T) {
	for _, from := range numbers {
		for _, to := range numbers {
			want := from >= 1 && to > from && to <= last
			if reseq.May(item(from, to)) != want {
				t.Errorf("May(%d to %d): not %t", from, to, want)
			}
			// What it says doesn't matter.
			if reseq.May(api.Item{From: from, To: to, M: api.Msg{Kind: 99, Seq: -5}}) != want {
				t.Errorf("May(%d to %d), with a message that may not be: not %t", from, to, want)
			}
		}
	}
}

func TestRight(t *testing.T) {
	for _, n := range numbers {
		if ok := n >= 1 && n <= last; reseq.Right(line(n)) != ok || reseq.Right(api.Line{Next: n, Held: []api.Item{}}) != ok {
			t.Errorf("Right: Next %d: not %t", n, ok)
		}
	}
	for _, c := range []struct {
		l  api.Line
		ok bool
	}{
		{line(1, item(2, 3)), true},
		{line(1, item(1, 2)), false},
		{line(2, item(1, 5)), false},
		{line(1, item(3, 9), item(4, 5)), true},
		{line(1, item(3, 9), item(9, 12), item(20, 30)), true},
		{line(1, item(3, 4), item(3, 5)), false},
		{line(1, item(4, 5), item(3, 4)), false},
		{line(1, item(3, 4), item(9, 10), item(8, 20)), false},
		{line(1, item(3, 3)), false},
		{line(1, item(3, 2)), false},
		{line(1, item(3, 4), item(5, 5)), false},
		{line(1, item(3, last)), true},
		{line(1, item(3, last+1)), false},
		{line(last-2, item(last-1, last)), true},
		{line(last, item(last, last+1)), false},
		{line(1, item(0, 2)), false},
		{line(0, item(2, 3)), false},
		{line(-5, item(2, 3)), false},
		{line(1, row(63, 2, 1)...), true},
		{line(1, row(64, 2, 1)...), true},
		{line(1, row(65, 2, 1)...), false},
		{line(1, row(1000, 2, 1)...), false},
	} {
		if reseq.Right(c.l) != c.ok {
			t.Errorf("Right(%v): not %t", c.l, c.ok)
		}
	}
}

func TestCome(t *testing.T) {
	for _, c := range []struct {
		l      api.Line
		x      api.Item
		behind api.Line
		told   []api.Item
		what   int
	}{
		// Whose turn it is.
		{line(1), item(1, 2), line(2), []api.Item{item(1, 2)}, api.Taken},
		{line(1), item(1, 50), line(50), []api.Item{item(1, 50)}, api.Taken},
		{line(5), item(3, 6), line(6), []api.Item{item(3, 6)}, api.Taken},
		{line(5), item(1, 6), line(6), []api.Item{item(1, 6)}, api.Taken},
		{line(last - 1), item(last-1, last), line(last), []api.Item{item(last-1, last)}, api.Taken},
		{line(1), item(1, last), line(last), []api.Item{item(1, last)}, api.Taken},
		// What is behind it.
		{line(5), item(3, 5), line(5), nil, api.Old},
		{line(5), item(4, 5), line(5), nil, api.Old},
		{line(5), item(1, 2), line(5), nil, api.Old},
		{line(last), item(1, last), line(last), nil, api.Old},
		{line(5, item(7, 8)), item(1, 5), line(5, item(7, 8)), nil, api.Old},
		// What waits, in its place.
		{line(1), item(2, 3), line(1, item(2, 3)), nil, api.Kept},
		{line(1, item(4, 5)), item(2, 3), line(1, item(2, 3), item(4, 5)), nil, api.Kept},
		{line(1, item(4, 5)), item(3, 9), line(1, item(3, 9), item(4, 5)), nil, api.Kept},
		{line(1, item(4, 9)), item(5, 6), line(1, item(4, 9), item(5, 6)), nil, api.Kept},
		{line(1, item(4, 5), item(8, 9)), item(6, 7), line(1, item(4, 5), item(6, 7), item(8, 9)), nil, api.Kept},
		{line(1), item(last-1, last), line(1, item(last-1, last)), nil, api.Kept},
		// One of its From waits, whatever it stands for.
		{line(1, item(4, 5)), item(4, 5), line(1, item(4, 5)), nil, api.Old},
		{line(1, item(4, 5)), item(4, 9), line(1, item(4, 5)), nil, api.Old},
		{line(1, item(3, 4), item(4, 9), item(6, 7)), item(6, 8), line(1, item(3, 4), item(4, 9), item(6, 7)), nil, api.Old},
		// What waited is told behind it.
		{line(1, item(2, 3)), item(1, 2), line(3), []api.Item{item(1, 2), item(2, 3)}, api.Taken},
		{line(1, item(3, 4)), item(1, 2), line(2, item(3, 4)), []api.Item{item(1, 2)}, api.Taken},
		{line(1, item(2, 3), item(3, 6), item(6, 7), item(8, 9)), item(1, 2), line(7, item(8, 9)), []api.Item{item(1, 2), item(2, 3), item(3, 6), item(6, 7)}, api.Taken},
		// What lies within what was told isn't told, and goes.
		{line(1, item(2, 3), item(4, 5)), item(1, 5), line(5), []api.Item{item(1, 5)}, api.Taken},
		{line(1, item(2, 3), item(4, 5)), item(1, 4), line(5), []api.Item{item(1, 4), item(4, 5)}, api.Taken},
		{line(1, item(2, 3), item(3, 7)), item(1, 5), line(7), []api.Item{item(1, 5), item(3, 7)}, api.Taken},
		{line(1, item(2, 9), item(3, 4), item(5, 9), item(7, 10), item(12, 13)), item(1, 2), line(10, item(12, 13)), []api.Item{item(1, 2), item(2, 9), item(7, 10)}, api.Taken},
		{line(1, item(5, 6)), item(1, 5), line(6), []api.Item{item(1, 5), item(5, 6)}, api.Taken},
		{line(1, item(5, 6)), item(1, 6), line(6), []api.Item{item(1, 6)}, api.Taken},
	} {
		behind, told, what := reseq.Come(c.l, c.x)
		if !same(behind, c.behind) || !slices.Equal(told, c.told) || what != c.what {
			t.Errorf("Come(%v, %v): %v, %v, %d; want %v, %v, %d", c.l, c.x, behind, told, what, c.behind, c.told, c.what)
		}
	}
}

func TestComeWhenManyAreHeld(t *testing.T) {
	held := row(api.MaxHeld, 10, 2)
	full := line(3, held...)
	for _, c := range []struct {
		x    api.Item
		what int
	}{
		{item(1, 3), api.Old}, {item(10, 12), api.Old}, {item(136, 137), api.Old}, {item(74, 90), api.Old},
		{item(4, 5), api.Full}, {item(11, 12), api.Full}, {item(138, 139), api.Full}, {item(last-1, last), api.Full},
	} {
		behind, told, what := reseq.Come(full, c.x)
		if !same(behind, full) || len(told) != 0 || what != c.what {
			t.Errorf("Come, 64 held, %v: %d, %v, %v", c.x, what, told, behind)
		}
	}
	behind, told, what := reseq.Come(full, item(3, 10))
	if want := []api.Item{item(3, 10), held[0]}; what != api.Taken || !slices.Equal(told, want) || !same(behind, line(11, held[1:]...)) {
		t.Error("Come, 64 held, the next one:", what, told, behind)
	}
	behind, told, what = reseq.Come(line(9, row(api.MaxHeld, 10, 1)...), item(9, 10))
	if what != api.Taken || !slices.Equal(told, row(65, 9, 1)) || !same(behind, line(74)) {
		t.Error("Come, 64 held in a row, the next one:", what, told, behind)
	}
	almost := line(3, held[:63]...)
	if behind, told, what = reseq.Come(almost, held[63]); what != api.Kept || len(told) != 0 || !same(behind, full) {
		t.Error("Come, 63 held:", what, told, behind)
	}
}

func TestComeOfWhatMayNotBe(t *testing.T) {
	right := line(3, item(5, 6), item(8, 9))
	for _, x := range []api.Item{{}, item(0, 1), item(0, 4), item(-3, 9), item(3, 3), item(3, 2), item(4, 4), item(3, last+1), item(last, last+1), item(math.MaxInt64, math.MinInt64)} {
		if behind, told, what := reseq.Come(right, x); !same(behind, right) || len(told) != 0 || what != 0 {
			t.Errorf("Come(%v): %v, %v, %d", x, behind, told, what)
		}
	}
	for _, l := range []api.Line{{}, line(0), line(-1), line(last + 1), line(3, item(3, 4)), line(3, item(5, 6), item(5, 7)), line(3, item(5, 5)), line(1, row(65, 2, 1)...)} {
		for _, x := range []api.Item{item(1, 2), item(1, 4), item(3, 4), item(4, 5), item(900, 901)} {
			if behind, told, what := reseq.Come(l, x); !same(behind, l) || len(told) != 0 || what != 0 {
				t.Errorf("Come to %v, %v: %v, %v, %d", l, x, behind, told, what)
			}
		}
	}
}

func TestGap(t *testing.T) {
	for _, c := range []struct {
		l           api.Line
		first, last int64
		ok          bool
	}{
		{line(1), 0, 0, false},
		{line(7), 0, 0, false},
		{line(1, item(2, 3)), 1, 1, true},
		{line(1, item(3, 4)), 1, 2, true},
		{line(7, item(20, 21), item(30, 31)), 7, 19, true},
		{line(1, item(last-1, last)), 1, last - 2, true},
		{line(0, item(2, 3)), 0, 0, false},
		{line(3, item(3, 4)), 0, 0, false},
		{line(3, item(5, 5)), 0, 0, false},
		{line(3, item(9, 10), item(8, 9)), 0, 0, false},
		{line(1, row(64, 3, 1)...), 1, 2, true},
		{line(1, row(65, 3, 1)...), 0, 0, false},
		{line(last + 1), 0, 0, false},
		{api.Line{}, 0, 0, false},
	} {
		if a, b, ok := reseq.Gap(c.l); a != c.first || b != c.last || ok != c.ok {
			t.Errorf("Gap(%v): %d, %d, %t", c.l, a, b, ok)
		}
	}
}

func TestExample(t *testing.T) {
	l, told, what := reseq.Come(line(1), item(3, 4))
	a, b, ok := reseq.Gap(l)
	if what != api.Kept || len(told) != 0 || a != 1 || b != 2 || !ok {
		t.Error("3 comes:", what, told, a, b, ok)
	}
	l, told, _ = reseq.Come(l, item(1, 2))
	if !slices.Equal(told, []api.Item{item(1, 2)}) {
		t.Error("1 comes:", told)
	}
	l, told, _ = reseq.Come(l, item(2, 3))
	if !slices.Equal(told, []api.Item{item(2, 3), item(3, 4)}) || !same(l, line(4)) {
		t.Error("2 comes:", told, l)
	}
}

// What is told goes on from Next to Next without a hole, and each number is told once at most.
func TestToldWithoutAHole(t *testing.T) {
	r := rand.New(rand.NewSource(6))
	for range 300 {
		began := 1 + r.Int63n(5)
		l := line(began)
		var all []api.Item
		for range 200 {
			from := max(1, l.Next-4+r.Int63n(40))
			behind, told, what := reseq.Come(l, item(from, from+1+r.Int63n(1+r.Int63n(12))))
			if !reseq.Right(behind) || (len(told) != 0) != (what == api.Taken) || what < api.Taken || what > api.Full {
				t.Fatal(l, from, behind, told, what)
			}
			next := l.Next
			for _, x := range told {
				// Each begins where nothing is missing ahead of it, and goes beyond.
				if x.From > next || x.To <= next {
					t.Fatal("told", x, "at", next)
				}
				next = x.To
			}
			if behind.Next != next {
				t.Fatal("Next", behind.Next, "but told up to", next)
			}
			l, all = behind, append(all, told...)
		}
		if len(all) != 0 && (all[0].From > began || all[len(all)-1].To != l.Next) {
			t.Fatal(all, l)
		}
	}
}

// In whatever order items of one number each come, again and again, those are told that are there without a hole.
func TestAnyOrderOfSingleItems(t *testing.T) {
	r := rand.New(rand.NewSource(66))
	for range 500 {
		n := 1 + r.Int63n(70)
		var come []api.Item
		there := map[int64]bool{}
		for k := int64(1); k <= n; k++ {
			if r.Intn(40) == 0 {
				continue
			}
			there[k] = true
			for range 1 + r.Intn(3) {
				come = append(come, item(k, k+1))
			}
		}
		if len(there) > api.MaxHeld {
			continue
		}
		r.Shuffle(len(come), func(i, j int) { come[i], come[j] = come[j], come[i] })
		l := line(1)
		var all []api.Item
		for _, x := range come {
			behind, told, what := reseq.Come(l, x)
			if what == api.Full {
				t.Fatal("no room for", x, "in", l)
			}
			l, all = behind, append(all, told...)
		}
		end := int64(1)
		for there[end] {
			end++
		}
		if l.Next != end || !slices.Equal(all, row(int(end-1), 1, 1)) || len(l.Held) != len(there)-int(end-1) {
			t.Fatal("of", fmt.Sprint(there), "told", all, "and held", l)
		}
	}
}

// model is the chapter read plainly, one step after another.
func model(l api.Line, x api.Item) (api.Line, []api.Item, int) {
	held := map[int64]api.Item{}
	for _, y := range l.Held {
		held[y.From] = y
	}
	lowest := func() (api.Item, bool) {
		var best api.Item
		for _, y := range held {
			if best.From == 0 || y.From < best.From {
				best = y
			}
		}
		return best, len(held) != 0
	}
	var told []api.Item
	what := api.Old
	if x.To > l.Next && x.From <= l.Next {
		what, told, l.Next = api.Taken, []api.Item{x}, x.To
		for y, ok := lowest(); ok && y.From <= l.Next; y, ok = lowest() {
			delete(held, y.From)
			if y.To > l.Next {
				told, l.Next = append(told, y), y.To
			}
		}
	} else if _, there := held[x.From]; x.To > l.Next && !there {
		what = api.Full
		if len(held) < 64 {
			what, held[x.From] = api.Kept, x
		}
	}
	l.Held = nil
	for y, ok := lowest(); ok; y, ok = lowest() {
		l.Held = append(l.Held, y)
		delete(held, y.From)
	}
	return l, told, what
}

func TestAgainstModel(t *testing.T) {
	r := rand.New(rand.NewSource(606))
	seen := map[int]int{}
	for range 40 {
		l := line(1)
		wide := 10 + r.Int63n(150)
		for range 300 {
			from := max(1, l.Next-2+r.Int63n(wide))
			if r.Intn(30) != 0 && from <= l.Next {
				from = l.Next + 2
			}
			x := item(from, from+1+r.Int63n(4))
			behind, told, what := reseq.Come(l, x)
			mbehind, mtold, mwhat := model(l, x)
			if !same(behind, mbehind) || !slices.Equal(told, mtold) || what != mwhat {
				t.Fatalf("Come(%v, %v): %v, %v, %d; want %v, %v, %d", l, x, behind, told, what, mbehind, mtold, mwhat)
			}
			seen[what]++
			l = behind
		}
	}
	for what := api.Taken; what <= api.Full; what++ {
		if seen[what] == 0 {
			t.Error("never", what)
		}
	}
}

func TestWhatIsHandedInStays(t *testing.T) {
	for _, x := range []api.Item{item(1, 2), item(1, 4), item(1, 90), item(2, 3), item(4, 5), item(9, 10), item(40, 41), item(7, 7)} {
		room := []api.Item{item(3, 4), item(9, 12), item(11, 15), item(100, 101), item(102, 103), item(104, 105)}
		kept := slices.Clone(room)
		l := api.Line{Next: 1, Held: room[:3]}
		reseq.Come(l, x)
		reseq.Gap(l)
		reseq.Right(l)
		if !slices.Equal(room, kept) || l.Next != 1 || len(l.Held) != 3 {
			t.Errorf("Come(%v) changed the line or its spare room: %v", x, room)
		}
	}
}

// scribble over a list up to the end of its room.
func scribble(l []api.Item) {
	l = l[:cap(l)]
	for i := range l {
		l[i] = item(500, 501)
	}
}

func TestAnswersAreNew(t *testing.T) {
	for _, x := range []api.Item{item(1, 2), item(1, 3), item(1, 90), item(2, 3), item(3, 4), item(40, 41), item(7, 7)} {
		room := []api.Item{item(3, 4), item(4, 6), item(9, 12), item(100, 101), item(102, 103)}
		kept := slices.Clone(room)
		l := api.Line{Next: 1, Held: room[:3]}
		behind, told, _ := reseq.Come(l, x)
		want := slices.Clone(told)
		scribble(behind.Held)
		if !slices.Equal(told, want) {
			t.Errorf("Come(%v): what is told shares memory with what is held", x)
		}
		scribble(told)
		if !slices.Equal(room, kept) {
			t.Errorf("Come(%v): an answer shares memory with the line", x)
		}
	}
}
