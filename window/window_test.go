package window

import (
	"fmt"
	"math"
	"sync"
	"testing"
)

// call is a call of a window that may change it: a Note of a tick, or a Merge of another window, if there is one.
type call struct {
	now   int
	good  bool
	merge bool
	with  *told
}

// told is a window as the chapter's words tell it, with whole numbers alone.
type told struct {
	since, span, good, bad int
}

// toldNew is what is told of New.
func toldNew(since, span int) *told {
	m := &told{since: since, span: span}
	if since < 0 {
		m.since = 0
	}
	if since > 1099511627776 {
		m.since = 1099511627776
	}
	if span < 1 {
		m.span = 1
	}
	if span > 1048576 {
		m.span = 1048576
	}
	return m
}

// more puts so many good and bad ones to it, 2^20 at most.
func (m *told) more(good, bad int) {
	m.good, m.bad = min(m.good+good, 1048576), min(m.bad+bad, 1048576)
}

func (m *told) over(now int) bool {
	return now >= m.since+m.span
}

func (m *told) left(now int) int {
	switch {
	case now <= m.since:
		return m.span
	case m.over(now):
		return 0
	}
	return m.since + m.span - now
}

func (m *told) verdict(now, most int) int {
	switch {
	case m.bad > 0 && m.bad > most:
		return 2
	case m.over(now):
		return 1
	}
	return 0
}

// do is what is told of the call.
func (m *told) do(c call) bool {
	switch {
	case c.merge && c.with == nil:
		return false
	case c.merge && (c.with.since != m.since || c.with.span != m.span):
		return false
	case c.merge:
		m.more(c.with.good, c.with.bad)
		return true
	case c.now < m.since || m.over(c.now):
		return false
	case c.good:
		m.more(1, 0)
	default:
		m.more(0, 1)
	}
	return true
}

// window is a window of the package that is as it is told.
func (m *told) window() *Window {
	if m == nil {
		return nil
	}
	w := New(m.since, m.span)
	w.add(complex(float64(m.good), float64(m.bad)))
	return w
}

// do is what the window answers of the call.
func (c call) do(w *Window) bool {
	if c.merge {
		return w.Merge(c.with.window())
	}
	return w.Note(c.now, c.good)
}

// mosts is how many may be bad: any numbers, and those around how many are.
func (m *told) mosts() []int {
	return []int{math.MinInt, -1 << 32, -2, -1, 0, 1, 2, 3, m.bad - 1, m.bad, m.bad + 1, 1 << 20, 1<<20 + 1, 1 << 32, math.MaxInt}
}

// ticks is any ticks, and those around the begin and the end.
func (m *told) ticks() []int {
	end := m.since + m.span
	return []int{
		math.MinInt, math.MinInt + 1, -1 << 62, -1 << 40, -1 << 32, -2, -1, 0, 1, 2, 3, m.since - 1, m.since, m.since + 1, end - 2, end - 1, end, end + 1,
		1 << 20, 1 << 32, 1<<32 + end, 1 << 40, 1<<40 + 1<<20, 1 << 62, math.MaxInt - 1, math.MaxInt,
	}
}

// check holds all that the window tells against what is told of it.
func check(t *testing.T, w *Window, m *told) {
	t.Helper()
	z := w.Tally()
	if z != complex(float64(m.good), float64(m.bad)) || Good(z) != m.good || Bad(z) != m.bad {
		t.Fatalf("%+v: the tally is %v: %d good, %d bad", *m, z, Good(z), Bad(z))
	}
	if w.Since() != m.since {
		t.Fatalf("%+v: it is since %d", *m, w.Since())
	}
	for _, now := range m.ticks() {
		if w.Over(now) != m.over(now) || w.Left(now) != m.left(now) {
			t.Fatalf("%+v at %d: over %t, left %d", *m, now, w.Over(now), w.Left(now))
		}
		for _, most := range m.mosts() {
			if got := w.Verdict(now, most); got != m.verdict(now, most) {
				t.Fatalf("%+v at %d: the verdict is %d, if %d may be bad", *m, now, got, most)
			}
		}
	}
}

// hold does the call of both, and holds the window against what is told.
func hold(t *testing.T, w *Window, m *told, c call) {
	t.Helper()
	was := *m
	want := m.do(c)
	if got := c.do(w); got != want {
		t.Fatalf("%+v of %+v: %t, want %t", c, was, got, want)
	}
	check(t, w, m)
}

// is holds a window by hand: its parts, its begin, and its end.
func is(t *testing.T, w *Window, good, bad, since, end int) {
	t.Helper()
	check(t, w, &told{since, end - since, good, bad})
}

// mixer is a row of numbers that look mixed, the same each time.
type mixer uint64

// below is the next number, from 0 to n-1.
func (m *mixer) below(n int) int {
	*m = *m*6364136223846793005 + 1442695040888963407
	return int(uint64(*m)>>33) % n
}

// right is parts of tallies.
func right() []float64 {
	return []float64{0, math.Copysign(0, -1), 1, 2, 3, 10, 255, 256, 65536, 1<<20 - 1, 1 << 20}
}

// wrong is parts that no tally has: below 0, above 2^20, not whole, no number, and infinite.
func wrong() []float64 {
	return []float64{
		-1, -2, -256, -1 << 20, -1 << 32, -1 << 63, -1 << 64, -math.MaxFloat64, -0.5, -1.5, -math.SmallestNonzeroFloat64,
		1<<20 + 1, 1<<20 + 2, 1 << 21, 1 << 32, 1<<32 + 1, 1 << 53, 1 << 63, 1 << 64, 1<<64 + 1<<20, math.MaxFloat64,
		math.SmallestNonzeroFloat64, 0.25, 0.5, 0.75, 1.5, math.Pi, math.Nextafter(1, 0), math.Nextafter(1, 2), 1<<19 + 0.5, 1<<20 - 0.5,
		math.Nextafter(1<<20, 0), math.Nextafter(1<<20, 1<<21), 1<<20 + 0.5,
		math.NaN(), math.Inf(1), math.Inf(-1),
	}
}

// noTallies is complex numbers that are no tallies: the real part alone isn't one, the imaginary part alone, or both.
func noTallies() []complex128 {
	var l []complex128
	for _, x := range wrong() {
		for _, y := range right() {
			l = append(l, complex(x, y), complex(y, x))
		}
		for _, y := range wrong() {
			l = append(l, complex(x, y))
		}
	}
	return l
}

// tallies is complex numbers that are tallies.
func tallies() []complex128 {
	var l []complex128
	for _, x := range right() {
		for _, y := range right() {
			l = append(l, complex(x, y))
		}
	}
	return l
}

// sameBits tells whether both are the same, those that are no numbers too.
func sameBits(a, b complex128) bool {
	return math.Float64bits(real(a)) == math.Float64bits(real(b)) && math.Float64bits(imag(a)) == math.Float64bits(imag(b))
}

// checkSum holds a sum against what is wanted of it; the list stays as it was, with its room behind it.
func checkSum(t *testing.T, l []complex128, want complex128) {
	t.Helper()
	was := append([]complex128{}, l[:cap(l)]...)
	if got := Sum(l); !sameBits(got, want) {
		t.Fatalf("the sum of %v: %v, want %v", l, got, want)
	}
	for i, z := range l[:cap(l)] {
		if !sameBits(z, was[i]) {
			t.Fatalf("the sum of %v changed the list to %v", was, l[:cap(l)])
		}
	}
}

// P17.1: the verdicts' numbers.
func TestNumbers(t *testing.T) {
	if Open != 0 || Passed != 1 || Failed != 2 {
		t.Errorf("Open %d, Passed %d, Failed %d", Open, Passed, Failed)
	}
}

// P17.1: one good one, one bad one.
func TestOne(t *testing.T) {
	for _, c := range []struct {
		good bool
		want complex128
		g, b int
	}{{true, complex(1, 0), 1, 0}, {false, complex(0, 1), 0, 1}} {
		if got := One(c.good); !sameBits(got, c.want) || Good(got) != c.g || Bad(got) != c.b {
			t.Errorf("%t: %v, of which %d are good, %d bad", c.good, got, Good(got), Bad(got))
		}
	}
}

// P17.1: the parts of tallies, at 0 and 2^20 too.
func TestParts(t *testing.T) {
	for _, z := range tallies() {
		if good, bad := Good(z), Bad(z); float64(good) != real(z) || float64(bad) != imag(z) {
			t.Errorf("%v: %d good, %d bad", z, good, bad)
		}
	}
	for _, c := range []struct {
		z         complex128
		good, bad int
	}{{0, 0, 0}, {3 + 4i, 3, 4}, {5, 5, 0}, {7i, 0, 7}, {1048576 + 1048576i, 1048576, 1048576}, {1048576, 1048576, 0}, {1048575i, 0, 1048575}} {
		if good, bad := Good(c.z), Bad(c.z); good != c.good || bad != c.bad {
			t.Errorf("%v: %d good, %d bad", c.z, good, bad)
		}
	}
}

// P17.1: a complex number that is no tally has no parts, even if just one of them is wrong.
func TestNoTallies(t *testing.T) {
	for _, z := range noTallies() {
		if Good(z) != 0 || Bad(z) != 0 {
			t.Errorf("%v: %d good, %d bad", z, Good(z), Bad(z))
		}
	}
}

// P17.1: sums of none, of one, of many, and of what is no tally among them.
func TestSum(t *testing.T) {
	checkSum(t, nil, 0)
	checkSum(t, []complex128{}, 0)
	checkSum(t, []complex128{9 + 9i, 8}[:0], 0)
	checkSum(t, []complex128{1, 2i, 9 + 9i, 8}[:2], 1+2i)
	checkSum(t, []complex128{3 + 4i}, 3+4i)
	checkSum(t, []complex128{1, 1i, 1, 3 + 4i, 0, 10i}, 5+15i)
	checkSum(t, []complex128{1 + 2i, 1 + 2i, 1 + 2i}, 3+6i)
	for _, z := range tallies() {
		want := complex(math.Abs(real(z)), math.Abs(imag(z)))
		checkSum(t, []complex128{z}, want)
		checkSum(t, []complex128{0, z, 0}, want)
	}
	for _, z := range noTallies() {
		checkSum(t, []complex128{z}, 0)
		checkSum(t, []complex128{z, z}, 0)
		checkSum(t, []complex128{z, 3 + 4i, 1i}, 3+5i)
		checkSum(t, []complex128{3 + 4i, z, 1i}, 3+5i)
		checkSum(t, []complex128{3 + 4i, 1i, z}, 3+5i)
	}
}

// P17.1: no part of a sum is more than 2^20, and the other part is left as it is.
func TestSumOfMuch(t *testing.T) {
	const most = 1 << 20
	checkSum(t, []complex128{most - 1, 1}, most)
	checkSum(t, []complex128{most, 1}, most)
	checkSum(t, []complex128{1, most}, most)
	checkSum(t, []complex128{most, most, 2i}, complex(most, 2))
	checkSum(t, []complex128{complex(0, most-1), 1i}, complex(0, most))
	checkSum(t, []complex128{complex(0, most), 1i, 3}, complex(3, most))
	checkSum(t, []complex128{complex(most-1, most-1), 1 + 1i}, complex(most, most))
	checkSum(t, []complex128{complex(most-1, most-1), 2 + 1i}, complex(most, most))
	checkSum(t, []complex128{complex(most-1, most-2), 2 + 1i}, complex(most, most-1))
	checkSum(t, []complex128{complex(most-2, most-1), 1 + 2i}, complex(most-1, most))
	// What is above 2^20 as a sum is no wrong one of what is added to it.
	checkSum(t, []complex128{most, most, most, complex(0, most), complex(0, most), 1i}, complex(most, most))
	checkSum(t, []complex128{complex(most+1, 0), 1}, 1)
	checkSum(t, []complex128{complex(most, math.NaN()), 1}, 1)
	var long []complex128
	for range 1 << 13 {
		long = append(long, complex(most, 1))
	}
	checkSum(t, long, complex(most, 1<<13))
	for range 1 << 13 {
		long = append(long, complex(0, most-1))
	}
	checkSum(t, long, complex(most, most))
}

// P17.1: sums of long mixed lists, as told by whole numbers.
func TestSumMixed(t *testing.T) {
	none, some := noTallies(), tallies()
	var mix mixer = 17
	for range 20000 {
		var l []complex128
		good, bad := 0, 0
		for range mix.below(12) {
			switch mix.below(4) {
			case 0:
				l = append(l, none[mix.below(len(none))])
			case 1:
				z := some[mix.below(len(some))]
				l = append(l, z)
				good, bad = good+int(real(z)), bad+int(imag(z))
			default:
				g, b := mix.below(1<<mix.below(21)), mix.below(1<<mix.below(21))
				l = append(l, complex(float64(g), float64(b)))
				good, bad = good+g, bad+b
			}
		}
		checkSum(t, l, complex(float64(min(good, 1<<20)), float64(min(bad, 1<<20))))
	}
}

// numbers is any numbers, and those around the bounds of a begin and of a span.
func numbers() []int {
	return []int{
		math.MinInt, math.MinInt + 1, -1 << 62, -1<<40 - 1, -1 << 40, -1 << 32, -1 << 20, -2, -1, 0, 1, 2, 3, 10, 255, 256,
		1<<20 - 2, 1<<20 - 1, 1 << 20, 1<<20 + 1, 1<<20 + 2, 1<<32 - 1, 1 << 32, 1<<32 + 1, 1<<40 - 1, 1 << 40, 1<<40 + 1, 1<<40 + 2, 1 << 62, math.MaxInt - 1, math.MaxInt,
	}
}

// P17.1: each begin and each span, at and past the chapter's bounds: the nearer one is taken.
func TestNew(t *testing.T) {
	for _, since := range numbers() {
		for _, span := range numbers() {
			m := toldNew(since, span)
			w := New(since, span)
			check(t, w, m)
			hold(t, w, m, call{now: m.since, good: true})
			hold(t, w, m, call{now: m.since + m.span - 1})
			hold(t, w, m, call{now: m.since + m.span})
		}
	}
}

// P17.1: begins and spans by hand.
func TestNewByHand(t *testing.T) {
	for _, c := range []struct{ since, span, begin, end int }{
		{10, 5, 10, 15},
		{0, 1, 0, 1},
		{-1, 1, 0, 1},
		{math.MinInt, 3, 0, 3},
		{0, 0, 0, 1},
		{4, -1, 4, 5},
		{4, math.MinInt, 4, 5},
		{4, 1048576, 4, 1048580},
		{4, 1048577, 4, 1048580},
		{4, math.MaxInt, 4, 1048580},
		{1099511627775, 1, 1099511627775, 1099511627776},
		{1099511627776, 1, 1099511627776, 1099511627777},
		{1099511627777, 1, 1099511627776, 1099511627777},
		{math.MaxInt, math.MaxInt, 1099511627776, 1099512676352},
		{math.MaxInt, math.MinInt, 1099511627776, 1099511627777},
		{math.MinInt, math.MinInt, 0, 1},
		{math.MinInt, math.MaxInt, 0, 1048576},
	} {
		is(t, New(c.since, c.span), 0, 0, c.begin, c.end)
	}
}

// P17.1: Note, Verdict, Over and Left at each tick of a window from 10 to 15, and around it.
func TestTicks(t *testing.T) {
	for _, c := range []struct {
		now     int
		noted   bool
		verdict int
		over    bool
		left    int
	}{
		{math.MinInt, false, Open, false, 5},
		{-1, false, Open, false, 5},
		{0, false, Open, false, 5},
		{9, false, Open, false, 5},
		{10, true, Open, false, 5},
		{11, true, Open, false, 4},
		{13, true, Open, false, 2},
		{14, true, Open, false, 1},
		{15, false, Passed, true, 0},
		{16, false, Passed, true, 0},
		{1 << 40, false, Passed, true, 0},
		{math.MaxInt, false, Passed, true, 0},
	} {
		for _, good := range []bool{true, false} {
			w := New(10, 5)
			if w.Verdict(c.now, 1) != c.verdict || w.Over(c.now) != c.over || w.Left(c.now) != c.left {
				t.Errorf("at %d: verdict %d, over %t, left %d", c.now, w.Verdict(c.now, 1), w.Over(c.now), w.Left(c.now))
			}
			noted := w.Note(c.now, good)
			want := complex128(0)
			if c.noted {
				want = One(good)
			}
			if noted != c.noted || w.Tally() != want {
				t.Errorf("at %d, good %t: noted %t, tally %v", c.now, good, noted, w.Tally())
			}
			if w.Verdict(c.now, 1) != c.verdict || w.Over(c.now) != c.over || w.Left(c.now) != c.left || w.Since() != 10 {
				t.Errorf("at %d, once one is noted: verdict %d, over %t, left %d", c.now, w.Verdict(c.now, 1), w.Over(c.now), w.Left(c.now))
			}
		}
	}
}

// P17.1: what is noted when it may not be changes nothing (R3), of any tick.
func TestNoteOutside(t *testing.T) {
	for _, m := range []*told{{10, 5, 2, 1}, {0, 1, 0, 0}, {1 << 40, 1 << 20, 3, 1 << 20}, {1 << 40, 1, 1 << 20, 3}} {
		w := m.window()
		check(t, w, m)
		for _, now := range m.ticks() {
			if now >= m.since && !m.over(now) {
				continue
			}
			was := *m
			for _, good := range []bool{true, false, false} {
				hold(t, w, m, call{now: now, good: good})
			}
			if *m != was {
				t.Fatalf("it is told of %+v that %+v is noted at %d", was, *m, now)
			}
		}
	}
}

// P17.1: ticks may be in any row; the verdict goes by the tick that is told.
func TestTicksTurnedRound(t *testing.T) {
	w := New(10, 5)
	if w.Verdict(15, 0) != Passed || w.Verdict(14, 0) != Open || !w.Note(14, true) || !w.Note(10, true) || !w.Note(12, true) || w.Note(20, true) || !w.Note(11, true) {
		t.Error("a tick hangs on another one")
	}
	is(t, w, 4, 0, 10, 15)
}

// P17.1: no part is ever more than 2^20; what is noted past that is noted, and the other part goes on.
func TestNoteMuch(t *testing.T) {
	for _, m := range []*told{{10, 5, 1<<20 - 2, 7}, {10, 5, 7, 1<<20 - 2}, {10, 5, 1<<20 - 2, 1<<20 - 2}} {
		w := m.window()
		for range 4 {
			hold(t, w, m, call{now: 12, good: true})
			hold(t, w, m, call{now: 12})
		}
	}
	w := New(0, 1<<20)
	for now := range 1<<20 - 1 {
		if !w.Note(now, false) {
			t.Fatalf("nothing is noted at %d", now)
		}
	}
	is(t, w, 0, 1<<20-1, 0, 1<<20)
	for range 3 {
		if !w.Note(1<<20-1, false) {
			t.Fatal("nothing is noted at the last tick")
		}
		is(t, w, 0, 1<<20, 0, 1<<20)
	}
	if w.Verdict(0, 1<<20-1) != Failed || w.Verdict(0, 1<<20) != Open || w.Verdict(1<<20, 1<<20) != Passed {
		t.Error("verdicts of as many bad ones as a tally may tell")
	}
}

// P17.1: the verdict by how many may be bad: below 0, none, one fewer than there are, as many, and one more.
func TestVerdict(t *testing.T) {
	for _, c := range []struct{ bad, most, open, over int }{
		{0, math.MinInt, Open, Passed},
		{0, -1, Open, Passed},
		{0, 0, Open, Passed},
		{0, 1, Open, Passed},
		{1, math.MinInt, Failed, Failed},
		{1, -1, Failed, Failed},
		{1, 0, Failed, Failed},
		{1, 1, Open, Passed},
		{1, 2, Open, Passed},
		{3, -3, Failed, Failed},
		{3, -4, Failed, Failed},
		{3, 0, Failed, Failed},
		{3, 2, Failed, Failed},
		{3, 3, Open, Passed},
		{3, 4, Open, Passed},
		{3, math.MaxInt, Open, Passed},
	} {
		for _, good := range []int{0, 1, 5, 1 << 20} {
			w := (&told{10, 5, good, c.bad}).window()
			for _, now := range []int{math.MinInt, 0, 9, 10, 12, 14} {
				if got := w.Verdict(now, c.most); got != c.open {
					t.Errorf("%d bad of which %d may be, at %d: %d", c.bad, c.most, now, got)
				}
			}
			for _, now := range []int{15, 16, 1 << 41, math.MaxInt} {
				if got := w.Verdict(now, c.most); got != c.over {
					t.Errorf("%d bad of which %d may be, at %d: %d", c.bad, c.most, now, got)
				}
			}
			is(t, w, good, c.bad, 10, 15)
		}
	}
}

// P17.1: merges of windows of the same ticks, and of others; the other one stays as it was.
func TestMerge(t *testing.T) {
	for _, c := range []struct {
		w, o told
		did  bool
	}{
		{told{10, 5, 2, 1}, told{10, 5, 3, 4}, true},
		{told{10, 5, 0, 0}, told{10, 5, 3, 4}, true},
		{told{10, 5, 2, 1}, told{10, 5, 0, 0}, true},
		{told{10, 5, 2, 1}, told{11, 5, 3, 4}, false},
		{told{10, 5, 2, 1}, told{9, 5, 3, 4}, false},
		{told{10, 5, 2, 1}, told{10, 6, 3, 4}, false},
		{told{10, 5, 2, 1}, told{10, 4, 3, 4}, false},
		{told{10, 5, 2, 1}, told{11, 4, 3, 4}, false}, // over at the same tick
		{told{10, 5, 2, 1}, told{9, 6, 3, 4}, false},
		{told{10, 5, 2, 1}, told{5, 10, 3, 4}, false}, // both turned round
		{told{1 << 40, 1 << 20, 2, 1}, told{1 << 40, 1 << 20, 3, 4}, true},
		{told{1 << 40, 1 << 20, 2, 1}, told{1 << 40, 1<<20 - 1, 3, 4}, false},
		{told{0, 1, 2, 1}, told{0, 1, 3, 4}, true},
		{told{0, 1, 2, 1}, told{1, 1, 3, 4}, false},
		{told{10, 5, 1 << 20, 1}, told{10, 5, 1, 1}, true},
		{told{10, 5, 1, 1 << 20}, told{10, 5, 1, 1 << 20}, true},
		{told{10, 5, 1<<20 - 1, 1<<20 - 1}, told{10, 5, 1, 1}, true},
		{told{10, 5, 1<<20 - 1, 1<<20 - 2}, told{10, 5, 2, 1}, true},
		{told{10, 5, 1 << 20, 1 << 20}, told{10, 5, 1 << 20, 1 << 20}, true},
		{told{10, 5, 1 << 20, 1 << 20}, told{11, 5, 1 << 20, 1 << 20}, false},
	} {
		w, o := c.w.window(), c.o.window()
		want := c.w
		if c.did {
			want.more(c.o.good, c.o.bad)
		}
		if w.Merge(o) != c.did {
			t.Errorf("%+v with %+v: not %t", c.w, c.o, c.did)
		}
		check(t, w, &want)
		check(t, o, &c.o)
		// Nothing of the other one is kept: each goes on by itself.
		w.Note(c.w.since, true)
		check(t, o, &c.o)
		want.more(1, 0)
		o.Note(c.o.since, false)
		check(t, w, &want)
	}
}

// P17.1: a begin or a span past the bounds is the same as the bound, for a merge too.
func TestMergeAtTheBounds(t *testing.T) {
	w := New(math.MaxInt, math.MaxInt)
	if !w.Merge(New(1<<40, 1<<20)) || !New(-7, -7).Merge(New(0, 1)) || New(-7, -7).Merge(New(0, 2)) {
		t.Error("a merge goes by what New was told")
	}
}

// P17.1: a merge with itself doubles the tally, 2^20 at most; one with nil does nothing.
func TestMergeItself(t *testing.T) {
	w := New(10, 5)
	if !w.Merge(w) {
		t.Fatal("it isn't merged with itself")
	}
	is(t, w, 0, 0, 10, 15)
	w.Note(12, true)
	for range 3 {
		w.Note(12, false)
	}
	for i := range 24 {
		is(t, w, min(1<<i, 1<<20), min(3<<i, 1<<20), 10, 15)
		if !w.Merge(w) {
			t.Fatal("it isn't merged with itself")
		}
	}
	w = (&told{10, 5, 2, 1}).window()
	if w.Merge(nil) {
		t.Error("it is merged with nil")
	}
	is(t, w, 2, 1, 10, 15)
}

// P17.1: a merge goes by no tick: it is one of windows that are over, too.
func TestMergeOver(t *testing.T) {
	w, o := New(10, 5), New(10, 5)
	o.Note(14, false)
	if w.Verdict(15, 0) != Passed || !w.Merge(o) || w.Verdict(15, 0) != Failed {
		t.Error("what another window noted isn't merged any more")
	}
}

// P17.1: each call of a nil window.
func TestNil(t *testing.T) {
	var w *Window
	o := (&told{0, 1, 2, 1}).window()
	for _, now := range numbers() {
		if w.Note(now, true) || w.Note(now, false) || w.Over(now) || w.Left(now) != 0 {
			t.Errorf("a nil window answers at %d", now)
		}
		for _, most := range numbers() {
			if w.Verdict(now, most) != Open {
				t.Errorf("a nil window has the verdict %d at %d", w.Verdict(now, most), now)
			}
		}
	}
	if w.Tally() != 0 || w.Since() != 0 || w.Merge(nil) || w.Merge(w) || w.Merge(o) || o.Merge(w) {
		t.Error("a nil window has a tally, a begin, or is merged")
	}
	is(t, o, 2, 1, 0, 1)
}

// T0: a window that New didn't make panics at nothing.
func TestZeroWindow(t *testing.T) {
	w := &Window{}
	for _, now := range numbers() {
		w.Note(now, true)
		w.Verdict(now, now)
		w.Over(now)
		w.Left(now)
	}
	w.Tally()
	w.Since()
	w.Merge(w)
	w.Merge(New(0, 1))
	New(0, 1).Merge(w)
}

// P17.1: the chapter's example: from 10 on, for 5: two good ones, a bad one at 12: 2 and 1 i; Passed at 15, if one may be bad.
func TestExample(t *testing.T) {
	w := New(10, 5)
	if !w.Note(10, true) || !w.Note(11, true) || !w.Note(12, false) {
		t.Error("not all are noted")
	}
	if w.Tally() != 2+1i || w.Verdict(15, 1) != Passed || w.Verdict(14, 1) != Open || w.Verdict(15, 0) != Failed {
		t.Errorf("tally %v, verdicts %d, %d, %d", w.Tally(), w.Verdict(15, 1), w.Verdict(14, 1), w.Verdict(15, 0))
	}
	is(t, w, 2, 1, 10, 15)
}

// small is all calls of a few ticks, and merges of a few windows.
func small() []call {
	l := []call{{merge: true}}
	for now := range 5 {
		l = append(l, call{now: now, good: true}, call{now: now})
	}
	for since := range 3 {
		for _, span := range []int{1, 2} {
			l = append(l, call{merge: true, with: &told{since, span, 1, 2}})
		}
	}
	return l
}

// P17.1: all rows of three of the small calls, of small windows.
func TestSmallRows(t *testing.T) {
	calls := small()
	for since := range 3 {
		for _, span := range []int{1, 2} {
			for _, a := range calls {
				for _, b := range calls {
					for _, c := range calls {
						m, w := toldNew(since, span), New(since, span)
						for _, x := range []call{a, b, c} {
							if x.do(w) != m.do(x) {
								t.Fatalf("%+v, %+v, %+v from %d for %d: not as told", a, b, c, since, span)
							}
						}
						check(t, w, m)
					}
				}
			}
		}
	}
}

// any is a number near n, near a power of two, or any at all.
func (m *mixer) any(n int) int {
	switch m.below(8) {
	case 0:
		return numbers()[m.below(len(numbers()))]
	case 1:
		return m.below(1<<31) << m.below(33)
	case 2:
		return -m.below(1<<31) << m.below(32)
	}
	return n + m.below(40) - 10
}

// call is the next call of a long row of a window as told.
func (m *mixer) call(w *told) call {
	if m.below(4) > 0 {
		return call{now: m.any(w.since + m.below(w.span)), good: m.below(3) > 0}
	}
	o := *w
	o.good, o.bad = m.below(1<<m.below(21)), m.below(1<<m.below(21))
	switch m.below(6) {
	case 0:
		return call{merge: true}
	case 1:
		o = *toldNew(m.any(w.since), m.any(w.span))
	case 2:
		o.good, o.bad = 0, m.below(3)
	}
	return call{merge: true, with: &o}
}

// longRow is what a window answers of a long mixed row, all of it held against what is told.
func longRow(t *testing.T, seed int) string {
	mix := mixer(seed)
	since, span := mix.any(100), mix.any(20)
	w, m := New(since, span), toldNew(since, span)
	for range 60 {
		c := mix.call(m)
		if got, want := c.do(w), m.do(c); got != want {
			t.Errorf("%+v of %+v: %t", c, *m, got)
		}
		check(t, w, m)
	}
	return fmt.Sprint(w.Tally(), w.Since(), w.Left(math.MinInt))
}

// P17.1: long mixed rows.
func TestLongRows(t *testing.T) {
	for seed := range 500 {
		longRow(t, seed)
	}
}

// R6: windows share nothing, each answers by its own calls, in goroutines beside one another as alone.
func TestApart(t *testing.T) {
	const many = 16
	var alone, beside [many]string
	for seed := range many {
		alone[seed] = longRow(t, seed)
	}
	var all sync.WaitGroup
	for seed := range many {
		all.Go(func() { beside[seed] = longRow(t, seed) })
	}
	all.Wait()
	if alone != beside {
		t.Error("windows beside one another answer otherwise than alone")
	}
	a, b := New(10, 5), New(10, 5)
	a.Note(12, false)
	is(t, a, 0, 1, 10, 15)
	is(t, b, 0, 0, 10, 15)
}

// R6: what is told of a window changes nothing of it.
func TestAskedTwice(t *testing.T) {
	w := (&told{10, 5, 2, 1}).window()
	for range 3 {
		for _, now := range numbers() {
			w.Verdict(now, 0)
			w.Over(now)
			w.Left(now)
		}
		z := w.Tally()
		z += 5 + 5i
		is(t, w, 2, 1, 10, 15)
	}
}

// P17.2: a verdict of Failed stays, at each tick, whatever is noted and merged.
func TestFailedStays(t *testing.T) {
	for seed := range 300 {
		mix := mixer(seed)
		m := toldNew(mix.any(100), mix.any(20))
		w := m.window()
		failed := map[int]int{}
		for range 60 {
			mix.call(m).do(w)
			for _, most := range []int{-1, 0, 1, 2, 3, 10, 100, 1000, 1<<20 - 1} {
				for _, now := range m.ticks() {
					if w.Verdict(now, most) == Failed {
						failed[most]++
					} else if failed[most] > 0 {
						t.Fatalf("seed %d: failed, if %d may be bad, and at %d no more", seed, most, now)
					}
				}
			}
		}
	}
}

// P17.2: a Passed stays until more are noted: at no tick from that on any is, and at each of them it is Passed.
func TestPassedStays(t *testing.T) {
	for seed := range 300 {
		mix := mixer(seed)
		m := toldNew(mix.any(100), mix.any(20))
		w := m.window()
		for range 20 {
			c := mix.call(m)
			m.do(c)
			c.do(w)
			passed := map[int]bool{}
			for _, now := range m.ticks() {
				for _, most := range m.mosts() {
					passed[most] = passed[most] || w.Verdict(now, most) == Passed
				}
			}
			for _, now := range m.ticks() {
				if w.Verdict(now, math.MaxInt) != Passed {
					continue
				}
				if w.Note(now, false) || w.Note(now, true) || w.Note(math.MaxInt, false) {
					t.Fatalf("seed %d: one more is noted at %d, where it is over", seed, now)
				}
				for _, later := range m.ticks() {
					for _, most := range m.mosts() {
						if later >= now && passed[most] && w.Verdict(later, most) != Passed {
							t.Fatalf("seed %d: passed, if %d may be bad, and at %d no more", seed, most, later)
						}
					}
				}
			}
			check(t, w, m)
		}
	}
}

// P17.2: by hand: what is noted of a tick that wasn't over turns a Passed to a Failed, and nothing turns that.
func TestPassedUntilMore(t *testing.T) {
	w := New(10, 5)
	for _, now := range []int{15, 16, 1 << 40, math.MaxInt} {
		if w.Verdict(now, 0) != Passed || w.Note(now, false) || w.Verdict(now, 0) != Passed {
			t.Fatalf("at %d it isn't Passed any more", now)
		}
	}
	if !w.Note(14, true) || w.Verdict(15, 0) != Passed || !w.Note(14, false) || w.Verdict(15, 0) != Failed || w.Verdict(15, 1) != Passed {
		t.Fatal("what is noted of the last tick turns it otherwise")
	}
	for _, now := range []int{math.MinInt, 0, 9, 10, 14, 15, math.MaxInt} {
		w.Note(now, true)
		if w.Verdict(now, 0) != Failed {
			t.Fatalf("at %d it isn't Failed any more", now)
		}
	}
}
