package num

import (
	"math"
	"math/big"
	"slices"
	"testing"

	"pacesetter/api"
)

const top = api.MaxCount

// edges are numbers of all kinds: ordinary ones, each end that the chapter names and one past it, and the ends of int.
func edges() []int {
	return []int{
		math.MinInt, math.MinInt + 1, math.MinInt32, -top - 1, -top, -100, -2, -1,
		0, 1, 2, 3, 7, 10, 25, 33, 50, 63, 64, 65, 99, 100, 101, 1023, 1024, 1025,
		top/2 - 1, top / 2, top/2 + 1, top - 1, top, top + 1, 2 * top, 2*top + 1,
		1 << 31, 1 << 32, 1 << 40, 1 << 44, 1 << 60, math.MaxInt - 1, math.MaxInt,
	}
}

// told is a number that can't wrap round.
func told(n int) *big.Int { return big.NewInt(int64(n)) }

// nearer is n, or the nearer end, as the chapter's words tell it.
func nearer(n, low, high int) *big.Int {
	if n < low {
		n = low
	}
	if n > high {
		n = high
	}
	return told(n)
}

// cutTold is n, cut.
func cutTold(n int) *big.Int { return nearer(n, 0, top) }

// less is a less b, 0 at least.
func less(a, b *big.Int) *big.Int {
	d := new(big.Int).Sub(a, b)
	if d.Sign() < 0 {
		return new(big.Int)
	}
	return d
}

// same tells whether n is the number that was told.
func same(n int, want *big.Int) bool { return told(n).Cmp(want) == 0 }

// checkedTold is what Add and Mul have to answer of a, b and their sum, or product.
func checkedTold(a, b int, n *big.Int) (int, api.Errno) {
	if a < 0 || a > top || b < 0 || b > top {
		return 0, api.ErrArg
	}
	if n.Cmp(told(top)) > 0 {
		return 0, api.ErrOver
	}
	return int(n.Int64()), api.OK
}

// percentTold is Percent as the chapter's words tell it.
func percentTold(p, n int, up bool) *big.Int {
	q, rest := new(big.Int).DivMod(new(big.Int).Mul(nearer(p, 0, 100), cutTold(n)), told(100), new(big.Int))
	if up && rest.Sign() > 0 {
		q.Add(q, told(1))
	}
	return q
}

// P2.1: Cut leaves a count as it is, and takes any other number to the nearer end.
func TestCut(t *testing.T) {
	for _, c := range []struct{ n, want int }{
		{0, 0}, {1, 1}, {25, 25}, {top - 1, top - 1}, {top, top},
		{-1, 0}, {math.MinInt, 0}, {-top, 0}, {top + 1, top}, {1 << 40, top}, {math.MaxInt, top},
	} {
		if n := Cut(c.n); n != c.want {
			t.Errorf("Cut(%d) = %d, want %d", c.n, n, c.want)
		}
	}
	for _, n := range edges() {
		if !same(Cut(n), cutTold(n)) || Cut(Cut(n)) != Cut(n) {
			t.Errorf("Cut(%d) = %d", n, Cut(n))
		}
	}
}

// P2.1: Add of counts, at MaxCount and one past it; ErrArg ahead of ErrOver (R1), 0 beside each (R2).
func TestAdd(t *testing.T) {
	for _, c := range []struct {
		a, b, want int
		e          api.Errno
	}{
		{0, 0, 0, api.OK}, {2, 3, 5, api.OK}, {top, 0, top, api.OK}, {0, top, top, api.OK},
		{top - 1, 1, top, api.OK}, {top / 2, top / 2, top, api.OK},
		{top, 1, 0, api.ErrOver}, {1, top, 0, api.ErrOver}, {top, top, 0, api.ErrOver}, {top/2 + 1, top / 2, 0, api.ErrOver},
		{-1, 0, 0, api.ErrArg}, {0, -1, 0, api.ErrArg}, {-1, -1, 0, api.ErrArg}, {-1, 5, 0, api.ErrArg},
		{top + 1, 0, 0, api.ErrArg}, {0, top + 1, 0, api.ErrArg}, {top + 1, top, 0, api.ErrArg}, {top, top + 1, 0, api.ErrArg},
		{top + 1, -1, 0, api.ErrArg}, {-1, top + 1, 0, api.ErrArg},
		{math.MaxInt, math.MaxInt, 0, api.ErrArg}, {math.MinInt, math.MinInt, 0, api.ErrArg},
		{math.MaxInt, math.MinInt, 0, api.ErrArg}, {math.MaxInt, 1, 0, api.ErrArg}, {1, math.MinInt, 0, api.ErrArg},
	} {
		if n, e := Add(c.a, c.b); n != c.want || e != c.e {
			t.Errorf("Add(%d, %d) = %d, %d, want %d, %d", c.a, c.b, n, e, c.want, c.e)
		}
	}
}

// P2.1: Mul of counts, at MaxCount and one past it; ErrArg ahead of ErrOver (R1), 0 beside each (R2), even where the product would wrap round to a count.
func TestMul(t *testing.T) {
	for _, c := range []struct {
		a, b, want int
		e          api.Errno
	}{
		{0, 0, 0, api.OK}, {2, 3, 6, api.OK}, {top, 0, 0, api.OK}, {0, top, 0, api.OK},
		{top, 1, top, api.OK}, {1, top, top, api.OK}, {1024, 1024, top, api.OK}, {top / 2, 2, top, api.OK},
		{3, 349525, top - 1, api.OK}, {17, 61681, 0, api.ErrOver}, // one past MaxCount
		{top, 2, 0, api.ErrOver}, {2, top, 0, api.ErrOver}, {top, top, 0, api.ErrOver}, {1025, 1024, 0, api.ErrOver},
		{-1, 0, 0, api.ErrArg}, {0, -1, 0, api.ErrArg}, {-1, -1, 0, api.ErrArg}, {-2, -3, 0, api.ErrArg},
		{top + 1, 0, 0, api.ErrArg}, {0, top + 1, 0, api.ErrArg}, {top + 1, 1, 0, api.ErrArg}, {top + 1, top, 0, api.ErrArg},
		{1 << 44, top, 0, api.ErrArg}, {top, 1 << 44, 0, api.ErrArg}, {1 << 32, 1 << 32, 0, api.ErrArg},
		{math.MaxInt, math.MaxInt, 0, api.ErrArg}, {math.MinInt, -1, 0, api.ErrArg}, {math.MinInt, 2, 0, api.ErrArg}, {0, math.MinInt, 0, api.ErrArg},
	} {
		if n, e := Mul(c.a, c.b); n != c.want || e != c.e {
			t.Errorf("Mul(%d, %d) = %d, %d, want %d, %d", c.a, c.b, n, e, c.want, c.e)
		}
	}
}

// P2.1: Add and Mul of any two numbers, held against numbers that can't wrap round.
func TestAddAndMulAsTold(t *testing.T) {
	for _, a := range edges() {
		for _, b := range edges() {
			want, wantErr := checkedTold(a, b, new(big.Int).Add(told(a), told(b)))
			if n, e := Add(a, b); n != want || e != wantErr {
				t.Errorf("Add(%d, %d) = %d, %d, want %d, %d", a, b, n, e, want, wantErr)
			}
			want, wantErr = checkedTold(a, b, new(big.Int).Mul(told(a), told(b)))
			if n, e := Mul(a, b); n != want || e != wantErr {
				t.Errorf("Mul(%d, %d) = %d, %d, want %d, %d", a, b, n, e, want, wantErr)
			}
		}
	}
}

// P2.1, and the stage's way: what is checked is a closure that is handed over; it is run just if both are counts, and once.
func TestCheckedClosure(t *testing.T) {
	for _, c := range []struct {
		a, b, answer, want, runs int
		e                        api.Errno
	}{
		{0, top, 7, 7, 1, api.OK}, {top, 0, top, top, 1, api.OK}, {1, 1, top + 1, 0, 1, api.ErrOver},
		{-1, 0, 7, 0, 0, api.ErrArg}, {0, top + 1, 7, 0, 0, api.ErrArg}, {-1, top + 1, top + 1, 0, 0, api.ErrArg},
	} {
		runs := 0
		n, e := checked(c.a, c.b, func() int {
			runs++
			return c.answer
		})
		if n != c.want || e != c.e || runs != c.runs {
			t.Errorf("checked(%d, %d) of %d: %d, %d, run %d times", c.a, c.b, c.answer, n, e, runs)
		}
	}
}

// P2.1: Percent of the chapter's example, and at the ends of p and n and past them.
func TestPercent(t *testing.T) {
	for _, c := range []struct{ p, n, down, up int }{
		{25, 10, 2, 3}, {50, 10, 5, 5}, {33, 100, 33, 33}, {1, 1, 0, 1}, {99, 1, 0, 1}, {1, 100, 1, 1}, {1, 101, 1, 2}, {1, 99, 0, 1}, {99, 101, 99, 100},
		{0, 10, 0, 0}, {100, 10, 10, 10}, {-1, 10, 0, 0}, {101, 10, 10, 10},
		{0, 0, 0, 0}, {50, 0, 0, 0}, {100, 0, 0, 0}, {50, -1, 0, 0}, {100, -1, 0, 0},
		{100, top, top, top}, {100, top + 1, top, top}, {101, top + 1, top, top}, {50, top, top / 2, top / 2}, {50, top + 1, top / 2, top / 2},
		{1, top, 10485, 10486}, {99, top, 1038090, 1038091}, {0, top, 0, 0},
		{math.MinInt, top, 0, 0}, {math.MaxInt, top, top, top}, {math.MaxInt, math.MaxInt, top, top}, {50, math.MaxInt, top / 2, top / 2},
		{math.MaxInt, math.MinInt, 0, 0}, {math.MinInt, math.MinInt, 0, 0}, {math.MinInt, math.MaxInt, 0, 0},
	} {
		if n := Percent(c.p, c.n, false); n != c.down {
			t.Errorf("Percent(%d, %d) down = %d, want %d", c.p, c.n, n, c.down)
		}
		if n := Percent(c.p, c.n, true); n != c.up {
			t.Errorf("Percent(%d, %d) up = %d, want %d", c.p, c.n, n, c.up)
		}
	}
}

// P2.1: Percent as it is told; P2.2: rounded down is no more than rounded up, and one less at most.
func TestPercentAsTold(t *testing.T) {
	numbers := edges()
	for n := 0; n <= 300; n++ {
		numbers = append(numbers, n)
	}
	percents := edges()
	for p := -2; p <= 102; p++ {
		percents = append(percents, p)
	}
	for _, p := range percents {
		for _, n := range numbers {
			down, up := Percent(p, n, false), Percent(p, n, true)
			if !same(down, percentTold(p, n, false)) || !same(up, percentTold(p, n, true)) {
				t.Fatalf("Percent(%d, %d) = %d, or %d", p, n, down, up)
			}
			if down > up || up-down > 1 {
				t.Fatalf("Percent(%d, %d): %d down, %d up", p, n, down, up)
			}
		}
	}
}

// P2.1: Need, with each number cut first, and 0 at least twice.
func TestNeed(t *testing.T) {
	for _, c := range []struct{ ready, desired, missing, want int }{
		{0, 10, 0, 10}, {3, 10, 2, 5}, {8, 10, 2, 0}, {7, 10, 2, 1}, {9, 10, 2, 0}, {10, 10, 0, 0}, {0, 0, 0, 0},
		{0, 2, 5, 0}, {-3, 2, 5, 0}, {0, 5, 5, 0}, {-1, 10, 0, 10}, {0, -1, 0, 0}, {0, 10, -1, 10}, {0, -5, -7, 0},
		{0, top, 0, top}, {0, top + 1, 0, top}, {0, top + 1, 1, top - 1}, {0, top, top, 0}, {0, top + 5, top + 2, 0}, {top, top + 1, 0, 0}, {top + 5, top, 0, 0},
		{math.MinInt, math.MaxInt, math.MinInt, top}, {math.MaxInt, math.MaxInt, math.MinInt, 0}, {math.MinInt, math.MinInt, math.MaxInt, 0}, {0, math.MaxInt, math.MaxInt, 0},
	} {
		if n := Need(c.ready, c.desired, c.missing); n != c.want {
			t.Errorf("Need(%d, %d, %d) = %d, want %d", c.ready, c.desired, c.missing, n, c.want)
		}
	}
}

// P2.1: Room, with each number cut first; the sum of two cut ones isn't cut again.
func TestRoom(t *testing.T) {
	for _, c := range []struct{ there, desired, more, want int }{
		{0, 10, 0, 10}, {10, 10, 2, 2}, {12, 10, 2, 0}, {11, 10, 2, 1}, {13, 10, 2, 0}, {0, 0, 0, 0}, {5, 0, 0, 0}, {0, 0, 3, 3},
		{-1, 10, 0, 10}, {0, -1, 3, 3}, {0, 3, -1, 3}, {-5, -5, -5, 0},
		{0, top, 0, top}, {0, top + 1, 0, top}, {0, 0, top + 1, top}, {0, top, 1, top + 1}, {0, top, top, 2 * top}, {0, top + 1, top + 1, 2 * top},
		{top, top, top, top}, {top + 1, top, top, top}, {top + 1, top, 0, 0}, {top, top, 1, 1}, {top + 7, top, 1, 1},
		{math.MinInt, math.MaxInt, math.MaxInt, 2 * top}, {math.MaxInt, math.MaxInt, math.MaxInt, top}, {math.MaxInt, math.MinInt, math.MinInt, 0}, {math.MinInt, math.MinInt, math.MinInt, 0},
	} {
		if n := Room(c.there, c.desired, c.more); n != c.want {
			t.Errorf("Room(%d, %d, %d) = %d, want %d", c.there, c.desired, c.more, n, c.want)
		}
	}
}

// P2.1: Spare, with each number cut first, and 0 at least twice.
func TestSpare(t *testing.T) {
	for _, c := range []struct{ ready, desired, missing, want int }{
		{10, 10, 0, 0}, {10, 10, 2, 2}, {9, 10, 2, 1}, {8, 10, 2, 0}, {7, 10, 2, 0}, {12, 10, 0, 2}, {0, 0, 0, 0}, {5, 0, 0, 5},
		{3, 2, 5, 3}, {0, 2, 5, 0}, {4, 5, 5, 4}, {-1, 0, 0, 0}, {3, -1, 0, 3}, {3, 2, -1, 1}, {-5, -5, -5, 0},
		{top, 0, 0, top}, {top + 1, 0, 0, top}, {top + 1, 1, 0, top - 1}, {top, top + 1, 0, 0}, {top, top + 5, 1, 1}, {top + 5, top, 1, 1}, {top, top, top + 1, top},
		{math.MaxInt, math.MinInt, math.MaxInt, top}, {math.MaxInt, math.MaxInt, math.MinInt, 0}, {math.MinInt, math.MinInt, math.MaxInt, 0}, {math.MaxInt, math.MaxInt, math.MaxInt, top},
	} {
		if n := Spare(c.ready, c.desired, c.missing); n != c.want {
			t.Errorf("Spare(%d, %d, %d) = %d, want %d", c.ready, c.desired, c.missing, n, c.want)
		}
	}
}

// checkBudgets holds Need, Room and Spare of three numbers against the chapter's words (P2.1), and taking away what is spare against P2.2.
func checkBudgets(t *testing.T, a, b, c int) {
	t.Helper()
	must := less(cutTold(b), cutTold(c))
	if n := Need(a, b, c); !same(n, less(must, cutTold(a))) {
		t.Errorf("Need(%d, %d, %d) = %d", a, b, c, n)
	}
	if n := Room(a, b, c); !same(n, less(new(big.Int).Add(cutTold(b), cutTold(c)), cutTold(a))) {
		t.Errorf("Room(%d, %d, %d) = %d", a, b, c, n)
	}
	spare := Spare(a, b, c)
	if !same(spare, less(cutTold(a), must)) {
		t.Errorf("Spare(%d, %d, %d) = %d", a, b, c, spare)
	}
	left := Cut(a) - spare
	if left < 0 || spare > 0 && Need(left, b, c) != 0 || Need(left, b, c) != Need(a, b, c) {
		t.Errorf("of %d (%d, %d) %d are spare: that leaves a need of %d", a, b, c, spare, Need(left, b, c))
	}
	if spare > 0 && Need(left-1, b, c) != 1 && left > 0 {
		t.Errorf("of %d (%d, %d) more than %d are spare", a, b, c, spare)
	}
}

// P2.1 and P2.2: of any three numbers.
func TestBudgetsAsTold(t *testing.T) {
	for _, a := range edges() {
		for _, b := range edges() {
			for _, c := range edges() {
				checkBudgets(t, a, b, c)
			}
		}
	}
	for a := -1; a <= 20; a++ {
		for b := -1; b <= 20; b++ {
			for c := -1; c <= 20; c++ {
				checkBudgets(t, a, b, c)
			}
		}
	}
}

// P2.1: Share of the chapter's example, and at the ends of parts and n and past them.
func TestShare(t *testing.T) {
	for _, c := range []struct {
		n, parts int
		want     []int
	}{
		{7, 3, []int{3, 2, 2}}, {8, 3, []int{3, 3, 2}}, {6, 3, []int{2, 2, 2}}, {2, 3, []int{1, 1, 0}}, {1, 2, []int{1, 0}}, {10, 4, []int{3, 3, 2, 2}},
		{0, 3, []int{0, 0, 0}}, {-1, 3, []int{0, 0, 0}}, {math.MinInt, 2, []int{0, 0}},
		{7, 1, []int{7}}, {7, 0, []int{7}}, {7, -1, []int{7}}, {7, math.MinInt, []int{7}}, {0, 0, []int{0}}, {-1, -1, []int{0}},
		{top, 1, []int{top}}, {top + 1, 1, []int{top}}, {top + 1, 2, []int{top / 2, top / 2}}, {top, 3, []int{349526, 349525, 349525}}, {math.MaxInt, 3, []int{349526, 349525, 349525}},
	} {
		if l := Share(c.n, c.parts); !slices.Equal(l, c.want) {
			t.Errorf("Share(%d, %d) = %v, want %v", c.n, c.parts, l, c.want)
		}
	}
	for parts, want := range map[int]int{63: 63, 64: 64, 65: 64, top: 64, math.MaxInt: 64} {
		if l := Share(100, parts); len(l) != want {
			t.Errorf("Share(100, %d): %d parts, want %d", parts, len(l), want)
		}
	}
}

// checkShare holds the parts of n against the chapter's words: so many, all of it (P2.2), as like as may be, the greater ones first.
func checkShare(t *testing.T, n, parts int) {
	t.Helper()
	l := Share(n, parts)
	if !same(len(l), nearer(parts, 1, 64)) {
		t.Errorf("Share(%d, %d): %d parts", n, parts, len(l))
		return
	}
	sum := 0
	for i, x := range l {
		sum += x
		if x < 0 || i > 0 && x > l[i-1] {
			t.Errorf("Share(%d, %d): %d at place %d", n, parts, x, i)
		}
	}
	if !same(sum, cutTold(n)) || l[0]-l[len(l)-1] > 1 {
		t.Errorf("Share(%d, %d): %d in all, from %d to %d", n, parts, sum, l[0], l[len(l)-1])
	}
}

// P2.1 and P2.2: Share of any numbers.
func TestShareAsTold(t *testing.T) {
	parts := edges()
	for p := -2; p <= 70; p++ {
		parts = append(parts, p)
	}
	for _, p := range parts {
		for _, n := range edges() {
			checkShare(t, n, p)
		}
		for n := range 200 {
			checkShare(t, n, p)
		}
	}
}

// R4 and R6: a list that is answered is new memory, and the same arguments are answered the same.
func TestShareIsNew(t *testing.T) {
	a, b := Share(7, 3), Share(7, 3)
	a[0], a[1], a[2] = 9, 9, 9
	if want := []int{3, 2, 2}; !slices.Equal(b, want) || !slices.Equal(Share(7, 3), want) {
		t.Errorf("Share shares memory: %v, %v", b, Share(7, 3))
	}
}

func FuzzNum(f *testing.F) {
	f.Add(25, 10, 3)
	f.Add(top, top+1, -1)
	f.Add(math.MinInt, math.MaxInt, 64)
	f.Fuzz(func(t *testing.T, a, b, c int) {
		want, wantErr := checkedTold(a, b, new(big.Int).Add(told(a), told(b)))
		if n, e := Add(a, b); n != want || e != wantErr {
			t.Errorf("Add(%d, %d) = %d, %d", a, b, n, e)
		}
		want, wantErr = checkedTold(a, b, new(big.Int).Mul(told(a), told(b)))
		if n, e := Mul(a, b); n != want || e != wantErr {
			t.Errorf("Mul(%d, %d) = %d, %d", a, b, n, e)
		}
		for _, up := range []bool{false, true} {
			if n := Percent(a, b, up); !same(n, percentTold(a, b, up)) {
				t.Errorf("Percent(%d, %d, %v) = %d", a, b, up, n)
			}
		}
		checkBudgets(t, a, b, c)
		checkShare(t, a, b)
	})
}
