package spec

import (
	"math"
	"math/big"
	"regexp"
	"slices"
	"strconv"
	"strings"
	"testing"

	"pacesetter/api"
)

const top = 1 << 20

// example is the chapter's, whose text may be.
const example = "1 4 1 0 1 0 0 0 0 5 0 50"

// canary and blue are specs of the other strategies that may be.
const canary = "7 10 3 2 0 10 50 0 0 20 1 100"
const blue = "1048576 8 8 0 2 0 0 0 0 1048576 1048576 1048576"

// of is the spec of 12 numbers, each put to its field by the field's name.
func of(l ...int) api.Spec {
	return api.Spec{
		Version: l[0], Desired: l[1], Surge: l[2], Unavailable: l[3], Strategy: l[4],
		Steps:  [4]int{l[5], l[6], l[7], l[8]},
		Window: l[9], MaxBad: l[10], Deadline: l[11],
	}
}

// split is the numbers of a text that has 12, in tests of other calls than Read.
func split(t *testing.T, text string) []int {
	t.Helper()
	var l []int
	for _, w := range strings.Fields(text) {
		n, err := strconv.Atoi(w)
		if err != nil {
			t.Fatalf("%q: %v", text, err)
		}
		l = append(l, n)
	}
	if len(l) != 12 {
		t.Fatalf("%q: %d numbers", text, len(l))
	}
	return l
}

// with is the numbers, that one (from 1 on) swapped.
func with(l []int, place, n int) []int {
	l = slices.Clone(l)
	l[place-1] = n
	return l
}

// told is a text of the numbers, by the chapter's words.
func told(l []int) string {
	text := ""
	for i, n := range l {
		if i > 0 {
			text += " "
		}
		text += big.NewInt(int64(n)).String()
	}
	return text
}

// stepMayBe tells whether that Step (from 0 on) may be, behind others that may be.
func stepMayBe(s api.Spec, i int) bool {
	n := s.Steps[i]
	switch {
	case s.Strategy != 0:
		return n == 0
	case i == 0:
		return n >= 1 && n <= 100
	case s.Steps[i-1] == 0:
		return n == 0
	}
	return n == 0 || n > s.Steps[i-1] && n <= 100
}

// mayBe tells whether the number at that place (from 1 on) may be, behind others that may be.
func mayBe(s api.Spec, place int) bool {
	isCount := func(n int) bool { return n >= 0 && n <= top }
	switch place {
	case 1:
		return isCount(s.Version) && s.Version != 0
	case 2:
		return s.Desired >= 1 && s.Desired <= 16
	case 3:
		return isCount(s.Surge) && s.Surge+s.Desired <= 16
	case 4:
		return s.Unavailable >= 0 && s.Unavailable <= s.Desired && (s.Unavailable != 0 || s.Surge != 0)
	case 5:
		return s.Strategy == 0 || s.Strategy == 1 || s.Strategy == 2 && s.Surge >= s.Desired
	case 10:
		return isCount(s.Window) && s.Window != 0
	case 11:
		return isCount(s.MaxBad)
	case 12:
		return isCount(s.Deadline) && s.Deadline != 0
	}
	return stepMayBe(s, place-6)
}

// firstBad is the place of the first number that may not be, or 0.
func firstBad(s api.Spec) int {
	for place := 1; place <= 12; place++ {
		if !mayBe(s, place) {
			return place
		}
	}
	return 0
}

// checkAsTold holds Check of the numbers against the place that it must tell.
func checkAsTold(t *testing.T, l []int, place int) {
	t.Helper()
	want := api.ErrSpec
	if place == 0 {
		want = api.OK
	}
	if n, e := Check(of(l...)); n != place || e != want {
		t.Errorf("Check of %v: %d, %d, want %d, %d", l, n, e, place, want)
	}
}

// readAsTold holds Read of a text against what it must answer: a spec, or an error and no spec.
func readAsTold(t *testing.T, text string, want api.Spec, wantErr api.Errno) {
	t.Helper()
	if s, e := Read(text); s != want || e != wantErr {
		t.Errorf("Read of %.200q (%d bytes): %v, %d, want %v, %d", text, len(text), s, e, want, wantErr)
	}
}

// P7.1, and the stage's way: numbers are gone through as an array of pointers, one to each field, in their row.
func TestNumbers(t *testing.T) {
	var s api.Spec
	at := numbers(&s)
	want := [12]*int{&s.Version, &s.Desired, &s.Surge, &s.Unavailable, &s.Strategy, &s.Steps[0], &s.Steps[1], &s.Steps[2], &s.Steps[3], &s.Window, &s.MaxBad, &s.Deadline}
	if at != want {
		t.Errorf("numbers: %v, want %v", at, want)
	}
}

// P7.1: Fields, Make and Text of any numbers, those of specs that may not be, too.
func TestFieldsMakeText(t *testing.T) {
	for _, l := range [][]int{
		{1, 2, 3, 4, 5, 6, 7, 8, 9, 10, 11, 12},
		{-1, -2, -3, -4, -5, -6, -7, -8, -9, -10, -11, -12},
		{0, 0, 0, 0, 0, 0, 0, 0, 0, 0, 0, 0},
		{math.MinInt, math.MaxInt, 0, math.MinInt + 1, math.MaxInt - 1, 1 << 32, -1 << 32, 1 << 31, -1 << 31, 999999999, 1000000000, -1000000000},
		split(t, example), split(t, canary), split(t, blue),
	} {
		if f := Fields(of(l...)); !slices.Equal(f, l) {
			t.Errorf("Fields of %v: %v", l, f)
		}
		if s, e := Make(l); s != of(l...) || e != api.OK {
			t.Errorf("Make of %v: %v, %d", l, s, e)
		}
		if text := Text(of(l...)); text != told(l) {
			t.Errorf("Text of %v: %q", l, text)
		}
	}
	for _, text := range []string{example, canary, blue} {
		if got := Text(of(split(t, text)...)); got != text {
			t.Errorf("Text: %q, want %q", got, text)
		}
	}
	if got, want := Text(of(0, -1, 10, -10, 0, 0, 0, 0, 0, 0, 0, 123456789012)), "0 -1 10 -10 0 0 0 0 0 0 0 123456789012"; got != want {
		t.Errorf("Text: %q, want %q", got, want)
	}
}

// P7.1: Make of any other list than of 12 numbers: ErrArg, and no spec.
func TestMakeOfOtherLists(t *testing.T) {
	all := append(split(t, example), split(t, canary)...)
	for n := range len(all) + 1 {
		s, e := Make(all[:n])
		if n == 12 {
			if s != of(all...) || e != api.OK {
				t.Errorf("Make of 12 numbers: %v, %d", s, e)
			}
			continue
		}
		if s != (api.Spec{}) || e != api.ErrArg {
			t.Errorf("Make of %d numbers: %v, %d", n, s, e)
		}
	}
	for _, l := range [][]int{nil, {}, make([]int, 11, 12), make([]int, 13), make([]int, 1000), make([]int, 12<<8)} {
		if s, e := Make(l); s != (api.Spec{}) || e != api.ErrArg {
			t.Errorf("Make of %d numbers: %v, %d", len(l), s, e)
		}
	}
}

// P7.1: each number at the edges that the chapter names, and one past each of them.
func TestCheckEdges(t *testing.T) {
	for _, c := range []struct {
		text  string
		place int
	}{
		{example, 0}, {canary, 0}, {blue, 0},
		{"0 4 1 0 1 0 0 0 0 5 0 50", 1}, {"-1 4 1 0 1 0 0 0 0 5 0 50", 1}, {"1048575 4 1 0 1 0 0 0 0 5 0 50", 0}, {"1048576 4 1 0 1 0 0 0 0 5 0 50", 0}, {"1048577 4 1 0 1 0 0 0 0 5 0 50", 1},
		{"1 0 1 0 1 0 0 0 0 5 0 50", 2}, {"1 -1 1 0 1 0 0 0 0 5 0 50", 2}, {"1 1 1 0 1 0 0 0 0 5 0 50", 0}, {"1 15 1 0 1 0 0 0 0 5 0 50", 0}, {"1 16 0 1 1 0 0 0 0 5 0 50", 0}, {"1 17 0 1 1 0 0 0 0 5 0 50", 2}, {"1 17 -1 1 1 0 0 0 0 5 0 50", 2},
		{"1 4 -1 1 1 0 0 0 0 5 0 50", 3}, {"1 4 0 1 1 0 0 0 0 5 0 50", 0}, {"1 4 11 0 1 0 0 0 0 5 0 50", 0}, {"1 4 12 0 1 0 0 0 0 5 0 50", 0}, {"1 4 13 0 1 0 0 0 0 5 0 50", 3}, {"1 1 15 0 1 0 0 0 0 5 0 50", 0}, {"1 1 16 0 1 0 0 0 0 5 0 50", 3}, {"1 16 1 0 1 0 0 0 0 5 0 50", 3}, {"1 15 2 0 1 0 0 0 0 5 0 50", 3},
		{"1 4 1 -1 1 0 0 0 0 5 0 50", 4}, {"1 4 1 4 1 0 0 0 0 5 0 50", 0}, {"1 4 1 5 1 0 0 0 0 5 0 50", 4}, {"1 4 0 0 1 0 0 0 0 5 0 50", 4}, {"1 4 0 4 1 0 0 0 0 5 0 50", 0}, {"1 4 0 5 1 0 0 0 0 5 0 50", 4}, {"1 4 0 -1 1 0 0 0 0 5 0 50", 4}, {"1 16 0 16 1 0 0 0 0 5 0 50", 0}, {"1 16 0 17 1 0 0 0 0 5 0 50", 4}, {"1 1 0 1 1 0 0 0 0 5 0 50", 0}, {"1 1 0 2 1 0 0 0 0 5 0 50", 4},
		{"1 4 4 0 -1 0 0 0 0 5 0 50", 5}, {"1 4 4 0 0 1 0 0 0 5 0 50", 0}, {"1 4 4 0 1 0 0 0 0 5 0 50", 0}, {"1 4 4 0 2 0 0 0 0 5 0 50", 0}, {"1 4 4 0 3 0 0 0 0 5 0 50", 5}, {"1 4 3 0 2 0 0 0 0 5 0 50", 5}, {"1 4 5 0 2 0 0 0 0 5 0 50", 0}, {"1 1 0 1 2 0 0 0 0 5 0 50", 5}, {"1 8 8 0 2 0 0 0 0 5 0 50", 0}, {"1 9 7 0 2 0 0 0 0 5 0 50", 5},
		{"1 4 1 0 1 0 0 0 0 0 0 50", 10}, {"1 4 1 0 1 0 0 0 0 -1 0 50", 10}, {"1 4 1 0 1 0 0 0 0 1 0 50", 0}, {"1 4 1 0 1 0 0 0 0 1048576 0 50", 0}, {"1 4 1 0 1 0 0 0 0 1048577 0 50", 10},
		{"1 4 1 0 1 0 0 0 0 5 -1 50", 11}, {"1 4 1 0 1 0 0 0 0 5 1 50", 0}, {"1 4 1 0 1 0 0 0 0 5 1048576 50", 0}, {"1 4 1 0 1 0 0 0 0 5 1048577 50", 11},
		{"1 4 1 0 1 0 0 0 0 5 0 0", 12}, {"1 4 1 0 1 0 0 0 0 5 0 -1", 12}, {"1 4 1 0 1 0 0 0 0 5 0 1", 0}, {"1 4 1 0 1 0 0 0 0 5 0 1048576", 0}, {"1 4 1 0 1 0 0 0 0 5 0 1048577", 12},
	} {
		l := split(t, c.text)
		checkAsTold(t, l, c.place)
		if place := firstBad(of(l...)); place != c.place {
			t.Errorf("%q: told %d, want %d", c.text, place, c.place)
		}
	}
}

// P7.1: the four Steps, of Canary and of others.
func TestCheckSteps(t *testing.T) {
	for _, c := range []struct {
		steps [4]int
		place int
	}{
		{[4]int{1, 0, 0, 0}, 0}, {[4]int{100, 0, 0, 0}, 0}, {[4]int{0, 0, 0, 0}, 6}, {[4]int{-1, 0, 0, 0}, 6}, {[4]int{101, 0, 0, 0}, 6}, {[4]int{0, 1, 2, 3}, 6}, {[4]int{0, 0, 0, 1}, 6},
		{[4]int{10, 11, 0, 0}, 0}, {[4]int{10, 100, 0, 0}, 0}, {[4]int{10, 101, 0, 0}, 7}, {[4]int{10, 10, 0, 0}, 7}, {[4]int{10, 9, 0, 0}, 7}, {[4]int{10, -1, 0, 0}, 7}, {[4]int{10, 1, 0, 0}, 7}, {[4]int{100, 100, 0, 0}, 7}, {[4]int{100, 101, 0, 0}, 7},
		{[4]int{10, 50, 51, 0}, 0}, {[4]int{10, 50, 100, 0}, 0}, {[4]int{10, 50, 101, 0}, 8}, {[4]int{10, 50, 50, 0}, 8}, {[4]int{10, 50, 49, 0}, 8}, {[4]int{10, 50, 10, 0}, 8}, {[4]int{10, 50, 11, 0}, 8}, {[4]int{10, 50, -1, 0}, 8}, {[4]int{1, 100, 100, 0}, 8},
		{[4]int{1, 2, 3, 4}, 0}, {[4]int{97, 98, 99, 100}, 0}, {[4]int{10, 50, 60, 60}, 9}, {[4]int{10, 50, 60, 59}, 9}, {[4]int{98, 99, 100, 101}, 9}, {[4]int{98, 99, 100, 0}, 0}, {[4]int{10, 50, 60, -1}, 9}, {[4]int{10, 50, 60, 1}, 9},
		{[4]int{10, 0, 20, 0}, 8}, {[4]int{10, 0, 1, 0}, 8}, {[4]int{10, 0, -1, 0}, 8}, {[4]int{10, 0, 0, 20}, 9}, {[4]int{10, 0, 0, -1}, 9}, {[4]int{10, 20, 0, 30}, 9}, {[4]int{10, 20, 0, 1}, 9}, {[4]int{10, 0, 20, 30}, 8},
		{[4]int{math.MaxInt, 0, 0, 0}, 6}, {[4]int{math.MaxInt, 1, 2, 3}, 6}, {[4]int{math.MinInt, 1, 2, 3}, 6}, {[4]int{1, math.MaxInt, 5, 6}, 7}, {[4]int{1, math.MinInt, 5, 6}, 7}, {[4]int{1, 2, math.MaxInt, 5}, 8}, {[4]int{1, 2, 3, math.MaxInt}, 9},
	} {
		l := slices.Concat([]int{1, 8, 8, 0, 0}, c.steps[:], []int{5, 0, 50})
		checkAsTold(t, l, c.place)
		if place := firstBad(of(l...)); place != c.place {
			t.Errorf("%v: told %d, want %d", c.steps, place, c.place)
		}
	}
	for strategy := 1; strategy <= 2; strategy++ {
		l := []int{1, 8, 8, 0, strategy, 0, 0, 0, 0, 5, 0, 50}
		checkAsTold(t, l, 0)
		for place := 6; place <= 9; place++ {
			for _, n := range []int{-1, 1, 10, 100, 101, math.MinInt, math.MaxInt} {
				checkAsTold(t, with(l, place, n), place)
			}
		}
		checkAsTold(t, []int{1, 8, 8, 0, strategy, 10, 20, 30, 40, 5, 0, 50}, 6)
	}
}

// far is numbers far below 0 and far above, some of which would look right if they were wrapped round.
func far() []int {
	return []int{
		math.MinInt, math.MinInt + 1, math.MinInt + 4, -1 << 62, -1<<32 + 1, -1 << 32, math.MinInt32, -top, -1000000000,
		top + 2, 1000000000, math.MaxInt32, 1 << 32, 1<<32 + 1, 1<<32 + 4, 1 << 62, math.MaxInt - 16, math.MaxInt - 1, math.MaxInt,
	}
}

// P7.1: each number far below 0 and far above, alone and beside others that may not be, either: the first one is told.
func TestCheckFar(t *testing.T) {
	for _, text := range []string{example, canary, blue} {
		for place := 1; place <= 12; place++ {
			for _, n := range far() {
				l := with(split(t, text), place, n)
				checkAsTold(t, l, place)
				for next := place + 1; next <= 12; next++ {
					for _, m := range far() {
						checkAsTold(t, with(l, next, m), place)
					}
				}
			}
		}
	}
	for _, n := range far() {
		checkAsTold(t, slices.Repeat([]int{n}, 12), 1)
		for place := 1; place <= 12; place++ {
			l := slices.Concat(split(t, canary)[:place-1], slices.Repeat([]int{n}, 13-place))
			checkAsTold(t, l, place)
		}
	}
}

// P7.1: where several may not be, the first one is told; each wrong number here is so whatever the others are.
func TestCheckFirst(t *testing.T) {
	bad := []int{0, 17, -1, -1, 3, -1, -1, -1, -1, 0, -1, 0}
	for mask := range 1 << 12 {
		l, first := split(t, canary), 0
		for place := 12; place >= 1; place-- {
			if mask>>(place-1)&1 == 1 {
				l[place-1] = bad[place-1]
				first = place
			}
		}
		checkAsTold(t, l, first)
	}
}

// P7.1: all small Desired, Surge, Unavailable and Strategy, one with the other.
func TestCheckBudgetsAsTold(t *testing.T) {
	for desired := -1; desired <= 18; desired++ {
		for surge := -1; surge <= 18; surge++ {
			for unavailable := -1; unavailable <= 18; unavailable++ {
				for strategy := -1; strategy <= 3; strategy++ {
					first := 0
					if strategy == 0 {
						first = 5
					}
					l := []int{1, desired, surge, unavailable, strategy, first, 0, 0, 0, 5, 0, 50}
					checkAsTold(t, l, firstBad(of(l...)))
				}
			}
		}
	}
}

// P7.1: all rows of four Steps out of some, of each strategy.
func TestCheckStepsAsTold(t *testing.T) {
	out := []int{-2, -1, 0, 1, 2, 50, 99, 100, 101, 102}
	for strategy := range 3 {
		for _, a := range out {
			for _, b := range out {
				for _, c := range out {
					for _, d := range out {
						l := []int{1, 8, 8, 0, strategy, a, b, c, d, 5, 0, 50}
						checkAsTold(t, l, firstBad(of(l...)))
					}
				}
			}
		}
	}
}

// mixed is many rows of 12 numbers; most of them may be but for one or two.
func mixed(yield func([]int) bool) {
	word := uint64(1)
	next := func(n int) int {
		word = word*6364136223846793005 + 1442695040888963407
		return int(word>>33) % n
	}
	odd := slices.Concat(far(), []int{-2, -1, 0, 1, 2, 3, 15, 16, 17, 99, 100, 101, top - 1, top, top + 1, 99999999, 999999999, -999999999})
	for range 30000 {
		desired := 1 + next(16)
		surge := next(17 - desired)
		l := []int{1 + next(top), desired, surge, next(desired + 1), next(3), 0, 0, 0, 0, 1 + next(top), next(top + 1), 1 + next(top)}
		if surge == 0 {
			l[3] = 1 + next(desired)
		}
		if l[4] == 0 {
			step := 0
			for i := 5; i <= 5+next(4) && step < 100; i++ {
				step += 1 + next(100-step)
				l[i] = step
			}
		}
		for range next(3) {
			l[next(12)] = odd[next(len(odd))]
		}
		if !yield(l) {
			return
		}
	}
}

// P7.1: Check of mixed numbers; and P7.2: what is written is read as it was, of specs that may be, and of no others.
func TestMixedAsTold(t *testing.T) {
	good := 0
	for l := range mixed {
		s := of(l...)
		place := firstBad(s)
		checkAsTold(t, l, place)
		text := Text(s)
		switch {
		case place == 0:
			good++
			readAsTold(t, text, s, api.OK)
		case slices.ContainsFunc(l, func(n int) bool { return n > 999999999 || n < -999999999 }):
			readAsTold(t, text, api.Spec{}, api.ErrForm)
		default:
			readAsTold(t, text, api.Spec{}, api.ErrSpec)
		}
	}
	if good < 5000 {
		t.Errorf("just %d of them may be", good)
	}
}

// P7.2: of all small budgets that may be.
func TestReadAsWritten(t *testing.T) {
	for desired := 1; desired <= 16; desired++ {
		for surge := 0; surge <= 16-desired; surge++ {
			for unavailable := 0; unavailable <= desired; unavailable++ {
				for _, rest := range [][]int{{0, 25, 50, 75, 100, 1, 0, 1}, {1, 0, 0, 0, 0, 1, 0, 1}, {2, 0, 0, 0, 0, top, top, top}} {
					s := of(slices.Concat([]int{desired * surge, desired, surge, unavailable}, rest)...)
					s.Version++
					if firstBad(s) == 0 {
						readAsTold(t, Text(s), s, api.OK)
					}
				}
			}
		}
	}
}

// P7.1: texts that are read, the chapter's example first.
func TestRead(t *testing.T) {
	for _, text := range []string{example, canary, blue, "1 1 0 1 0 100 0 0 0 1 0 1", "1 16 0 16 1 0 0 0 0 1 0 1", "2 1 15 0 2 0 0 0 0 1 0 1", "5 2 2 2 0 1 2 3 4 6 7 8"} {
		readAsTold(t, text, of(split(t, text)...), api.OK)
	}
}

// P7.1: texts that are no spec's: ErrForm, and no spec.
func TestReadForm(t *testing.T) {
	for _, text := range []string{
		"", " ", "1", "-", "x", "1 ", " 1", strings.Repeat(" ", 11), strings.Repeat(" ", 12), strings.Repeat("1", 12), strings.Repeat("-", 12),
		"1 4 1 0 1 0 0 0 0 5 0", "1 4 1 0 1 0 0 0 0 5 0 ", "1 4 1 0 1 0 0 0 0 5 0 50 1", "1 4 1 0 1 0 0 0 0 5 0 50 x", "1 4 1 0 1 0 0 0 0 5 0 50 0 0 0",
		" " + example, "  " + example, example + " ", example + "  ", example + "\n", "\n" + example, example + "\x00", "\ufeff" + example, example + " " + example, example + "\n" + example,
		"1,4,1,0,1,0,0,0,0,5,0,50", "1\t4\t1\t0\t1\t0\t0\t0\t0\t5\t0\t50", "1_4_1_0_1_0_0_0_0_5_0_50", "1\u00a04 1 0 1 0 0 0 0 5 0 50", "1 4 1 0 1 0 0 0 0 5 0\u00a050",
		strings.Repeat("0 ", 1<<18), strings.Repeat("9", 1<<20), strings.Repeat(" ", 1<<20), strings.Repeat(example+" ", 1<<14),
		strings.Replace(example, "1", strings.Repeat("0", 1<<16)+"1", 1),
	} {
		readAsTold(t, text, api.Spec{}, api.ErrForm)
	}
	words := strings.Fields(canary)
	for i := range words[1:] {
		ahead, behind := strings.Join(words[:i+1], " "), strings.Join(words[i+1:], " ")
		for _, between := range []string{"", "  ", "   ", "\t", "\n", ",", " ,", " \t", "\t ", "\u00a0", "\u2003", "\x00", "_", "-"} {
			readAsTold(t, ahead+between+behind, api.Spec{}, api.ErrForm)
		}
	}
}

// P7.1: words that are no number, in the place of each of the 12, also where another number may not be: ErrForm goes ahead of ErrSpec.
func TestReadWords(t *testing.T) {
	for _, word := range []string{
		"", "-", "+", "--", "-0", "+0", "00", "01", "007", "-00", "-01", "-007", "+1", "+10", "--1", "-+1", "+-1", "1-", "1+", "- 1", "1 -", "0-", "0+",
		"1000000000", "1234567890", "-1000000000", "9999999999", "-9999999999", "0000000001", "0123456789", "000000001", "-000000001", "12345678901", "4294967297", "18446744073709551617", "99999999999999999999999999",
		"x", "a", "1a", "a1", "1.", "1.0", ".5", "1e1", "0x1", "0b1", "0o1", "1_0", "1,0", "1\n", "\n1", "1\t", "\t1", "1\x00", "\x001", "'1'", "\"1\"", "NaN", "Inf",
		"\u0661", "\uff11", "\u22121", "\u20131", "1\u0301", "\xff", "1\xff", "\xff1",
	} {
		for i := range 12 {
			words := strings.Fields(canary)
			words[i] = word
			readAsTold(t, strings.Join(words, " "), api.Spec{}, api.ErrForm)
			for _, bad := range []int{0, 4, 11} {
				if bad != i {
					other := slices.Clone(words)
					other[bad] = "-999999999"
					readAsTold(t, strings.Join(other, " "), api.Spec{}, api.ErrForm)
				}
			}
		}
	}
}

// P7.1: texts of specs that may not be: Check's error, and no spec; numbers of 9 digits and of - ahead of those are numbers.
func TestReadSpec(t *testing.T) {
	for i := range 12 {
		for _, word := range []string{"-1", "-9", "-10", "-999999999", "999999999", "100000000", "-100000000", "123456789", "1048577"} {
			words := strings.Fields(canary)
			words[i] = word
			readAsTold(t, strings.Join(words, " "), api.Spec{}, api.ErrSpec)
		}
	}
	for _, text := range []string{
		"0 0 0 0 0 0 0 0 0 0 0 0", "0 4 1 0 1 0 0 0 0 5 0 50", "1 17 0 1 1 0 0 0 0 5 0 50", "1 4 13 0 1 0 0 0 0 5 0 50", "1 4 0 0 1 0 0 0 0 5 0 50", "1 4 3 0 2 0 0 0 0 5 0 50",
		"1 4 1 0 1 10 0 0 0 5 0 50", "1 4 1 0 0 0 0 0 0 5 0 50", "1 4 1 0 0 10 10 0 0 5 0 50", "1 4 1 0 0 10 0 20 0 5 0 50", "1 4 1 0 1 0 0 0 0 0 0 50", "1 4 1 0 1 0 0 0 0 5 -1 50", "1 4 1 0 1 0 0 0 0 5 0 0",
		strings.Repeat("999999999 ", 11) + "999999999", strings.Repeat("-999999999 ", 11) + "-999999999",
	} {
		readAsTold(t, text, api.Spec{}, api.ErrSpec)
	}
}

// form is a spec's text by the chapter's words.
var form = regexp.MustCompile(`\A(0|-?[1-9][0-9]{0,8})( (0|-?[1-9][0-9]{0,8})){11}\z`)

// readAnyAsTold holds Read of any text against the chapter's words.
func readAnyAsTold(t *testing.T, text string) {
	t.Helper()
	if !form.MatchString(text) {
		readAsTold(t, text, api.Spec{}, api.ErrForm)
		return
	}
	s := of(split(t, text)...)
	if firstBad(s) != 0 {
		readAsTold(t, text, api.Spec{}, api.ErrSpec)
		return
	}
	readAsTold(t, text, s, api.OK)
	if got := Text(s); got != text {
		t.Errorf("Text of what was read: %q, want %q", got, text)
	}
}

// P7.1: texts with any one byte taken out, put in, or swapped for any other, and texts cut at both ends.
func TestReadTurned(t *testing.T) {
	for _, text := range []string{example, canary, blue, "1 4 1 -1 1 0 0 0 0 5 0 50"} {
		for i := range len(text) + 1 {
			readAnyAsTold(t, text[:i])
			readAnyAsTold(t, text[i:])
			for b := range 256 {
				readAnyAsTold(t, text[:i]+string([]byte{byte(b)})+text[i:])
				if i < len(text) {
					readAnyAsTold(t, text[:i]+string([]byte{byte(b)})+text[i+1:])
				}
			}
			if i < len(text) {
				readAnyAsTold(t, text[:i]+text[i+1:])
			}
		}
	}
}

// P7.1: Steps stop at the first one that is 0, of specs that may not be, too.
func TestSteps(t *testing.T) {
	for _, c := range []struct {
		steps [4]int
		want  []int
	}{
		{[4]int{0, 0, 0, 0}, nil}, {[4]int{10, 0, 0, 0}, []int{10}}, {[4]int{10, 50, 0, 0}, []int{10, 50}}, {[4]int{10, 50, 60, 0}, []int{10, 50, 60}}, {[4]int{10, 50, 60, 100}, []int{10, 50, 60, 100}},
		{[4]int{0, 10, 20, 30}, nil}, {[4]int{10, 0, 20, 30}, []int{10}}, {[4]int{10, 20, 0, 30}, []int{10, 20}}, {[4]int{0, 0, 0, 1}, nil},
		{[4]int{-1, -2, 0, -3}, []int{-1, -2}}, {[4]int{50, 10, 10, 101}, []int{50, 10, 10, 101}}, {[4]int{math.MinInt, math.MaxInt, -1, 0}, []int{math.MinInt, math.MaxInt, -1}},
	} {
		for strategy := -1; strategy <= 3; strategy++ {
			if l := Steps(api.Spec{Strategy: strategy, Steps: c.steps}); !slices.Equal(l, c.want) {
				t.Errorf("Steps of %v, strategy %d: %v, want %v", c.steps, strategy, l, c.want)
			}
		}
	}
}

// cutTold is n, the nearer end of 0 and 2^20 if it lies out of them.
func cutTold(n int) int {
	if n < 0 {
		return 0
	}
	if n > top {
		return top
	}
	return n
}

// P7.1: budgets, of numbers below 0 and above 2^20, too: each is cut, and their sum isn't.
func TestBudget(t *testing.T) {
	for _, c := range []struct{ desired, surge, unavailable, low, high int }{
		{4, 1, 0, 4, 5}, {10, 3, 2, 8, 13}, {8, 8, 0, 8, 16}, {16, 0, 16, 0, 16}, {1, 15, 1, 0, 16}, {0, 0, 0, 0, 0},
		{4, 1, 5, 0, 5}, {4, 1, top, 0, 5}, {4, -1, -1, 4, 4}, {-1, 3, 0, 0, 3}, {-4, -5, -6, 0, 0}, {-4, 5, 6, 0, 5}, {-10, 4, -20, 0, 4}, {10, -4, 3, 7, 10},
		{top, 0, 0, top, top}, {top + 1, 0, 0, top, top}, {top, 1, 1, top - 1, top + 1}, {top + 5, 1, 1, top - 1, top + 1}, {top + 5, 1, top + 2, 0, top + 1}, {top + 5, 1, top - 1, 1, top + 1}, {top, top, top, 0, 2 * top}, {top + 1, top + 1, top + 1, 0, 2 * top}, {1, top + 1, 0, 1, top + 1},
		{math.MaxInt, math.MaxInt, math.MaxInt, 0, 2 * top}, {math.MinInt, math.MinInt, math.MinInt, 0, 0}, {math.MaxInt, math.MinInt, math.MinInt, top, top}, {math.MinInt, math.MaxInt, math.MaxInt, 0, top}, {math.MaxInt, 1, 1, top - 1, top + 1},
	} {
		if low, high := Budget(api.Spec{Desired: c.desired, Surge: c.surge, Unavailable: c.unavailable}); low != c.low || high != c.high {
			t.Errorf("Budget of %d, %d, %d: %d, %d, want %d, %d", c.desired, c.surge, c.unavailable, low, high, c.low, c.high)
		}
	}
	for l := range mixed {
		s := of(l...)
		low, high := Budget(s)
		least := cutTold(s.Desired) - cutTold(s.Unavailable)
		if least < 0 {
			least = 0
		}
		if low != least || high != cutTold(s.Desired)+cutTold(s.Surge) {
			t.Errorf("Budget of %v: %d, %d", l, low, high)
		}
	}
}

// R4 and R6: what is handed in is neither changed nor kept, and lists that are answered are new memory.
func TestMemory(t *testing.T) {
	l := split(t, canary)
	room := append(slices.Clone(l), 99, 98)
	s, e := Make(room[:12])
	if e != api.OK || !slices.Equal(room, append(slices.Clone(l), 99, 98)) {
		t.Errorf("Make changed its list: %v, %d", room, e)
	}
	room[0], room[5], room[11] = -1, -1, -1
	if s != of(l...) {
		t.Errorf("Make kept its list: %v", s)
	}
	for _, call := range []func(api.Spec) []int{Fields, Steps} {
		a, b := call(s), call(s)
		want := slices.Clone(b)
		for i := range a {
			a[i] = -1
		}
		a = append(a, -1)
		if !slices.Equal(b, want) || !slices.Equal(call(s), want) || s != of(l...) {
			t.Errorf("what is answered shares memory: %v, %v, %v, want %v", a, b, s, want)
		}
	}
	for range 3 {
		checkAsTold(t, l, 0)
		if Text(s) != canary || s != of(l...) {
			t.Errorf("Text: %q of %v", Text(s), s)
		}
		readAsTold(t, canary, s, api.OK)
		readAsTold(t, "x", api.Spec{}, api.ErrForm)
	}
}

func FuzzSpec(f *testing.F) {
	for _, text := range []string{"", example, canary, blue, example + " ", "1 4 1 -1 1 0 0 0 0 5 0 -0", strings.Repeat("999999999 ", 11) + "1000000000"} {
		f.Add(text)
	}
	f.Fuzz(func(t *testing.T, text string) { readAnyAsTold(t, text) })
}
