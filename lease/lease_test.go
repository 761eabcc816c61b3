package lease

import (
	"math"
	"slices"
	"strconv"
	"strings"
	"testing"

	"pacesetter/api"
)

// last is the last time, and span the greatest margin and ttl, in numbers of the tests' own.
const (
	last = 1 << 40
	span = 1 << 20
)

// once is what one that took a name has of it.
type once struct {
	holder, until int
	dropped       bool
}

// told is a table as the chapter's words tell it: of each name all that ever took it, so that the last one's epoch is how many they are.
type told struct {
	margin int
	takes  map[string][]once
}

// tables is a table, and what is told of it: the margin is one that may be.
func tables(margin int) (*Table, *told) {
	return New(margin), &told{margin, map[string][]once{}}
}

// latest is the last one that took the name; nil if none ever did.
func (m *told) latest(name string) *once {
	l := m.takes[name]
	if len(l) == 0 {
		return nil
	}
	return &l[len(l)-1]
}

func (m *told) get(name string) (Lease, bool) {
	o := m.latest(name)
	if o == nil {
		return Lease{}, false
	}
	if o.dropped {
		return Lease{o.holder, len(m.takes[name]), 0}, true
	}
	return Lease{o.holder, len(m.takes[name]), o.until}, true
}

func (m *told) free(name string, now int) bool {
	o := m.latest(name)
	if o == nil || o.dropped {
		return true
	}
	from := o.until + m.margin
	if from > last {
		from = last
	}
	return now >= from
}

func (m *told) holds(name string, holder, epoch, now int) bool {
	o := m.latest(name)
	return o != nil && !o.dropped && o.holder == holder && len(m.takes[name]) == epoch && now < o.until
}

// names is the names that were taken, rising; of them those that are free at that time, if just the due ones are asked for.
func (m *told) names(due bool, now int) []string {
	var l []string
	for name := range m.takes {
		if !due || m.free(name, now) {
			l = append(l, name)
		}
	}
	slices.Sort(l)
	return l
}

// isArg tells whether a lease may not be asked for with these.
func isArg(name string, holder, now, ttl int) bool {
	return len(name) < 1 || len(name) > 16 || holder < 0 || holder > 63 || now < 0 || now > last || ttl < 1 || ttl > span
}

// until is when a lease of that time is over.
func until(now, ttl int) int {
	if now > last-ttl {
		return last
	}
	return now + ttl
}

func (m *told) Take(name string, holder, now, ttl int) (int, api.Errno) {
	if isArg(name, holder, now, ttl) {
		return 0, api.ErrArg
	}
	if !m.free(name, now) {
		return 0, api.ErrLease
	}
	m.takes[name] = append(m.takes[name], once{holder, until(now, ttl), false})
	return len(m.takes[name]), api.OK
}

func (m *told) Renew(name string, holder, epoch, now, ttl int) (int, api.Errno) {
	if isArg(name, holder, now, ttl) {
		return 0, api.ErrArg
	}
	o := m.latest(name)
	if o == nil {
		return 0, api.ErrNone
	}
	if o.holder != holder || len(m.takes[name]) != epoch {
		return 0, api.ErrEpoch
	}
	if o.dropped || now >= o.until {
		return 0, api.ErrLease
	}
	if longer := until(now, ttl); longer > o.until {
		o.until = longer
	}
	return o.until, api.OK
}

func (m *told) Drop(name string, holder, epoch int) api.Errno {
	o := m.latest(name)
	if o == nil {
		return api.ErrNone
	}
	if o.holder != holder || len(m.takes[name]) != epoch {
		return api.ErrEpoch
	}
	if o.dropped {
		return api.ErrState
	}
	o.dropped = true
	return api.OK
}

// What a call does.
const (
	taking = iota
	renewing
	dropping
)

// call is a call that may change a table.
type call struct {
	what                    int
	name                    string
	holder, epoch, now, ttl int
}

// take, renew and drop are calls.
func take(name string, holder, now, ttl int) call {
	return call{taking, name, holder, 0, now, ttl}
}

func renew(name string, holder, epoch, now, ttl int) call {
	return call{renewing, name, holder, epoch, now, ttl}
}

func drop(name string, holder, epoch int) call {
	return call{dropping, name, holder, epoch, 0, 0}
}

// keeper is a table, or what is told of one.
type keeper interface {
	Take(name string, holder, now, ttl int) (int, api.Errno)
	Renew(name string, holder, epoch, now, ttl int) (int, api.Errno)
	Drop(name string, holder, epoch int) api.Errno
}

// on is what is answered to the call.
func (c call) on(k keeper) (int, api.Errno) {
	switch c.what {
	case taking:
		return k.Take(c.name, c.holder, c.now, c.ttl)
	case renewing:
		return k.Renew(c.name, c.holder, c.epoch, c.now, c.ttl)
	}
	return 0, k.Drop(c.name, c.holder, c.epoch)
}

// edges is the times at which something may change for a name, and those out of all times.
func (m *told) edges(name string) []int {
	l := []int{math.MinInt, -1, 0, 1, last - 1, last, last + 1, math.MaxInt}
	if o := m.latest(name); o != nil {
		l = append(l, o.until-1, o.until, o.until+1, o.until+m.margin-1, o.until+m.margin, o.until+m.margin+1)
	}
	return l
}

// checkName holds all that a table answers of a name against what is told.
func checkName(t *testing.T, table *Table, m *told, name string) {
	t.Helper()
	want, wantTaken := m.get(name)
	if l, taken := table.Get(name); l != want || taken != wantTaken {
		t.Errorf("Get of %q: %v, %v, want %v, %v", name, l, taken, want, wantTaken)
	}
	for _, now := range m.edges(name) {
		if free := table.Free(name, now); free != m.free(name, now) {
			t.Errorf("Free of %q at %d: %v", name, now, free)
		}
		for _, holder := range []int{want.Holder - 1, want.Holder, want.Holder + 1} {
			for _, epoch := range []int{want.Epoch - 1, want.Epoch, want.Epoch + 1} {
				if holds := table.Holds(name, holder, epoch, now); holds != m.holds(name, holder, epoch, now) {
					t.Errorf("Holds of %q by %d in %d at %d: %v", name, holder, epoch, now, holds)
				}
			}
		}
	}
}

// checkAll holds all that a table answers against what is told, asked of these names, too.
func checkAll(t *testing.T, table *Table, m *told, asked ...string) {
	t.Helper()
	names := m.names(false, 0)
	if l := table.Names(); !slices.Equal(l, names) {
		t.Errorf("Names: %q, want %q", l, names)
	}
	for _, name := range slices.Concat(names, asked) {
		checkName(t, table, m, name)
		for _, now := range m.edges(name) {
			if l, want := table.Due(now), m.names(true, now); !slices.Equal(l, want) {
				t.Errorf("Due at %d: %q, want %q", now, l, want)
			}
		}
	}
}

// both makes a call on a table and on what is told of it, and holds what the table answers, and what that leaves, against that.
func both(t *testing.T, table *Table, m *told, c call) api.Errno {
	t.Helper()
	n, e := c.on(table)
	if want, wantE := c.on(m); n != want || e != wantE {
		t.Errorf("%+v: %d, %d, want %d, %d", c, n, e, want, wantE)
	}
	checkAll(t, table, m, c.name)
	return e
}

// answered makes a call that must be answered with that, whatever is told of it.
func answered(t *testing.T, table *Table, m *told, want int, c call) {
	t.Helper()
	n, e := c.on(table)
	if n != want || e != api.OK {
		t.Errorf("%+v: %d, %d, want %d", c, n, e, want)
	}
	if n, e := c.on(m); n != want || e != api.OK {
		t.Errorf("%+v is told as %d, %d, want %d", c, n, e, want)
	}
	checkAll(t, table, m, c.name)
}

// refused makes a call that must be refused with that error, whatever is told of it, and must leave all as it was.
func refused(t *testing.T, table *Table, m *told, want api.Errno, c call) {
	t.Helper()
	was, wasTaken := table.Get(c.name)
	if e := both(t, table, m, c); e != want {
		t.Errorf("%+v: %d, want %d", c, e, want)
	}
	if l, taken := table.Get(c.name); l != was || taken != wasTaken {
		t.Errorf("%+v was refused, and left %v, %v of %v, %v", c, l, taken, was, wasTaken)
	}
}

// P9.1: the chapter's example.
func TestExample(t *testing.T) {
	table := New(5)
	if epoch, e := table.Take("a", 1, 0, 10); epoch != 1 || e != api.OK {
		t.Errorf("taken by 1: %d, %d", epoch, e)
	}
	if !table.Holds("a", 1, 1, 9) || table.Holds("a", 1, 1, 10) || table.Free("a", 14) || !table.Free("a", 15) {
		t.Error("not held at 9, held at 10, free at 14 or not free at 15")
	}
	if epoch, e := table.Take("a", 2, 14, 10); epoch != 0 || e != api.ErrLease {
		t.Errorf("taken by 2 at 14: %d, %d", epoch, e)
	}
	if epoch, e := table.Take("a", 2, 15, 10); epoch != 2 || e != api.OK {
		t.Errorf("taken by 2 at 15: %d, %d", epoch, e)
	}
	if l, taken := table.Get("a"); l != (Lease{2, 2, 25}) || !taken {
		t.Errorf("Get: %v, %v", l, taken)
	}
}

// P9.1: in a new table nothing was taken, and two of them share nothing.
func TestNew(t *testing.T) {
	table, m := tables(3)
	other, otherM := tables(3)
	checkAll(t, table, m, "", "a", strings.Repeat("n", 17))
	answered(t, table, m, 1, take("a", 1, 5, 10))
	checkAll(t, other, otherM, "", "a")
	refused(t, other, otherM, api.ErrNone, drop("a", 1, 1))
	answered(t, other, otherM, 1, take("a", 2, 5, 10))
	checkAll(t, table, m, "a")
}

// P9.1: a table that New didn't make is one of margin 0, in which nothing was taken.
func TestZeroTable(t *testing.T) {
	_, m := tables(0)
	table := &Table{}
	checkAll(t, table, m, "", "a")
	refused(t, table, m, api.ErrNone, renew("a", 0, 0, 0, 1))
	refused(t, table, m, api.ErrNone, drop("a", 0, 0))
	answered(t, table, m, 1, take("a", 1, 0, 10))
	refused(t, table, m, api.ErrLease, take("a", 2, 9, 10))
	answered(t, table, m, 2, take("a", 2, 10, 10))
}

// P9.1: margins within their bounds, and out of them: the nearer one of both.
func TestMargins(t *testing.T) {
	for _, c := range []struct{ margin, want int }{
		{math.MinInt, 0}, {-last, 0}, {-span, 0}, {-1, 0}, {0, 0}, {1, 1}, {2, 2}, {5, 5}, {span - 1, span - 1},
		{span, span}, {span + 1, span}, {2 * span, span}, {1<<32 + 5, span}, {last, span}, {last + 1, span}, {math.MaxInt, span},
	} {
		table := New(c.margin)
		_, m := tables(c.want)
		answered(t, table, m, 1, take("a", 1, 7, 10))
		refused(t, table, m, api.ErrLease, take("a", 1, 17+c.want-1, 10))
		refused(t, table, m, api.ErrLease, take("a", 2, 17+c.want-1, 10))
		answered(t, table, m, 2, take("a", 2, 17+c.want, 10))
		answered(t, table, m, 0, drop("a", 2, 2))
		answered(t, table, m, 3, take("a", 1, 0, 1))
	}
}

// P9.1: names of each length, in bytes, not in signs.
func TestNameLengths(t *testing.T) {
	sizes := []int{63, 64, 65, 256, 1 << 20}
	for n := range 40 {
		sizes = append(sizes, n)
	}
	for _, n := range sizes {
		name := strings.Repeat("n", n)
		table, m := tables(2)
		if n == 0 || n > 16 {
			refused(t, table, m, api.ErrArg, take(name, 1, 0, 10))
			refused(t, table, m, api.ErrArg, renew(name, 1, 1, 0, 10))
			refused(t, table, m, api.ErrNone, drop(name, 1, 1))
			continue
		}
		answered(t, table, m, 1, take(name, 1, 0, 10))
		answered(t, table, m, 12, renew(name, 1, 1, 2, 10))
		refused(t, table, m, api.ErrArg, take(name+strings.Repeat("n", 17-n), 1, 0, 10))
		refused(t, table, m, api.ErrArg, renew("", 1, 1, 2, 10))
		answered(t, table, m, 0, drop(name, 1, 1))
	}
	for _, sign := range []string{"\u00e9", "\u20ac", "\U0001f600"} {
		table, m := tables(0)
		fits := strings.Repeat(sign, 16/len(sign))
		fits += strings.Repeat("n", 16-len(fits))
		answered(t, table, m, 1, take(fits, 1, 0, 10))
		refused(t, table, m, api.ErrArg, take(fits+"n", 1, 0, 10))
		refused(t, table, m, api.ErrArg, take(strings.Repeat(sign, 16), 1, 0, 10))
	}
}

// P9.1: names of any bytes; those that differ by one byte, or by their length alone, are others.
func TestAnyBytes(t *testing.T) {
	table, m := tables(0)
	for b := range 256 {
		one := string([]byte{byte(b)})
		for _, name := range []string{one, one + one, strings.Repeat(one, 16)} {
			if n, e := table.Take(name, b%64, b, 10); n != 1 || e != api.OK {
				t.Errorf("Take of %q: %d, %d", name, n, e)
			}
			m.Take(name, b%64, b, 10)
		}
	}
	for name := range m.takes {
		checkName(t, table, m, name)
	}
	if l, want := table.Names(), m.names(false, 0); len(l) != 3*256 || !slices.Equal(l, want) {
		t.Errorf("Names: %q, want %q", l, want)
	}
	names := []string{"a", "A", "a ", " a", "a\x00", "a\x00b", "\xff\xfe", "\u00e9", "e\u0301", "0", "00", "\n"}
	table, m = tables(1)
	for i, name := range names {
		answered(t, table, m, 1, take(name, i, i, 10))
	}
}

// P9.1: holders within their bounds, and out of them.
func TestHolders(t *testing.T) {
	for _, holder := range []int{math.MinInt, -last, -64, -2, -1, 0, 1, 2, 31, 32, 62, 63, 64, 65, 127, 128, 255, 256, 1 << 32, 1<<32 + 5, math.MaxInt} {
		table, m := tables(2)
		if holder < 0 || holder > 63 {
			refused(t, table, m, api.ErrArg, take("a", holder, 0, 10))
			answered(t, table, m, 1, take("a", 5, 0, 10))
			refused(t, table, m, api.ErrArg, renew("a", holder, 1, 0, 10))
			refused(t, table, m, api.ErrEpoch, drop("a", holder, 1))
			refused(t, table, m, api.ErrNone, drop("none", holder, 1))
			continue
		}
		answered(t, table, m, 1, take("a", holder, 0, 10))
		answered(t, table, m, 13, renew("a", holder, 1, 3, 10))
		for _, other := range []int{holder - 64, holder - 1, holder + 1, holder + 64, holder + 256, holder + 1<<32} {
			want := api.ErrEpoch
			if other < 0 || other > 63 {
				want = api.ErrArg
			}
			refused(t, table, m, want, renew("a", other, 1, 3, 10))
			refused(t, table, m, api.ErrEpoch, drop("a", other, 1))
			if table.Holds("a", other, 1, 3) {
				t.Errorf("held by %d, taken by %d", other, holder)
			}
		}
		answered(t, table, m, 0, drop("a", holder, 1))
	}
}

// P9.1: times within their bounds, and out of them; a sum above 2^40 is that.
func TestTimes(t *testing.T) {
	for _, now := range []int{math.MinInt, math.MinInt + 1, -last, -span, -2, -1, 0, 1, 2, 1 << 31, 1 << 32, last - span - 1, last - span, last - span + 1, last - 11, last - 10, last - 9, last - 2, last - 1, last, last + 1, last + span, math.MaxInt - span, math.MaxInt} {
		for _, ttl := range []int{1, 2, 10, 11, span - 1, span} {
			for _, margin := range []int{0, 1, 5, span} {
				table, m := tables(margin)
				if now < 0 || now > last {
					refused(t, table, m, api.ErrArg, take("a", 1, now, ttl))
					answered(t, table, m, 1, take("a", 1, 0, 10))
					refused(t, table, m, api.ErrArg, renew("a", 1, 1, now, ttl))
					continue
				}
				answered(t, table, m, 1, take("a", 1, now, ttl))
				if l, _ := table.Get("a"); l != (Lease{1, 1, min(now+ttl, last)}) {
					t.Errorf("taken at %d for %d: %v", now, ttl, l)
				}
				if table.Holds("a", 1, 1, now) != (now < last) || !table.Free("a", last) {
					t.Errorf("taken at %d for %d, with margin %d: not held then, or not free at the last time", now, ttl, margin)
				}
			}
		}
	}
}

// P9.1: at 2^40, the last time, nothing is held, and all is free; what is taken then is in the next epoch each time.
func TestLastTime(t *testing.T) {
	for _, margin := range []int{0, 1, 7, span} {
		table, m := tables(margin)
		answered(t, table, m, 1, take("a", 1, last-3, 2))
		refused(t, table, m, api.ErrLease, take("a", 1, last-2, 1))
		answered(t, table, m, last, renew("a", 1, 1, last-2, 2))
		answered(t, table, m, last, renew("a", 1, 1, last-1, span))
		refused(t, table, m, api.ErrLease, take("a", 2, last-1, 1))
		refused(t, table, m, api.ErrLease, renew("a", 1, 1, last, 1))
		for epoch := 2; epoch < 6; epoch++ {
			answered(t, table, m, epoch, take("a", epoch, last, epoch))
			refused(t, table, m, api.ErrLease, renew("a", epoch, epoch, last, 1))
			if table.Holds("a", epoch, epoch, last) || !table.Holds("a", epoch, epoch, last-1) || !table.Free("a", last) {
				t.Errorf("margin %d, epoch %d: held at the last time, or not free then", margin, epoch)
			}
		}
	}
}

// P9.1: a ttl within its bounds, and out of them.
func TestTtl(t *testing.T) {
	for _, ttl := range []int{math.MinInt, -last, -span, -1, 0, 1, 2, 10, span - 1, span, span + 1, 2 * span, 1 << 32, 1<<32 + 1, last, math.MaxInt} {
		table, m := tables(2)
		if ttl < 1 || ttl > span {
			refused(t, table, m, api.ErrArg, take("a", 1, 0, ttl))
			refused(t, table, m, api.ErrArg, take("a", 1, last, ttl))
			answered(t, table, m, 1, take("a", 1, 0, 10))
			refused(t, table, m, api.ErrArg, renew("a", 1, 1, 5, ttl))
			continue
		}
		answered(t, table, m, 1, take("a", 1, 100, ttl))
		refused(t, table, m, api.ErrLease, renew("a", 1, 1, 100+ttl, ttl))
		answered(t, table, m, 100+2*ttl-1, renew("a", 1, 1, 100+ttl-1, ttl))
	}
}

// P9.1: where several errors hold, the one told is the first of the row, and 0 is beside it: all calls of some names, holders, epochs, times and ttls, on names of which one is in its second epoch, one is over, one is dropped.
func TestFirstError(t *testing.T) {
	names := []string{"", "held", "over", "dropped", "none", strings.Repeat("n", 17)}
	count := map[api.Errno]int{}
	for i := range 6 * 6 * 5 * 8 * 5 * 3 {
		pick := func(l ...int) int {
			n := l[i%len(l)]
			i /= len(l)
			return n
		}
		table, m := tables(5)
		for _, c := range []call{take("held", 1, 0, 1), take("held", 1, 10, 15), take("over", 1, 0, 20), take("dropped", 1, 0, 20), drop("dropped", 1, 1)} {
			c.on(table)
			c.on(m)
		}
		name := names[pick(0, 1, 2, 3, 4, 5)]
		holder, epoch := pick(-1, 0, 1, 2, 63, 64), pick(-1, 0, 1, 2, 3)
		now, ttl := pick(-1, 0, 19, 20, 24, 25, last, last+1), pick(0, 1, 10, span, span+1)
		c := call{pick(taking, renewing, dropping), name, holder, epoch, now, ttl}
		count[both(t, table, m, c)]++
		if t.Failed() {
			t.FailNow()
		}
	}
	for _, e := range []api.Errno{api.OK, api.ErrArg, api.ErrNone, api.ErrEpoch, api.ErrLease, api.ErrState} {
		if count[e] < 20 {
			t.Errorf("just %d calls were answered with %d", count[e], e)
		}
	}
}

// P9.1: of each call all wrong things at once, then one fewer at a time.
func TestRowOfErrors(t *testing.T) {
	table, m := tables(5)
	answered(t, table, m, 1, take("a", 1, 0, 10))
	answered(t, table, m, 1, take("gone", 1, 0, 10))
	answered(t, table, m, 0, drop("gone", 1, 1))
	long := strings.Repeat("n", 17)
	for _, c := range []struct {
		want api.Errno
		call call
	}{
		{api.ErrArg, take("", -1, -1, 0)}, {api.ErrArg, take(long, 64, last+1, span+1)},
		{api.ErrArg, take("a", -1, -1, 0)}, {api.ErrArg, take("a", 2, -1, 0)}, {api.ErrArg, take("a", 2, 0, 0)},
		{api.ErrArg, take("", 2, 0, 1)}, {api.ErrArg, take("a", 64, 0, 1)}, {api.ErrArg, take("a", 2, -1, 1)}, {api.ErrArg, take("a", 2, 0, span+1)},
		{api.ErrLease, take("a", 2, 0, 1)},
		{api.ErrArg, renew("", -1, 7, -1, 0)}, {api.ErrArg, renew("none", 64, 7, 0, 1)}, {api.ErrArg, renew("none", 2, 7, last+1, 1)}, {api.ErrArg, renew("none", 2, 7, 20, 0)},
		{api.ErrArg, renew("a", 1, 7, 20, 0)}, {api.ErrArg, renew("a", 2, 1, -1, 1)}, {api.ErrArg, renew("a", 64, 1, 20, 1)}, {api.ErrArg, renew("gone", 1, 1, 0, 0)},
		{api.ErrNone, renew("none", 2, 7, 20, 1)}, {api.ErrNone, renew("none", 0, 0, 0, 1)}, {api.ErrNone, renew("none", 1, -1, 0, 1)},
		{api.ErrEpoch, renew("a", 2, 7, 20, 1)}, {api.ErrEpoch, renew("a", 2, 1, 20, 1)}, {api.ErrEpoch, renew("a", 1, 7, 20, 1)}, {api.ErrEpoch, renew("gone", 2, 1, 0, 1)}, {api.ErrEpoch, renew("gone", 1, 0, 0, 1)},
		{api.ErrLease, renew("a", 1, 1, 20, 1)}, {api.ErrLease, renew("a", 1, 1, 10, 1)}, {api.ErrLease, renew("gone", 1, 1, 0, 1)},
		{api.ErrNone, drop("", -1, -1)}, {api.ErrNone, drop(long, 64, 7)}, {api.ErrNone, drop("none", 0, 0)}, {api.ErrNone, drop("none", 1, 1)},
		{api.ErrEpoch, drop("a", 2, 7)}, {api.ErrEpoch, drop("a", 1, 2)}, {api.ErrEpoch, drop("a", 1, 0)}, {api.ErrEpoch, drop("a", 2, 1)}, {api.ErrEpoch, drop("a", -1, 1)}, {api.ErrEpoch, drop("a", 64, 1)},
		{api.ErrEpoch, drop("gone", 2, 1)}, {api.ErrEpoch, drop("gone", 1, 0)}, {api.ErrEpoch, drop("gone", 1, 2)},
		{api.ErrState, drop("gone", 1, 1)},
	} {
		refused(t, table, m, c.want, c.call)
	}
}

// P9.1: takes ahead of until, at until, one below until and the margin, and at it, by the holder itself and by others.
func TestTakeAgain(t *testing.T) {
	for _, margin := range []int{0, 1, 2, 5, 100, span} {
		for _, next := range []int{1, 2, 0, 63} {
			table, m := tables(margin)
			answered(t, table, m, 1, take("a", 1, 50, 10))
			for _, now := range []int{0, 49, 50, 51, 59, 60 + margin - 1} {
				refused(t, table, m, api.ErrLease, take("a", next, now, 10))
			}
			if margin > 0 {
				refused(t, table, m, api.ErrLease, take("a", next, 60, 10))
			}
			answered(t, table, m, 2, take("a", next, 60+margin, 10))
			if l, _ := table.Get("a"); l != (Lease{next, 2, 70 + margin}) {
				t.Errorf("margin %d, taken by %d: %v", margin, next, l)
			}
			if table.Holds("a", 1, 1, 55) || !table.Holds("a", next, 2, 0) {
				t.Errorf("margin %d, taken by %d: the one ahead of it holds it yet, or it doesn't", margin, next)
			}
			answered(t, table, m, 3, take("a", next, 70+2*margin+9, 10))
		}
	}
}

// P9.1: renewals that make it later, leave it, come at a time ahead of what it was held at; each holds for what comes then.
func TestRenew(t *testing.T) {
	for _, margin := range []int{0, 3, span} {
		table, m := tables(margin)
		answered(t, table, m, 1, take("a", 4, 100, 10))
		for _, c := range []struct{ now, ttl, want int }{
			{100, 10, 110}, {101, 10, 111}, {109, 1, 111}, {110, 1, 111}, {0, 1, 111}, {0, 111, 111}, {0, 112, 112},
			{100, 5, 112}, {111, 1, 112}, {111, 2, 113}, {50, 100, 150}, {149, 1, 150}, {149, 3, 152}, {0, span, span}, {span - 1, span, 2*span - 1},
		} {
			answered(t, table, m, c.want, renew("a", 4, 1, c.now, c.ttl))
			if l, _ := table.Get("a"); l != (Lease{4, 1, c.want}) {
				t.Errorf("renewed at %d for %d: %v", c.now, c.ttl, l)
			}
			refused(t, table, m, api.ErrLease, renew("a", 4, 1, c.want, 10))
			refused(t, table, m, api.ErrLease, renew("a", 4, 1, c.want+1, 10))
			refused(t, table, m, api.ErrLease, renew("a", 4, 1, c.want+margin, 10))
			refused(t, table, m, api.ErrEpoch, renew("a", 5, 1, c.now, c.ttl))
			refused(t, table, m, api.ErrEpoch, renew("a", 4, 2, c.now, c.ttl))
			refused(t, table, m, api.ErrEpoch, renew("a", 4, 0, c.now, c.ttl))
			refused(t, table, m, api.ErrLease, take("a", 5, c.want+margin-1, 10))
		}
		answered(t, table, m, 2, take("a", 5, 2*span-1+margin, 10))
		refused(t, table, m, api.ErrEpoch, renew("a", 4, 1, 0, 10))
		refused(t, table, m, api.ErrEpoch, renew("a", 4, 2, 0, 10))
		refused(t, table, m, api.ErrEpoch, renew("a", 5, 1, 0, 10))
		answered(t, table, m, 2*span+9+margin, renew("a", 5, 2, 0, 10))
	}
}

// P9.1: between until and the margin it is held by none, and none may take it.
func TestInMargin(t *testing.T) {
	table, m := tables(5)
	answered(t, table, m, 1, take("a", 1, 0, 10))
	for now := 10; now < 15; now++ {
		if table.Holds("a", 1, 1, now) || table.Free("a", now) {
			t.Errorf("at %d: held, or free", now)
		}
		refused(t, table, m, api.ErrLease, renew("a", 1, 1, now, 10))
		refused(t, table, m, api.ErrLease, take("a", 1, now, 10))
		if l := table.Due(now); len(l) != 0 {
			t.Errorf("Due at %d: %q", now, l)
		}
	}
	answered(t, table, m, 0, drop("a", 1, 1))
	answered(t, table, m, 2, take("a", 2, 12, 10))
}

// P9.1: drops of what is held, of what is held no more, of what is free; by another, in another epoch; of what is dropped. Behind one it is free at all times, and the next one has the next epoch.
func TestDrop(t *testing.T) {
	for _, margin := range []int{0, 1, 5, span} {
		table, m := tables(margin)
		for epoch := 1; epoch < 8; epoch++ {
			now := 100 * epoch % 300
			answered(t, table, m, epoch, take("a", epoch%3, now, 10))
			for _, c := range []struct{ holder, epoch int }{{(epoch + 1) % 3, epoch}, {epoch % 3, epoch - 1}, {epoch % 3, epoch + 1}, {epoch % 3, 0}, {epoch % 3, -epoch}, {-1, epoch}, {64 + epoch%3, epoch}, {epoch % 3, epoch + 1<<32}, {epoch, now}} {
				if c.holder != epoch%3 || c.epoch != epoch {
					refused(t, table, m, api.ErrEpoch, drop("a", c.holder, c.epoch))
				}
			}
			answered(t, table, m, 0, drop("a", epoch%3, epoch))
			if l, taken := table.Get("a"); l != (Lease{epoch % 3, epoch, 0}) || !taken {
				t.Errorf("dropped in %d: %v, %v", epoch, l, taken)
			}
			refused(t, table, m, api.ErrState, drop("a", epoch%3, epoch))
			refused(t, table, m, api.ErrLease, renew("a", epoch%3, epoch, 0, 10))
			refused(t, table, m, api.ErrLease, renew("a", epoch%3, epoch, now, 10))
			for _, at := range []int{math.MinInt, -1, 0, now, last, last + 1} {
				if !table.Free("a", at) || table.Holds("a", epoch%3, epoch, at) || !slices.Equal(table.Due(at), []string{"a"}) {
					t.Errorf("dropped in %d, at %d: not free, held, or not due", epoch, at)
				}
			}
		}
	}
	table, m := tables(5)
	answered(t, table, m, 1, take("over", 1, 0, 10))
	answered(t, table, m, 1, take("free", 2, 0, 1))
	refused(t, table, m, api.ErrLease, renew("over", 1, 1, 12, 1))
	answered(t, table, m, 0, drop("over", 1, 1))
	answered(t, table, m, 0, drop("free", 2, 1))
	answered(t, table, m, 2, take("over", 1, 0, 10))
}

// P9.1: Get, Holds and Free of names that were never taken, were taken, and were dropped.
func TestAsked(t *testing.T) {
	table, m := tables(5)
	answered(t, table, m, 1, take("taken", 0, 7, 10))
	answered(t, table, m, 1, take("dropped", 0, 7, 10))
	answered(t, table, m, 0, drop("dropped", 0, 1))
	for _, c := range []struct {
		name  string
		lease Lease
		taken bool
	}{
		{"taken", Lease{0, 1, 17}, true}, {"dropped", Lease{0, 1, 0}, true}, {"none", Lease{}, false}, {"", Lease{}, false},
		{"take", Lease{}, false}, {"taken ", Lease{}, false}, {strings.Repeat("n", 17), Lease{}, false}, {strings.Repeat("n", 1000), Lease{}, false},
	} {
		if l, taken := table.Get(c.name); l != c.lease || taken != c.taken {
			t.Errorf("Get of %q: %v, %v", c.name, l, taken)
		}
		for now, want := range map[int][2]bool{math.MinInt: {true, false}, -1: {true, false}, 0: {true, false}, 7: {true, false}, 16: {true, false}, 17: {false, false}, 21: {false, false}, 22: {false, true}, last: {false, true}, last + 1: {false, true}, math.MaxInt: {false, true}} {
			if c.name != "taken" {
				want = [2]bool{false, true}
			}
			for _, epoch := range []int{0, 1} {
				for _, holder := range []int{-1, 0, 1, 64} {
					if holds := table.Holds(c.name, holder, epoch, now); holds != (want[0] && epoch == 1 && holder == 0) {
						t.Errorf("Holds of %q by %d in %d at %d: %v", c.name, holder, epoch, now, holds)
					}
				}
			}
			if free := table.Free(c.name, now); free != want[1] {
				t.Errorf("Free of %q at %d: %v", c.name, now, free)
			}
		}
	}
}

// P9.1: names rise by their bytes, in whatever row they were taken; Due has just those that are free.
func TestRising(t *testing.T) {
	rising := []string{"\x00", "\x00\x00", "\n", " ", "!", "0", "1", "10", "2", "A", "Z", "_", "a", "a\x00", "aa", "ab", "b", "k\xff", "z", "\x7f", "\x80", "\u00e9", "\u20ac", "\U0001f600", "\xff", "\xff\x00", "\xff\xff"}
	for start := range rising {
		for _, by := range []int{1, 2, 4, 5, 7, 26} {
			table := New(3)
			for i := range rising {
				at := (start + i*by) % len(rising)
				if _, e := table.Take(rising[at], 1, 0, 10+at); e != api.OK {
					t.Fatalf("Take: %d", e)
				}
			}
			if l := table.Names(); !slices.Equal(l, rising) {
				t.Fatalf("Names: %q, want %q", l, rising)
			}
			for now := range 50 {
				want := rising[:max(0, min(len(rising), now-12))]
				if l := table.Due(now); !slices.Equal(l, want) {
					t.Fatalf("Due at %d: %q, want %q", now, l, want)
				}
			}
		}
	}
}

// P9.1: Due of names that are held, over, free, dropped, taken again.
func TestDue(t *testing.T) {
	table, m := tables(5)
	for i, name := range []string{"e", "c", "a", "d", "b"} {
		answered(t, table, m, 1, take(name, i, 0, 10*(i+1)))
	}
	answered(t, table, m, 0, drop("d", 3, 1))
	answered(t, table, m, 2, take("e", 9, 15, 100))
	answered(t, table, m, 50, renew("c", 1, 1, 0, 50))
	for _, c := range []struct {
		now  int
		want string
	}{
		{math.MinInt, "d"}, {-1, "d"}, {0, "d"}, {15, "d"}, {34, "d"}, {35, "ad"}, {54, "ad"}, {55, "abcd"}, {119, "abcd"}, {120, "abcde"}, {last, "abcde"}, {last + 1, "abcde"}, {math.MaxInt, "abcde"},
	} {
		if l := table.Due(c.now); strings.Join(l, "") != c.want {
			t.Errorf("Due at %d: %q, want %q", c.now, l, c.want)
		}
	}
	if l := table.Names(); strings.Join(l, "") != "abcde" {
		t.Errorf("Names: %q", l)
	}
	if l := New(0).Due(last); len(l) != 0 {
		t.Errorf("Due of a new table: %q", l)
	}
}

// P9.1: a call of one name leaves all others as they were.
func TestNamesApart(t *testing.T) {
	table, m := tables(5)
	names := []string{"a", "aa", "b", "A", "a\x00"}
	for i, name := range names {
		answered(t, table, m, 1, take(name, i, 10*i, 100))
	}
	for _, c := range []call{renew("a", 0, 1, 50, 100), drop("aa", 1, 1), take("aa", 7, 0, 5), take("b", 1, 125, 10), drop("none", 0, 1), take("c", 5, 5, 5), renew("A", 9, 1, 5, 5)} {
		var were []Lease
		for _, name := range names {
			l, _ := table.Get(name)
			were = append(were, l)
		}
		both(t, table, m, c)
		for i, name := range names {
			if l, _ := table.Get(name); name != c.name && l != were[i] {
				t.Errorf("%+v made %v of %q, was %v", c, l, name, were[i])
			}
		}
	}
}

// alphabet is calls that may follow one another, around the times at which something changes, with a margin of 3.
func alphabet() []call {
	l := []call{take("", 0, 0, 1), take("a", -1, 0, 1), renew("a", 0, 1, last+1, 1), drop("b", 0, 1), take("b", 1, 2, 5)}
	for _, holder := range []int{0, 1} {
		for _, now := range []int{0, 4, 5, 7, 8} {
			l = append(l, take("a", holder, now, 5))
		}
		for epoch := range 3 {
			l = append(l, drop("a", holder, epoch), renew("a", holder, epoch, 4, 5), renew("a", holder, epoch, 5, 1))
		}
	}
	return append(l, take("a", 0, last, 5), renew("a", 0, 1, 0, span), renew("a", 0, 2, 0, 2))
}

// P9.1 and P9.2: all rows of three calls.
func TestAllRows(t *testing.T) {
	l := alphabet()
	for i := range len(l) * len(l) * len(l) {
		table, m := tables(3)
		for at, rest := 0, i; at < 3; at, rest = at+1, rest/len(l) {
			both(t, table, m, l[rest%len(l)])
		}
		if t.Failed() {
			t.Fatalf("in row %d", i)
		}
	}
}

// draw is numbers that hang on where they begin alone.
type draw uint64

// below is the next one, from 0 to below n.
func (d *draw) below(n int) int {
	*d = *d*2862933555777941757 + 3037000493
	return int(*d>>33) % n
}

// oneOf is one of the numbers.
func (d *draw) oneOf(l ...int) int {
	return l[d.below(len(l))]
}

// mixed is a call at about that time, most of which may be done as the table is now.
func (d *draw) mixed(m *told, names, now int) call {
	name := "n" + strconv.Itoa(d.below(names))
	l, _ := m.get(name)
	c := call{d.oneOf(taking, taking, renewing, renewing, renewing, dropping), name, l.Holder, l.Epoch, now, 1 + d.below(30)}
	if c.what == taking {
		c.holder = d.below(64)
	}
	switch d.below(30) {
	case 0:
		c.holder = d.oneOf(-1, 0, 1, 63, 64)
	case 1:
		c.epoch += d.oneOf(-1, 1, 2, 1<<32)
	case 2:
		c.ttl = d.oneOf(-1, 0, 1, span, span+1)
	case 3:
		c.now = d.oneOf(-1, 0, last+1, last)
	case 4:
		c.name = strings.Repeat(name, d.below(9))
	case 5, 6, 7, 8, 9, 10:
		c.now = max(0, l.Until+d.oneOf(-1, 0, 1, m.margin-1, m.margin, m.margin+1))
	}
	return c
}

// P9.1 and P9.2: long rows of calls, of few names and of many, from the first times on and up to the last one.
func TestLongRows(t *testing.T) {
	count := map[api.Errno]int{}
	for _, names := range []int{1, 2, 6, 12} {
		for _, margin := range []int{0, 1, 5, 40, span} {
			for seed := range 6 {
				table, m := tables(margin)
				now, d := []int{0, 1000, last - 900}[seed%3], draw(seed*7919+names)
				for range 200 {
					now = min(now+d.below(10), last)
					count[both(t, table, m, d.mixed(m, names, now))]++
				}
				if t.Failed() {
					t.Fatalf("%d names, margin %d, seed %d", names, margin, seed)
				}
			}
		}
	}
	for _, e := range []api.Errno{api.OK, api.ErrArg, api.ErrNone, api.ErrEpoch, api.ErrLease, api.ErrState} {
		if count[e] < 100 {
			t.Errorf("just %d calls were answered with %d", count[e], e)
		}
	}
}

// holders is all that hold the name at that time, in whatever epoch up to that one.
func holders(table *Table, name string, now, epochs int) []Lease {
	var l []Lease
	for epoch := range epochs + 2 {
		for holder := -1; holder <= 64; holder++ {
			if table.Holds(name, holder, epoch, now) {
				l = append(l, Lease{Holder: holder, Epoch: epoch})
			}
		}
	}
	return l
}

// P9.2: at no time do two hold one name; if one does, it is the last one that took it, and the name isn't free.
func TestOneHolds(t *testing.T) {
	for _, margin := range []int{0, 1, 5} {
		table, d, now, epochs := New(margin), draw(margin+1), 0, 0
		for range 60 {
			now += d.below(8)
			l, _ := table.Get("a")
			switch d.below(4) {
			case 0:
				table.Renew("a", l.Holder, l.Epoch, now, 1+d.below(10))
			case 1:
				table.Drop("a", l.Holder, l.Epoch-d.below(2))
			default:
				table.Take("a", d.below(64), now, 1+d.below(10))
			}
			l, _ = table.Get("a")
			epochs = max(epochs, l.Epoch)
			for _, at := range []int{-1, 0, now, l.Until - 1, l.Until, l.Until + margin} {
				got := holders(table, "a", at, epochs)
				if len(got) > 1 || len(got) == 1 && (got[0] != Lease{Holder: l.Holder, Epoch: epochs} || table.Free("a", at)) {
					t.Fatalf("margin %d, at %d, with %v: held by %v, free %v", margin, at, l, got, table.Free("a", at))
				}
			}
		}
		if epochs < 5 {
			t.Errorf("margin %d: just %d epochs", margin, epochs)
		}
	}
}

// P9.2: epochs rise by one with each that takes it, whoever does, and with nothing else.
func TestEpochsRise(t *testing.T) {
	for _, margin := range []int{0, 1, 5, span} {
		table, now := New(margin), 0
		for epoch := 1; epoch <= 300; epoch++ {
			holder := epoch * epoch % 5
			if got, e := table.Take("a", holder, now, 10); got != epoch || e != api.OK {
				t.Fatalf("margin %d, take %d: %d, %d", margin, epoch, got, e)
			}
			table.Take("a", holder, now, 10)
			table.Take("b", holder, now, 10)
			table.Renew("a", holder, epoch, now+5, 10)
			if epoch%3 == 0 {
				table.Drop("a", holder, epoch)
				table.Drop("a", holder, epoch)
			} else {
				now += 15 + margin
			}
			if l, _ := table.Get("a"); l.Epoch != epoch || l.Holder != holder {
				t.Fatalf("margin %d, behind take %d: %v", margin, epoch, l)
			}
		}
	}
}

// P9.2: one that holds it held it no later than its margin ahead of the next one, but where it dropped it, or times end.
func TestMarginBetween(t *testing.T) {
	for _, margin := range []int{0, 1, 4, 9} {
		for ttl := 1; ttl < 8; ttl++ {
			table, heldAt, next := New(margin), -1, 0
			table.Take("a", 1, 0, ttl)
			for now := range 60 {
				if now == 2 && ttl > 2 {
					table.Renew("a", 1, 1, now, ttl)
				}
				if table.Holds("a", 1, 1, now) {
					heldAt = now
				}
				if _, e := table.Take("a", 2, now, 100); e == api.OK {
					next = now
				}
			}
			want := ttl - 1
			if ttl > 2 {
				want = ttl + 1
			}
			if heldAt != want || next != want+1+margin {
				t.Errorf("margin %d, ttl %d: held at %d, taken by the next one at %d", margin, ttl, heldAt, next)
			}
		}
	}
}

// T0: very many names.
func TestManyNames(t *testing.T) {
	table := New(5)
	const many = 1 << 16
	for i := range many {
		if epoch, e := table.Take("n"+strconv.Itoa(i), i%64, i, 10); epoch != 1 || e != api.OK {
			t.Fatalf("Take of name %d: %d, %d", i, epoch, e)
		}
	}
	if l := table.Names(); len(l) != many || !slices.IsSorted(l) {
		t.Errorf("%d names, or they don't rise", len(l))
	}
	if l := table.Due(1014); len(l) != 1000 || !slices.IsSorted(l) {
		t.Errorf("%d names are due, or they don't rise", len(l))
	}
}

// R4: lists that are answered are new memory, and what is done to them, or to bytes that a name was made of, changes nothing.
func TestMemory(t *testing.T) {
	table, m := tables(0)
	for _, name := range []string{"c", "a", "b"} {
		b := []byte(name)
		answered(t, table, m, 1, take(string(b), 1, 0, 10))
		b[0] = 'z'
	}
	for what, call := range map[string]func() []string{"Names": table.Names, "Due": func() []string { return table.Due(10) }} {
		first, second := call(), call()
		for i := range first {
			first[i] = "turned"
		}
		_ = append(first[:1], "more")
		if want := []string{"a", "b", "c"}; !slices.Equal(second, want) || !slices.Equal(call(), want) {
			t.Errorf("%s shares memory: %q", what, second)
		}
	}
	names, due := table.Names(), table.Due(10)
	lease, _ := table.Get("a")
	answered(t, table, m, 1, take("d", 1, 0, 10))
	answered(t, table, m, 2, take("a", 1, 10, 10))
	if want := []string{"a", "b", "c"}; !slices.Equal(names, want) || !slices.Equal(due, want) || lease != (Lease{1, 1, 10}) {
		t.Errorf("what was answered changed behind a call: %q, %q, %v", names, due, lease)
	}
	lease.Until = 99
	checkAll(t, table, m, "turned", "more")
}

// R6: asking changes nothing, and tells the same each time; the margin is the table's own.
func TestAskedAgain(t *testing.T) {
	table, m := tables(5)
	other := New(span)
	for i := range 30 {
		c := take("n"+strconv.Itoa(i), i, i, 10)
		c.on(table)
		c.on(m)
		c.on(other)
	}
	for range 20 {
		checkAll(t, table, m, "", "none", strings.Repeat("n", 17), strings.Repeat("n", 1<<16))
	}
}

// P9.1, R7: of nil.
func TestNil(t *testing.T) {
	var table *Table
	for _, c := range []call{take("a", 0, 0, 1), take("", -1, -1, 0), renew("a", 0, 1, 0, 1), renew("a", 0, 0, 0, 1), renew("", 0, 0, 0, 0), drop("a", 0, 1), drop("a", 0, 0), drop("", 0, 0)} {
		if n, e := c.on(table); n != 0 || e != api.ErrArg {
			t.Errorf("%+v: %d, %d", c, n, e)
		}
	}
	for _, name := range []string{"", "a", strings.Repeat("n", 17)} {
		if l, taken := table.Get(name); l != (Lease{}) || taken {
			t.Errorf("Get of %q: %v, %v", name, l, taken)
		}
		for _, now := range []int{math.MinInt, -1, 0, 1, last, math.MaxInt} {
			if table.Holds(name, 0, 0, now) || table.Holds(name, 0, 1, now) || table.Free(name, now) || len(table.Due(now)) != 0 {
				t.Errorf("%q at %d: held, free or due", name, now)
			}
		}
	}
	if l := table.Names(); len(l) != 0 {
		t.Errorf("Names: %q", l)
	}
}

func FuzzTable(f *testing.F) {
	f.Add([]byte{}, 3, 1)
	f.Add([]byte{0, 9, 1, 1, 2, 0, 1, 3, 4, 9}, 5, 2)
	f.Add([]byte("take a, renew it, drop it, take it again, and so on"), span, 4)
	f.Fuzz(func(t *testing.T, b []byte, margin, names int) {
		table := New(margin)
		_, m := tables(max(0, min(margin, span)))
		now := 0
		for len(b) > 1 && names > 0 {
			d := draw(b[0]) | draw(b[1])<<8
			now += int(b[0]) % 10
			both(t, table, m, d.mixed(m, names, now))
			b = b[2:]
		}
	})
}
