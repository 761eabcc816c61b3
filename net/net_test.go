package net

import (
	"fmt"
	"math"
	"math/big"
	"slices"
	"testing"

	"pacesetter/api"
)

// msg is a message that may be, with numbers that all hang on n, and differ.
func msg(n int) api.Msg {
	return api.Msg{Kind: 1 + n%2, Epoch: 10*n + 1, Seq: 10*n + 2, Unit: n % 16, Version: 10*n + 3, State: n % 5}
}

// msgs is the messages of the numbers from one on, below another.
func msgs(from, to int) []api.Msg {
	var l []api.Msg
	for n := from; n < to; n++ {
		l = append(l, msg(n))
	}
	return l
}

// copies is how many there were of one message: sent, doubled, taken and lost (by Drop).
type copies struct{ sent, doubled, taken, dropped int }

// told is a net as the chapter's words tell it, and how many there were of each message.
type told struct {
	room       int
	row        []api.Msg
	sent, lost int
	counts     map[api.Msg]copies
}

// nets is a net, and what is told of it: the room is one that may be.
func nets(room int) (*Net, *told) {
	return New(room), &told{room: room, counts: map[api.Msg]copies{}}
}

// isArg tells whether the message may not be sent.
func isArg(m api.Msg) bool {
	if m.Kind != 1 && m.Kind != 2 {
		return true
	}
	for _, n := range []int{m.Epoch, m.Seq, m.Unit, m.Version, m.State} {
		if n < 0 {
			return true
		}
	}
	return false
}

// place is the place of any number among so many, by numbers that can't wrap round.
func place(at, many int) int {
	n := big.NewInt(int64(at))
	if n.Sign() < 0 {
		n.Add(n, big.NewInt(1)).Abs(n)
	}
	return int(n.Mod(n, big.NewInt(int64(many))).Int64())
}

func (m *told) Send(x api.Msg) api.Errno {
	if isArg(x) {
		return api.ErrArg
	}
	if len(m.row) == m.room {
		m.lost++
		return api.ErrFull
	}
	m.row = slices.Concat(m.row, []api.Msg{x})
	m.sent++
	c := m.counts[x]
	c.sent++
	m.counts[x] = c
	return api.OK
}

func (m *told) out(at int) api.Msg {
	i := place(at, len(m.row))
	x := m.row[i]
	m.row = slices.Concat(m.row[:i], m.row[i+1:])
	return x
}

func (m *told) Take(at int) (api.Msg, bool) {
	if len(m.row) == 0 {
		return api.Msg{}, false
	}
	x := m.out(at)
	c := m.counts[x]
	c.taken++
	m.counts[x] = c
	return x, true
}

func (m *told) Drop(at int) bool {
	if len(m.row) == 0 {
		return false
	}
	x := m.out(at)
	c := m.counts[x]
	c.dropped++
	m.counts[x] = c
	m.lost++
	return true
}

func (m *told) Twice(at int) api.Errno {
	if len(m.row) == 0 {
		return api.ErrNone
	}
	if len(m.row) == m.room {
		m.lost++
		return api.ErrFull
	}
	x := m.row[place(at, len(m.row))]
	m.row = slices.Concat(m.row, []api.Msg{x})
	c := m.counts[x]
	c.doubled++
	m.counts[x] = c
	return api.OK
}

// of is the messages of a unit.
func (m *told) of(unit int) []api.Msg {
	var l []api.Msg
	for _, x := range m.row {
		if x.Unit == unit {
			l = append(l, x)
		}
	}
	return l
}

// keeper is a net, or what is told of one.
type keeper interface {
	Send(m api.Msg) api.Errno
	Take(at int) (api.Msg, bool)
	Drop(at int) bool
	Twice(at int) api.Errno
}

// What a call does.
const (
	sending = iota
	taking
	dropping
	doubling
	kinds
)

// call is a call that may change a net.
type call struct {
	what int
	m    api.Msg
	at   int
}

func send(m api.Msg) call { return call{what: sending, m: m} }
func take(at int) call    { return call{what: taking, at: at} }
func drop(at int) call    { return call{what: dropping, at: at} }
func twice(at int) call   { return call{what: doubling, at: at} }

func (c call) String() string {
	if c.what == sending {
		return fmt.Sprint("Send of ", c.m)
	}
	return fmt.Sprintf("%s(%d)", [kinds]string{"", "Take", "Drop", "Twice"}[c.what], c.at)
}

// answer is what is answered to a call.
type answer struct {
	m  api.Msg
	ok bool
	e  api.Errno
}

// on is what is answered to the call.
func (c call) on(k keeper) answer {
	var a answer
	switch c.what {
	case sending:
		a.e = k.Send(c.m)
	case taking:
		a.m, a.ok = k.Take(c.at)
	case dropping:
		a.ok = k.Drop(c.at)
	case doubling:
		a.e = k.Twice(c.at)
	}
	return a
}

// holds holds all that a net answers against what is told.
func holds(t *testing.T, name string, n *Net, m *told) {
	t.Helper()
	if !slices.Equal(n.All(), m.row) || n.Len() != len(m.row) || n.Sent() != m.sent || n.Lost() != m.lost {
		t.Fatalf("%s: %v, Len %d, Sent %d, Lost %d, want %v, %d, %d", name, n.All(), n.Len(), n.Sent(), n.Lost(), m.row, m.sent, m.lost)
	}
}

// holdsUnits holds what a net answers of each unit, and of some numbers of none, against what is told.
func holdsUnits(t *testing.T, name string, n *Net, m *told) {
	t.Helper()
	units := []int{math.MinInt, -1, 16, 17, math.MaxInt}
	for unit := range 16 {
		units = append(units, unit)
	}
	for _, unit := range units {
		if !slices.Equal(n.Of(unit), m.of(unit)) {
			t.Fatalf("%s: Of(%d): %v, want %v", name, unit, n.Of(unit), m.of(unit))
		}
	}
}

// does makes the call on a net, and on what is told of it, and holds both against each other.
func does(t *testing.T, name string, n *Net, m *told, c call) answer {
	t.Helper()
	got, want := c.on(n), c.on(m)
	if got != want {
		t.Fatalf("%s, %v: %v, want %v", name, c, got, want)
	}
	holds(t, name, n, m)
	return got
}

// filled is a net of that room with the first so many messages, and what is told of it.
func filled(t *testing.T, room, many int) (*Net, *told) {
	t.Helper()
	n, m := nets(room)
	for i := range many {
		if a := does(t, "filled", n, m, send(msg(i))); a.e != api.OK {
			t.Fatal(i, a.e)
		}
	}
	return n, m
}

// P14.1: the chapter's example.
func TestExample(t *testing.T) {
	a, b := msg(1), msg(2)
	n := New(10)
	if n.Send(a) != api.OK || n.Send(b) != api.OK || !slices.Equal(n.All(), []api.Msg{a, b}) {
		t.Error(n.All())
	}
	if m, ok := n.Take(1); m != b || !ok {
		t.Error("Take 1:", m, ok)
	}
	if m, ok := n.Take(5); m != a || !ok {
		t.Error("Take 5:", m, ok)
	}
	if n.Len() != 0 || n.Sent() != 2 || n.Lost() != 0 {
		t.Error(n.Len(), n.Sent(), n.Lost())
	}
}

// P14.1: how many messages a net has room for, also of numbers out of what may be, by Send and by Twice.
func TestRoom(t *testing.T) {
	for _, c := range []struct{ room, want int }{
		{1, 1}, {2, 2}, {3, 3}, {20, 20}, {63, 63}, {64, 64},
		{0, 1}, {-1, 1}, {-2, 1}, {-64, 1}, {-1 << 32, 1}, {math.MinInt, 1}, {math.MinInt + 1, 1},
		{65, 64}, {66, 64}, {128, 64}, {1 << 32, 64}, {1<<32 + 1, 64}, {math.MaxInt - 1, 64}, {math.MaxInt, 64},
	} {
		for _, doubled := range []bool{false, true} {
			n, m := New(c.room), &told{room: c.want, counts: map[api.Msg]copies{}}
			name := fmt.Sprint("room ", c.room)
			holds(t, name, n, m)
			for i := range c.want {
				next := send(msg(i))
				if doubled && i > 0 {
					next = twice(i * i)
				}
				if a := does(t, name, n, m, next); a.e != api.OK {
					t.Fatal(name, i, a.e)
				}
			}
			for lost := range 3 {
				if a := does(t, name, n, m, send(msg(99))); a.e != api.ErrFull || n.Lost() != 2*lost+1 {
					t.Fatal(name, a.e, n.Lost())
				}
				if a := does(t, name, n, m, twice(lost)); a.e != api.ErrFull || n.Lost() != 2*lost+2 {
					t.Fatal(name, a.e, n.Lost())
				}
			}
			if n.Len() != c.want {
				t.Error(name, n.Len())
			}
		}
	}
}

// wrong is messages that may not be sent.
func wrong() []api.Msg {
	l := []api.Msg{{}}
	for _, kind := range []int{0, 3, 4, -1, -2, 1 << 32, 1<<32 + 1, math.MinInt, math.MaxInt} {
		m := msg(1)
		m.Kind = kind
		l = append(l, m)
	}
	for _, kind := range []int{1, 2} {
		for _, below := range []int{-1, -2, -1 << 32, math.MinInt} {
			for field := range 5 {
				m := msg(4)
				m.Kind = kind
				*[]*int{&m.Epoch, &m.Seq, &m.Unit, &m.Version, &m.State}[field] = below
				l = append(l, m)
			}
			l = append(l, api.Msg{Kind: kind, Epoch: below, Seq: below, Unit: below, Version: below, State: below})
		}
	}
	return l
}

// P14.1, R1, R3: of what may not be sent none is, also to a net that is full, where none of that is lost, either.
func TestSendArg(t *testing.T) {
	for _, x := range wrong() {
		for many := range 4 {
			n, m := filled(t, 3, many)
			if a := does(t, "wrong", n, m, send(x)); a.e != api.ErrArg {
				t.Errorf("Send of %v to %d: %d", x, many, a.e)
			}
			if n.Len() != many || n.Sent() != many || n.Lost() != 0 {
				t.Errorf("Send of %v to %d: Len %d, Sent %d, Lost %d", x, many, n.Len(), n.Sent(), n.Lost())
			}
		}
	}
}

// P14.1: of both kinds, and of numbers that are 0, or 1, or the greatest, all is sent, and told as it was.
func TestSend(t *testing.T) {
	numbers := []int{0, 1, math.MaxInt}
	for _, kind := range []int{api.Command, api.Report} {
		for i := range 3 * 3 * 3 * 3 * 3 {
			x := api.Msg{Kind: kind, Epoch: numbers[i%3], Seq: numbers[i/3%3], Unit: numbers[i/9%3], Version: numbers[i/27%3], State: numbers[i/81]}
			n, m := nets(2)
			if a := does(t, "right", n, m, send(x)); a.e != api.OK {
				t.Errorf("Send of %v: %d", x, a.e)
			}
			if l := n.Of(x.Unit); len(l) != 1 || l[0] != x {
				t.Errorf("Of: %v, want %v", l, x)
			}
			if a := does(t, "right", n, m, take(0)); a.m != x || !a.ok {
				t.Errorf("Take: %v, want %v", a.m, x)
			}
		}
	}
}

// P14.1: messages are told, and taken, in the row in which they were sent, whatever their numbers are.
func TestRow(t *testing.T) {
	for _, step := range []int{1, 7, 63} {
		n := New(64)
		var sent []api.Msg
		for i := range 64 {
			x := msg(i * step % 64)
			sent = append(sent, x)
			n.Send(x)
		}
		for i := range sent {
			if !slices.Equal(n.All(), sent[i:]) {
				t.Fatal(i, n.All())
			}
			if m, ok := n.Take(0); m != sent[i] || !ok {
				t.Fatal(i, m, ok)
			}
		}
	}
}

// edges is numbers of places, about 0, about so many, and at the ends of all.
func edges(many int) []int {
	l := []int{math.MinInt, math.MinInt + 1, math.MinInt + 2, -1 << 62, -1<<32 - 1, -1 << 32, 1 << 32, 1<<32 + 1, 1 << 62, math.MaxInt - 2, math.MaxInt - 1, math.MaxInt}
	for at := -2*many - 3; at <= 2*many+3; at++ {
		l = append(l, at)
	}
	return l
}

// P14.1: the place of any number, of nets of no, one, some and the most messages. Those behind what is taken, or is lost, keep their row, and there is room for just as many more.
func TestPlaces(t *testing.T) {
	for _, many := range []int{0, 1, 2, 3, 4, 5, 7, 63, 64} {
		for _, at := range edges(many) {
			for _, room := range []int{max(1, many), min(many+1, 64)} {
				for _, c := range []call{take(at), drop(at), twice(at)} {
					n, m := filled(t, room, many)
					name := fmt.Sprintf("%d in room %d", many, room)
					a := does(t, name, n, m, c)
					if many == 0 && (a.ok || a.e != [kinds]api.Errno{doubling: api.ErrNone}[c.what]) {
						t.Errorf("%s, %v: %v", name, c, a)
					}
					for n.Len() < room {
						if a := does(t, name, n, m, send(msg(70+n.Len()))); a.e != api.OK {
							t.Fatal(name, c, a.e)
						}
					}
					if a := does(t, name, n, m, send(msg(99))); a.e != api.ErrFull {
						t.Fatal(name, c, a.e)
					}
				}
			}
		}
	}
}

// P14.1: some places in numbers of the tests' own.
func TestSomePlaces(t *testing.T) {
	for _, c := range []struct{ many, at, want int }{
		{3, 0, 0}, {3, 1, 1}, {3, 2, 2}, {3, 3, 0}, {3, 4, 1}, {3, 5, 2}, {3, 6, 0},
		{3, -1, 0}, {3, -2, 1}, {3, -3, 2}, {3, -4, 0}, {3, -5, 1}, {3, -6, 2}, {3, -7, 0},
		{1, 0, 0}, {1, 7, 0}, {1, -1, 0}, {1, -8, 0}, {1, math.MinInt, 0}, {1, math.MaxInt, 0},
		{2, math.MaxInt, 1}, {2, math.MinInt, 1}, {2, math.MaxInt - 1, 0}, {2, math.MinInt + 1, 0},
		{10, math.MaxInt, 7}, {10, math.MinInt, 7}, {10, math.MinInt + 1, 6},
		{64, math.MaxInt, 63}, {64, math.MinInt, 63}, {64, 64, 0}, {64, -65, 0}, {64, -64, 63},
	} {
		all := msgs(0, c.many)
		left := slices.Concat(all[:c.want], all[c.want+1:])
		n, _ := filled(t, 64, c.many)
		if m, ok := n.Take(c.at); m != msg(c.want) || !ok || !slices.Equal(n.All(), left) || n.Lost() != 0 {
			t.Errorf("%d, Take(%d): %v, want %v", c.many, c.at, m, msg(c.want))
		}
		n, _ = filled(t, 64, c.many)
		if !n.Drop(c.at) || !slices.Equal(n.All(), left) || n.Lost() != 1 {
			t.Errorf("%d, Drop(%d): %v", c.many, c.at, n.All())
		}
		if c.many == 64 {
			continue
		}
		n, _ = filled(t, 64, c.many)
		if e := n.Twice(c.at); e != api.OK || !slices.Equal(n.All(), append(all, msg(c.want))) || n.Lost() != 0 || n.Sent() != c.many {
			t.Errorf("%d, Twice(%d): %d, %v", c.many, c.at, e, n.All())
		}
	}
}

// P14.1: what is doubled is a message as others are: it is taken, lost and doubled on its own.
func TestTwice(t *testing.T) {
	n, m := filled(t, 5, 2)
	for _, c := range []call{twice(0), twice(2), take(0), drop(1), take(1), twice(-1), twice(-1), twice(-1), twice(-1), twice(-1)} {
		does(t, "doubled", n, m, c)
	}
	if want := []api.Msg{msg(1), msg(1), msg(1), msg(1), msg(1)}; !slices.Equal(n.All(), want) || n.Sent() != 2 || n.Lost() != 2 {
		t.Error(n.All(), n.Sent(), n.Lost())
	}
}

// P14.1: those of a unit, in their row; none of a unit that has none, or that there isn't.
func TestOf(t *testing.T) {
	n, m := nets(40)
	for i, unit := range []int{3, 0, 3, 15, 16, 3, math.MaxInt, 0, 1 << 32, 15} {
		x := msg(i)
		x.Unit = unit
		does(t, "units", n, m, send(x))
		holdsUnits(t, "units", n, m)
	}
	does(t, "units", n, m, twice(0))
	holdsUnits(t, "units", n, m)
	for unit, want := range map[int][]int{3: {0, 2, 5, 0}, 0: {1, 7}, 15: {3, 9}, 16: {4}, math.MaxInt: {6}, 1 << 32: {8}, 1: nil, -1: nil, -3: nil, math.MinInt: nil} {
		var l []int
		for _, x := range n.Of(unit) {
			l = append(l, x.Epoch/10)
		}
		if !slices.Equal(l, want) {
			t.Errorf("Of(%d): %v, want %v", unit, l, want)
		}
	}
	does(t, "units", n, m, take(0))
	holdsUnits(t, "units", n, m)
}

// P14.1, P14.2: all rows of five calls in a little room.
func TestAllRows(t *testing.T) {
	calls := []call{send(msg(1)), send(msg(2)), send(api.Msg{}), take(0), take(1), take(-3), drop(0), drop(-2), twice(0), twice(2)}
	for room := 1; room <= 3; room++ {
		for i := range 100000 {
			n, m := nets(room)
			for at, rest := 0, i; at < 5; at, rest = at+1, rest/10 {
				does(t, "rows", n, m, calls[rest%10])
			}
		}
	}
}

// mixer is numbers that hang on its seed.
type mixer uint64

func (x *mixer) below(n int) int {
	*x = *x*6364136223846793005 + 1442695040888963407
	return int(uint64(*x) >> 33 % uint64(n))
}

// next is a call that hangs on the mixer. So that a net is often empty, and often full, what it mostly does hangs on the time.
func (x *mixer) next(i int) call {
	at := x.below(200) - 100
	if x.below(20) == 0 {
		at = []int{math.MinInt, math.MaxInt, 1 << 40, -1 << 40}[x.below(4)]
	}
	what := x.below(kinds)
	if i/150%2 == 0 && x.below(2) == 0 {
		what = sending
	}
	if i/150%2 == 1 && x.below(2) == 0 {
		what = taking
	}
	c := call{what: what, at: at}
	if what == sending {
		c = send(msg(x.below(50)))
		if x.below(15) == 0 {
			c.m.Kind -= 2
		}
		if x.below(15) == 0 {
			c.m.Version = -c.m.Version
		}
	}
	return c
}

// fits holds P14.2 against what there was of each message: what is taken was sent, and no more often than that and doubled; with what is lost, and what is there yet, it is just as often.
func fits(t *testing.T, name string, n *Net, taken, dropped map[api.Msg]int, m *told) {
	t.Helper()
	there := map[api.Msg]int{}
	for _, x := range n.All() {
		there[x]++
	}
	for x, many := range taken {
		if c := m.counts[x]; c.sent == 0 || many > c.sent+c.doubled {
			t.Fatalf("%s: %v was taken %d times, sent %d, doubled %d", name, x, many, c.sent, c.doubled)
		}
	}
	for x, c := range m.counts {
		if taken[x]+dropped[x]+there[x] != c.sent+c.doubled {
			t.Fatalf("%s: %v was taken %d times, lost %d, is there %d, was sent %d, doubled %d", name, x, taken[x], dropped[x], there[x], c.sent, c.doubled)
		}
	}
}

// P14.1, P14.2: long rows in all rooms that may be.
func TestLongRows(t *testing.T) {
	for room := 1; room <= 64; room++ {
		n, m := nets(room)
		x := mixer(room)
		taken, dropped := map[api.Msg]int{}, map[api.Msg]int{}
		for i := range 2000 {
			c := x.next(i)
			ahead := n.All()
			a := does(t, fmt.Sprint("room ", room), n, m, c)
			if c.what == taking && a.ok {
				taken[a.m]++
			}
			if c.what == dropping && a.ok {
				dropped[ahead[place(c.at, len(ahead))]]++
			}
			if i%100 == 0 {
				holdsUnits(t, "long", n, m)
				fits(t, "long", n, taken, dropped, m)
			}
		}
		for n.Len() > 0 {
			a := does(t, "at last", n, m, take(x.below(1000)-500))
			taken[a.m]++
		}
		fits(t, "at last", n, taken, dropped, m)
		if a := does(t, "at last", n, m, take(0)); a.ok {
			t.Fatal(a)
		}
	}
}

// T0, P14.1: room comes back however often a net was full, and empty.
func TestManyTimes(t *testing.T) {
	n := New(3)
	for i := range 200000 {
		for j := range 3 {
			if e := n.Send(msg(i + j)); e != api.OK {
				t.Fatal(i, e)
			}
		}
		if e := n.Send(msg(i)); e != api.ErrFull {
			t.Fatal(i, e)
		}
		if m, ok := n.Take(1); m != msg(i+1) || !ok || !n.Drop(1) || !n.Drop(0) || n.Drop(0) {
			t.Fatal(i, m, ok)
		}
	}
	if n.Sent() != 600000 || n.Lost() != 600000 {
		t.Error(n.Sent(), n.Lost())
	}
}

// R7: each call of a nil net.
func TestNil(t *testing.T) {
	var n *Net
	for _, at := range []int{0, 1, -1, math.MinInt, math.MaxInt} {
		for range 2 {
			if m, ok := n.Take(at); m != (api.Msg{}) || ok {
				t.Error("Take:", m, ok)
			}
			if n.Drop(at) {
				t.Error("Drop")
			}
			if e := n.Twice(at); e != api.ErrArg {
				t.Error("Twice:", e)
			}
			if l := n.Of(at); len(l) != 0 {
				t.Error("Of:", l)
			}
			for _, x := range []api.Msg{{}, msg(1), {Kind: api.Report, Unit: at}} {
				if e := n.Send(x); e != api.ErrArg {
					t.Error("Send:", e)
				}
			}
			if len(n.All()) != 0 || n.Len() != 0 || n.Sent() != 0 || n.Lost() != 0 {
				t.Error(n.All(), n.Len(), n.Sent(), n.Lost())
			}
		}
	}
}

// T0: a net that New didn't make has room for none, but no call of it panics, or waits.
func TestZero(t *testing.T) {
	var n Net
	if e := n.Send(msg(1)); e != api.ErrFull {
		t.Error(e)
	}
	if _, ok := n.Take(0); ok || n.Drop(-1) || n.Twice(1) != api.ErrNone || n.Len() != 0 || len(n.All()) != 0 || len(n.Of(0)) != 0 {
		t.Error(ok, n.Len())
	}
}

// spoil writes over all of a list, as far as its room goes.
func spoil(l []api.Msg) {
	l = l[:cap(l)]
	for i := range l {
		l[i] = api.Msg{Kind: 99}
	}
}

// R4: lists that are answered are new memory: nothing that is done to one is told by the net, or by another list, and no later call changes one.
func TestAnswered(t *testing.T) {
	later := [][]call{
		{take(0)}, {drop(1)}, {twice(0)}, {send(msg(50))}, {take(0), send(msg(50)), send(msg(51))}, {drop(3), twice(1), twice(1)},
		{take(0), take(0), take(0), take(0), send(msg(50)), send(msg(51)), send(msg(52)), send(msg(53))},
	}
	for i, calls := range later {
		n, m := nets(6)
		var want []api.Msg
		for j := range 4 {
			x := msg(j)
			x.Unit = 3
			want = append(want, x)
			does(t, "answered", n, m, send(x))
		}
		lists := [][]api.Msg{n.All(), n.Of(3), n.All(), n.Of(3)}
		for _, c := range calls {
			does(t, "answered", n, m, c)
		}
		for j, l := range lists {
			if !slices.Equal(l, want) {
				t.Errorf("calls %d: the list %d hangs on a later call, or on another list: %v", i, j, l)
			}
			spoil(l)
			holds(t, "spoiled", n, m)
			holdsUnits(t, "spoiled", n, m)
		}
		spoil(n.All())
		spoil(n.Of(2))
		does(t, "spoiled", n, m, send(msg(60)))
		does(t, "spoiled", n, m, take(0))
		holdsUnits(t, "spoiled", n, m)
	}
}

// R6: a net hangs on no other one, and asking changes nothing.
func TestTwoNets(t *testing.T) {
	one, m := nets(3)
	other, o := nets(3)
	for i, c := range []call{send(msg(1)), send(msg(2)), twice(0), send(msg(3)), take(1), drop(0), twice(0), take(0), take(0), take(0)} {
		does(t, "one", one, m, c)
		if i%2 == 0 {
			does(t, "other", other, o, send(msg(i)))
		}
		for range 3 {
			holds(t, "one", one, m)
			holds(t, "other", other, o)
		}
	}
}

// P14.1, P14.2: any rows.
func FuzzRow(f *testing.F) {
	f.Add(2, []byte{0, 1, 0, 2, 0, 3, 1, 1, 1, 5})
	f.Add(1, []byte{3, 0, 0, 7, 3, 0, 2, 200, 2, 0})
	f.Add(-5, []byte{0, 255, 128, 9})
	f.Fuzz(func(t *testing.T, room int, b []byte) {
		n, m := New(room), &told{room: max(1, min(room, 64)), counts: map[api.Msg]copies{}}
		for ; len(b) > 1; b = b[2:] {
			c := call{what: int(b[0]) % kinds, at: int(int8(b[1]))}
			if c.what == sending {
				c = send(msg(int(b[1])))
				c.m.Kind += int(b[0] >> 7)
			}
			does(t, "any", n, m, c)
		}
		holdsUnits(t, "any", n, m)
		for x, c := range m.counts {
			if c.taken > c.sent+c.doubled || c.taken > 0 && c.sent == 0 {
				t.Fatal(x, c)
			}
		}
	})
}
