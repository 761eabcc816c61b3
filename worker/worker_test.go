package worker

import (
	"fmt"
	"math"
	"slices"
	"strings"
	"sync"
	"testing"

	"pacesetter/api"
	"pacesetter/slot"
)

// call is a call that may change a worker, by its name: msg is Apply's alone, unit the others' but Fall's.
type call struct {
	name string
	unit int
	msg  api.Msg
}

// bit is 1 of true.
func bit(b bool) int {
	if b {
		return 1
	}
	return 0
}

// do is what the worker answers of the call, as a number.
func (c call) do(w *Worker) int {
	switch c.name {
	case "Apply":
		return int(w.Apply(c.msg))
	case "Go":
		return bit(w.Go(c.unit))
	case "Hurt":
		return bit(w.Hurt(c.unit))
	case "Heal":
		return bit(w.Heal(c.unit))
	}
	return w.Fall()
}

// told is a worker as the chapter's words tell it: its number, out of so many, and the slots of all units, of which just its own count.
type told struct {
	number, many, seen int
	slots              [16]slot.Slot
}

// own tells whether the unit is the worker's own.
func (m *told) own(unit int) bool {
	return unit >= 0 && unit <= 15 && unit%m.many == m.number
}

// apply is what is told of a command.
func (m *told) apply(x api.Msg) api.Errno {
	if x.Kind != 1 || x.Epoch < 0 || x.Seq < 0 || x.Unit < 0 || x.Version < 0 || x.State < 0 {
		return 1
	}
	if !m.own(x.Unit) {
		return 5
	}
	if x.Epoch < m.seen {
		return 8
	}
	m.seen = x.Epoch
	s := m.slots[x.Unit]
	if x.Seq <= s.Seq {
		return 7
	}
	if s.State != 0 && x.Version != s.Version {
		s.State = 4
	}
	s.Want, s.Seq = x.Version, x.Seq
	m.slots[x.Unit] = s
	return 0
}

// turn is what is told of a unit that goes on, is hurt, healed, or falls.
func (m *told) turn(name string, unit int) bool {
	if !m.own(unit) {
		return false
	}
	s := &m.slots[unit]
	switch was := s.State; {
	case name == "Go" && was == 0 && s.Want > 0:
		s.State, s.Version = 1, s.Want
	case name == "Go" && was == 1 || name == "Heal" && was == 3:
		s.State = 2
	case name == "Hurt" && was == 2:
		s.State = 3
	case name == "Go" && was == 4 || name == "Fall" && was != 0:
		s.State, s.Version = 0, 0
	default:
		return false
	}
	return true
}

// do is what is told of the call, as a number.
func (m *told) do(c call) int {
	switch c.name {
	case "Apply":
		return int(m.apply(c.msg))
	case "Fall":
		count := 0
		for unit := range 16 {
			count += bit(m.turn("Fall", unit))
		}
		return count
	}
	return bit(m.turn(c.name, c.unit))
}

// units is the units that are told.
func (m *told) units() []int {
	var l []int
	for unit := range 16 {
		if m.own(unit) {
			l = append(l, unit)
		}
	}
	return l
}

// count is how many units are told to have the state.
func (m *told) count(state int) int {
	count := 0
	for _, unit := range m.units() {
		count += bit(m.slots[unit].State == state)
	}
	return count
}

// pair is a worker that must be, and what is told of it.
func pair(t *testing.T, number, many int) (*Worker, *told) {
	t.Helper()
	w, err := New(number, many)
	if err != api.OK || w == nil {
		t.Fatalf("New(%d, %d): %v, %d", number, many, w, err)
	}
	return w, &told{number: number, many: many}
}

// asked is units that are asked for, some of which would be others if they were wrapped round to fewer bits.
func asked() []int {
	l := []int{math.MinInt, math.MinInt + 1, -1 << 62, -1<<32 + 1, -1 << 32, -256, -255, -17, -16, -15, -14, -3, -2, -1}
	for unit := range 20 {
		l = append(l, unit)
	}
	return append(l, 31, 32, 33, 255, 256, 257, 1<<16+1, 1<<32, 1<<32+1, 1<<32+2, 1<<62+1, math.MaxInt-1, math.MaxInt)
}

// noStates is numbers that are no state's.
func noStates() []int {
	return []int{math.MinInt, -1<<32 + 2, -256, -2, -1, 5, 6, 7, 8, 255, 256, 258, 1 << 32, 1<<32 + 2, math.MaxInt}
}

// hold holds all that the worker tells against what is told of it.
func hold(t *testing.T, w *Worker, m *told) {
	t.Helper()
	if got := w.Units(); !slices.Equal(got, m.units()) {
		t.Fatalf("units %v, want %v", got, m.units())
	}
	if got := w.Seen(); got != m.seen {
		t.Fatalf("seen %d, want %d", got, m.seen)
	}
	for _, unit := range asked() {
		var wantSlot slot.Slot
		var want api.Msg
		own := m.own(unit)
		if own {
			wantSlot = m.slots[unit]
			want = api.Msg{Kind: 2, Epoch: m.seen, Seq: wantSlot.Seq, Unit: unit, Version: wantSlot.Version, State: wantSlot.State}
		}
		if got, ok := w.Slot(unit); got != wantSlot || ok != own {
			t.Fatalf("slot of %d: %v, %t, want %v, %t", unit, got, ok, wantSlot, own)
		}
		if got, ok := w.Report(unit); got != want || ok != own {
			t.Fatalf("report of %d: %v, %t, want %v, %t", unit, got, ok, want, own)
		}
	}
	for state := range 5 {
		if got := w.Count(state); got != m.count(state) {
			t.Fatalf("%d units have the state %d, want %d", got, state, m.count(state))
		}
	}
	for _, state := range noStates() {
		if got := w.Count(state); got != 0 {
			t.Fatalf("%d units have the state %d", got, state)
		}
	}
}

// check holds a call's answer against what is wanted, and against what is told, and then all that the worker tells.
func check(t *testing.T, w *Worker, m *told, c call, want int) {
	t.Helper()
	before := *m
	if say := m.do(c); say != want {
		t.Fatalf("%v of %v is told to answer %d, not %d", c, before, say, want)
	}
	if got := c.do(w); got != want {
		t.Fatalf("%v of %v: %d, want %d", c, before, got, want)
	}
	hold(t, w, m)
}

// checkTold holds a call against what is told.
func checkTold(t *testing.T, w *Worker, m *told, c call) {
	t.Helper()
	was := *m
	want := was.do(c)
	check(t, w, m, c, want)
}

// command is the call of a command.
func command(epoch, seq, unit, version int) call {
	return call{name: "Apply", msg: api.Msg{Kind: api.Command, Epoch: epoch, Seq: seq, Unit: unit, Version: version}}
}

// turns is the calls of a unit, but Apply.
func turns(unit int) []call {
	return []call{{name: "Go", unit: unit}, {name: "Hurt", unit: unit}, {name: "Heal", unit: unit}}
}

// lead is the calls that lead a fresh slot of the unit to the state, of the version 3, by numbers up to 5 of the epoch 2.
func lead(unit, state int) []call {
	on := call{name: "Go", unit: unit}
	start := []call{command(2, 4, unit, 3), on}
	switch state {
	case api.Stopped:
		return []call{command(2, 5, unit, 0)}
	case api.Starting:
		return append(start, command(2, 5, unit, 3))
	case api.Ready:
		return append(start, on, command(2, 5, unit, 3))
	case api.Unready:
		return append(start, on, command(2, 5, unit, 3), call{name: "Hurt", unit: unit})
	}
	return append(start, on, command(2, 5, unit, 7))
}

// at is the worker 1 of 3 (its units are 1, 4, 7, 10, 13) with its unit 4 in the state.
func at(t *testing.T, state int) (*Worker, *told) {
	t.Helper()
	w, m := pair(t, 1, 3)
	for _, c := range lead(4, state) {
		checkTold(t, w, m, c)
	}
	if s, ok := w.Slot(4); !ok || s.State != state || s.Seq != 5 || w.Seen() != 2 {
		t.Fatalf("the unit 4 is %v, %t, seen is %d", s, ok, w.Seen())
	}
	return w, m
}

// mixer is a row of numbers that look mixed, the same each time.
type mixer uint64

// below is the next number, from 0 to n-1.
func (m *mixer) below(n int) int {
	*m = *m*6364136223846793005 + 1442695040888963407
	return int(uint64(*m)>>33) % n
}

// P16.1: New of all small numbers, and of the ends of all ints.
func TestNew(t *testing.T) {
	manys := []int{math.MinInt, math.MinInt + 1, -1<<32 + 2, -17, -16, -2, -1, 18, 32, 33, 256, 257, 1<<32 + 1, 1<<32 + 2, math.MaxInt - 1, math.MaxInt}
	for many := range 18 {
		manys = append(manys, many)
	}
	numbers := append(asked(), 20, 64)
	for _, many := range manys {
		made := 0
		for _, number := range numbers {
			if many >= 1 && many <= 16 && number >= 0 && number <= many-1 {
				w, m := pair(t, number, many)
				hold(t, w, m)
				made++
				continue
			}
			if w, err := New(number, many); w != nil || err != api.ErrArg {
				t.Errorf("New(%d, %d): %v, %d", number, many, w, err)
			}
		}
		if many >= 0 && many <= 16 && made != many || many == 17 && made != 0 {
			t.Errorf("%d workers of %d were made", made, many)
		}
	}
}

// P16.1: the edges of New by hand.
func TestNewByHand(t *testing.T) {
	for _, c := range []struct {
		number, many int
		want         api.Errno
	}{
		{0, 1, 0}, {1, 1, 1}, {-1, 1, 1},
		{0, 2, 0}, {1, 2, 0}, {2, 2, 1}, {-1, 2, 1},
		{0, 16, 0}, {15, 16, 0}, {16, 16, 1}, {-1, 16, 1},
		{0, 17, 1}, {16, 17, 1}, {17, 17, 1}, {-1, 17, 1},
		{0, 0, 1}, {-1, 0, 1}, {1, 0, 1},
		{0, -1, 1}, {-1, -1, 1}, {-2, -1, 1}, {0, -16, 1}, {-3, -2, 1},
		{0, math.MaxInt, 1}, {0, math.MinInt, 1}, {math.MinInt, math.MinInt, 1}, {math.MaxInt, math.MaxInt, 1},
		{math.MinInt, 16, 1}, {math.MaxInt, 16, 1}, {math.MinInt, 1, 1}, {math.MaxInt, 1, 1},
	} {
		w, err := New(c.number, c.many)
		if err != c.want || (w != nil) != (c.want == api.OK) {
			t.Errorf("New(%d, %d): %v, %d", c.number, c.many, w, err)
		}
	}
}

// P16.1: the chapter's example, and other workers' units by hand.
func TestUnits(t *testing.T) {
	for _, c := range []struct {
		number, many int
		want         []int
	}{
		{1, 2, []int{1, 3, 5, 7, 9, 11, 13, 15}},
		{0, 2, []int{0, 2, 4, 6, 8, 10, 12, 14}},
		{0, 1, []int{0, 1, 2, 3, 4, 5, 6, 7, 8, 9, 10, 11, 12, 13, 14, 15}},
		{0, 3, []int{0, 3, 6, 9, 12, 15}},
		{1, 3, []int{1, 4, 7, 10, 13}},
		{2, 3, []int{2, 5, 8, 11, 14}},
		{4, 5, []int{4, 9, 14}},
		{0, 7, []int{0, 7, 14}},
		{0, 15, []int{0, 15}},
		{14, 15, []int{14}},
		{0, 16, []int{0}},
		{15, 16, []int{15}},
	} {
		w, _ := pair(t, c.number, c.many)
		for range 20 {
			if got := w.Units(); !slices.Equal(got, c.want) {
				t.Fatalf("the units of %d of %d: %v", c.number, c.many, got)
			}
		}
	}
}

// P16.1: each unit is one worker's own, of however many.
func TestEachUnitIsOnes(t *testing.T) {
	for many := 1; many <= 16; many++ {
		var all []int
		for number := range many {
			w, _ := pair(t, number, many)
			all = append(all, w.Units()...)
		}
		slices.Sort(all)
		if !slices.Equal(all, []int{0, 1, 2, 3, 4, 5, 6, 7, 8, 9, 10, 11, 12, 13, 14, 15}) {
			t.Errorf("the units of %d workers: %v", many, all)
		}
	}
}

// P16.1: one unit's life by hand: commands, steps, what is told of it.
func TestByHand(t *testing.T) {
	w, m := pair(t, 1, 2)
	on, fall := call{name: "Go", unit: 3}, call{name: "Fall"}
	for i, c := range []struct {
		c      call
		answer int
		want   slot.Slot
		seen   int
	}{
		{on, 0, slot.Slot{}, 0},
		{command(1, 1, 3, 7), 0, slot.Slot{State: 0, Version: 0, Want: 7, Seq: 1}, 1},
		{on, 1, slot.Slot{State: 1, Version: 7, Want: 7, Seq: 1}, 1},
		{on, 1, slot.Slot{State: 2, Version: 7, Want: 7, Seq: 1}, 1},
		{on, 0, slot.Slot{State: 2, Version: 7, Want: 7, Seq: 1}, 1},
		{command(1, 1, 3, 7), 7, slot.Slot{State: 2, Version: 7, Want: 7, Seq: 1}, 1},
		{call{name: "Heal", unit: 3}, 0, slot.Slot{State: 2, Version: 7, Want: 7, Seq: 1}, 1},
		{call{name: "Hurt", unit: 3}, 1, slot.Slot{State: 3, Version: 7, Want: 7, Seq: 1}, 1},
		{call{name: "Hurt", unit: 3}, 0, slot.Slot{State: 3, Version: 7, Want: 7, Seq: 1}, 1},
		{on, 0, slot.Slot{State: 3, Version: 7, Want: 7, Seq: 1}, 1},
		{call{name: "Heal", unit: 3}, 1, slot.Slot{State: 2, Version: 7, Want: 7, Seq: 1}, 1},
		{command(4, 1, 3, 9), 7, slot.Slot{State: 2, Version: 7, Want: 7, Seq: 1}, 4},
		{command(3, 2, 3, 9), 8, slot.Slot{State: 2, Version: 7, Want: 7, Seq: 1}, 4},
		{command(4, 2, 3, 7), 0, slot.Slot{State: 2, Version: 7, Want: 7, Seq: 2}, 4},
		{command(4, 5, 3, 9), 0, slot.Slot{State: 4, Version: 7, Want: 9, Seq: 5}, 4},
		{command(6, 4, 3, 7), 7, slot.Slot{State: 4, Version: 7, Want: 9, Seq: 5}, 6},
		{on, 1, slot.Slot{State: 0, Version: 0, Want: 9, Seq: 5}, 6},
		{on, 1, slot.Slot{State: 1, Version: 9, Want: 9, Seq: 5}, 6},
		{fall, 1, slot.Slot{State: 0, Version: 0, Want: 9, Seq: 5}, 6},
		{fall, 0, slot.Slot{State: 0, Version: 0, Want: 9, Seq: 5}, 6},
		{command(6, 5, 3, 0), 7, slot.Slot{State: 0, Version: 0, Want: 9, Seq: 5}, 6},
		{command(5, 6, 3, 0), 8, slot.Slot{State: 0, Version: 0, Want: 9, Seq: 5}, 6},
		{on, 1, slot.Slot{State: 1, Version: 9, Want: 9, Seq: 5}, 6},
		{command(6, 6, 3, 0), 0, slot.Slot{State: 4, Version: 9, Want: 0, Seq: 6}, 6},
		{on, 1, slot.Slot{State: 0, Version: 0, Want: 0, Seq: 6}, 6},
		{on, 0, slot.Slot{State: 0, Version: 0, Want: 0, Seq: 6}, 6},
	} {
		check(t, w, m, c.c, c.answer)
		if got, ok := w.Slot(3); got != c.want || !ok || w.Seen() != c.seen {
			t.Fatalf("%d: %v led to %v, %t, seen %d, want %v, %d", i, c.c, got, ok, w.Seen(), c.want, c.seen)
		}
	}
	if got, ok := w.Report(3); got != (api.Msg{Kind: api.Report, Epoch: 6, Seq: 6, Unit: 3, Version: 0, State: api.Stopped}) || !ok {
		t.Errorf("the report at last: %v, %t", got, ok)
	}
}

// P16.1: a unit's report by hand, in each state.
func TestReport(t *testing.T) {
	for state, want := range []api.Msg{
		{Kind: 2, Epoch: 2, Seq: 5, Unit: 4, Version: 0, State: 0},
		{Kind: 2, Epoch: 2, Seq: 5, Unit: 4, Version: 3, State: 1},
		{Kind: 2, Epoch: 2, Seq: 5, Unit: 4, Version: 3, State: 2},
		{Kind: 2, Epoch: 2, Seq: 5, Unit: 4, Version: 3, State: 3},
		{Kind: 2, Epoch: 2, Seq: 5, Unit: 4, Version: 3, State: 4},
	} {
		w, _ := at(t, state)
		if got, ok := w.Report(4); got != want || !ok {
			t.Errorf("report in the state %d: %v, %t", state, got, ok)
		}
		if got, ok := w.Report(7); got != (api.Msg{Kind: 2, Epoch: 2, Unit: 7}) || !ok {
			t.Errorf("report of a unit that nobody told anything: %v, %t", got, ok)
		}
		w.Apply(api.Msg{Kind: api.Command, Epoch: 9, Unit: 13})
		want.Epoch = 9
		if got, ok := w.Report(4); got != want || !ok {
			t.Errorf("report once an epoch was seen by another unit's command: %v, %t", got, ok)
		}
	}
}

// with is the message with the number of that name.
func with(x api.Msg, name string, n int) api.Msg {
	switch name {
	case "Kind":
		x.Kind = n
	case "Epoch":
		x.Epoch = n
	case "Seq":
		x.Seq = n
	case "Unit":
		x.Unit = n
	case "Version":
		x.Version = n
	case "State":
		x.State = n
	}
	return x
}

// P16.1: what is no command, and each number below 0, in each state of the unit: ErrArg, and nothing is changed (R3), the highest epoch seen neither.
func TestApplyArg(t *testing.T) {
	good := api.Msg{Kind: api.Command, Epoch: 3, Seq: 6, Unit: 4, Version: 8}
	for state := range 5 {
		w, m := at(t, state)
		for _, kind := range []int{math.MinInt, -1<<32 + 1, -2, -1, 0, api.Report, 3, 4, 255, 257, 1<<32 + 1, math.MaxInt} {
			check(t, w, m, call{name: "Apply", msg: with(good, "Kind", kind)}, 1)
		}
		for _, name := range []string{"Epoch", "Seq", "Unit", "Version", "State"} {
			for _, below := range []int{-1, -2, -12, -1 << 31, -1<<32 + 1, -1 << 32, math.MinInt + 1, math.MinInt} {
				check(t, w, m, call{name: "Apply", msg: with(good, name, below)}, 1)
			}
		}
		check(t, w, m, call{name: "Apply", msg: api.Msg{}}, 1)
		check(t, w, m, call{name: "Apply", msg: good}, 0)
	}
}

// P16.1: a unit that isn't the worker's own, another's and one past 15: ErrNone, and nothing is changed (R3), the highest epoch seen neither.
func TestApplyNone(t *testing.T) {
	for state := range 5 {
		w, m := at(t, state)
		for _, unit := range asked() {
			if unit >= 0 && !m.own(unit) {
				check(t, w, m, command(9, 9, unit, 8), 5)
			}
		}
		for _, unit := range []int{0, 2, 3, 15, 16, 19, 22, 1<<32 + 4, math.MaxInt} {
			check(t, w, m, command(9, 9, unit, 8), 5)
		}
		for _, unit := range []int{1, 4, 7, 10, 13} {
			check(t, w, m, command(3, 9, unit, 8), 0)
		}
	}
}

// P16.1: an epoch below the highest one seen, equal to it and above it, in each state of the unit.
func TestApplyEpoch(t *testing.T) {
	for state := range 5 {
		w, m := at(t, state)
		check(t, w, m, command(1, 6, 4, 8), 8)
		check(t, w, m, command(0, 6, 4, 8), 8)
		check(t, w, m, command(2, 6, 4, 8), 0)
		check(t, w, m, command(3, 7, 4, 9), 0)
		check(t, w, m, command(2, 8, 4, 8), 8)
		check(t, w, m, command(2, 8, 7, 8), 8)
		check(t, w, m, command(math.MaxInt-1, 8, 7, 8), 0)
		check(t, w, m, command(3, 9, 4, 8), 8)
		check(t, w, m, command(math.MaxInt, 9, 4, 8), 0)
		check(t, w, m, command(math.MaxInt-1, 10, 4, 8), 8)
		check(t, w, m, command(math.MaxInt, 10, 4, 8), 0)
	}
	w, m := pair(t, 0, 1)
	check(t, w, m, command(0, 1, 0, 1), 0)
	check(t, w, m, command(0, 0, 0, 1), 7)
	check(t, w, m, command(0, 0, 1, 1), 7)
}

// P16.1: a number below, equal to and above the slot's, in each state of the unit: ErrRev sees the epoch all the same, even one that is above any seen, and changes nothing else.
func TestApplyRev(t *testing.T) {
	for state := range 5 {
		w, m := at(t, state)
		epoch := 2
		for _, version := range []int{0, 3, 7, 8, math.MaxInt} {
			for _, seq := range []int{0, 1, 4, 5} {
				was, _ := w.Slot(4)
				check(t, w, m, command(epoch, seq, 4, version), 7)
				epoch++
				check(t, w, m, command(epoch, seq, 4, version), 7)
				if got, _ := w.Slot(4); got != was || w.Seen() != epoch {
					t.Fatalf("ErrRev led to %v, seen %d, want %v, %d", got, w.Seen(), was, epoch)
				}
				check(t, w, m, command(epoch-1, 6, 4, version), 8)
			}
		}
		check(t, w, m, command(epoch, 6, 4, 8), 0)
		check(t, w, m, command(epoch, 6, 4, 8), 7)
		check(t, w, m, command(epoch, math.MaxInt, 4, math.MaxInt), 0)
		check(t, w, m, command(epoch, math.MaxInt, 4, 0), 7)
		check(t, w, m, command(epoch, math.MaxInt-1, 4, 0), 7)
	}
}

// P16.1: where several refusals hold at once, the first one named is told.
func TestApplySeveral(t *testing.T) {
	none := api.Msg{Kind: api.Command, Epoch: 9, Seq: 9, Unit: 5, Version: 8}
	old := api.Msg{Kind: api.Command, Epoch: 1, Seq: 9, Unit: 4, Version: 8}
	twice := api.Msg{Kind: api.Command, Epoch: 9, Seq: 5, Unit: 4, Version: 8}
	for state := range 5 {
		w, m := at(t, state)
		for _, x := range []api.Msg{none, old, twice, with(none, "Epoch", 1), with(with(none, "Epoch", 1), "Seq", 0), with(old, "Seq", 5)} {
			for _, name := range []string{"Epoch", "Seq", "Unit", "Version", "State"} {
				check(t, w, m, call{name: "Apply", msg: with(x, name, -1)}, 1)
			}
			check(t, w, m, call{name: "Apply", msg: with(x, "Kind", api.Report)}, 1)
			check(t, w, m, call{name: "Apply", msg: with(x, "Kind", 0)}, 1)
		}
		for _, unit := range []int{5, 16} {
			check(t, w, m, call{name: "Apply", msg: with(with(none, "Epoch", 1), "Unit", unit)}, 5)
			check(t, w, m, call{name: "Apply", msg: with(with(none, "Seq", 0), "Unit", unit)}, 5)
			check(t, w, m, call{name: "Apply", msg: with(with(with(none, "Epoch", 1), "Seq", 0), "Unit", unit)}, 5)
		}
		check(t, w, m, call{name: "Apply", msg: with(old, "Seq", 5)}, 8)
		check(t, w, m, call{name: "Apply", msg: with(old, "Seq", 0)}, 8)
		check(t, w, m, call{name: "Apply", msg: twice}, 7)
	}
}

// P16.1: what a command's state is, if it isn't below 0, is nothing to the worker; versions and numbers may be great.
func TestApplyAny(t *testing.T) {
	for state := range 5 {
		for _, n := range []int{0, 1, 4, 5, 1 << 32, math.MaxInt} {
			w, m := at(t, state)
			x := api.Msg{Kind: api.Command, Epoch: 2, Seq: 6, Unit: 4, Version: 8}
			check(t, w, m, call{name: "Apply", msg: with(x, "State", n)}, 0)
			check(t, w, m, call{name: "Apply", msg: with(with(x, "Seq", 7), "Version", n)}, 0)
			check(t, w, m, call{name: "Go", unit: 4}, bit(n > 0 || state != api.Stopped))
		}
	}
}

// P16.1: all small commands, and others, on units of all states.
func TestApplyAll(t *testing.T) {
	small := []int{-1, 0, 1, 2, 3}
	for state := range 5 {
		made, say := at(t, state)
		slots, seen := made.slots, made.seen
		for _, kind := range small {
			for _, epoch := range small {
				for _, seq := range []int{-1, 0, 4, 5, 6} {
					for unit := -2; unit < 18; unit++ {
						for _, version := range []int{-1, 0, 3, 8} {
							x := api.Msg{Kind: kind, Epoch: epoch, Seq: seq, Unit: unit, Version: version, State: bit(version == 3)}
							w, m := &Worker{map[int]slot.Slot{}, seen}, *say
							for unit, s := range slots {
								w.slots[unit] = s
							}
							if got, want := w.Apply(x), m.apply(x); got != want || w.Seen() != m.seen {
								t.Fatalf("%v of %v: %d, seen %d, want %d, %d", x, say, got, w.Seen(), want, m.seen)
							}
							for _, unit := range m.units() {
								if got, _ := w.Slot(unit); got != m.slots[unit] {
									t.Fatalf("%v of %v: the unit %d is %v, want %v", x, say, unit, got, m.slots[unit])
								}
							}
						}
					}
				}
			}
		}
	}
}

// P16.1: Go, Hurt and Heal of a unit in each state, by hand, of what its slot is behind that.
func TestTurns(t *testing.T) {
	for _, c := range []struct {
		state int
		name  string
		want  slot.Slot
		did   bool
	}{
		{api.Stopped, "Go", slot.Slot{State: 0, Version: 0, Want: 0, Seq: 5}, false},
		{api.Starting, "Go", slot.Slot{State: 2, Version: 3, Want: 3, Seq: 5}, true},
		{api.Ready, "Go", slot.Slot{State: 2, Version: 3, Want: 3, Seq: 5}, false},
		{api.Unready, "Go", slot.Slot{State: 3, Version: 3, Want: 3, Seq: 5}, false},
		{api.Draining, "Go", slot.Slot{State: 0, Version: 0, Want: 7, Seq: 5}, true},
		{api.Stopped, "Hurt", slot.Slot{State: 0, Version: 0, Want: 0, Seq: 5}, false},
		{api.Starting, "Hurt", slot.Slot{State: 1, Version: 3, Want: 3, Seq: 5}, false},
		{api.Ready, "Hurt", slot.Slot{State: 3, Version: 3, Want: 3, Seq: 5}, true},
		{api.Unready, "Hurt", slot.Slot{State: 3, Version: 3, Want: 3, Seq: 5}, false},
		{api.Draining, "Hurt", slot.Slot{State: 4, Version: 3, Want: 7, Seq: 5}, false},
		{api.Stopped, "Heal", slot.Slot{State: 0, Version: 0, Want: 0, Seq: 5}, false},
		{api.Starting, "Heal", slot.Slot{State: 1, Version: 3, Want: 3, Seq: 5}, false},
		{api.Ready, "Heal", slot.Slot{State: 2, Version: 3, Want: 3, Seq: 5}, false},
		{api.Unready, "Heal", slot.Slot{State: 2, Version: 3, Want: 3, Seq: 5}, true},
		{api.Draining, "Heal", slot.Slot{State: 4, Version: 3, Want: 7, Seq: 5}, false},
	} {
		w, m := at(t, c.state)
		check(t, w, m, call{name: c.name, unit: 4}, bit(c.did))
		if got, _ := w.Slot(4); got != c.want {
			t.Errorf("%s in the state %d led to %v, want %v", c.name, c.state, got, c.want)
		}
	}
}

// P16.1: Go, Hurt, Heal, Report and Slot of units that aren't the worker's own, below 0, past 15, and at the ends: false, and nothing is changed.
func TestOfOthers(t *testing.T) {
	for state := range 5 {
		w, m := at(t, state)
		for _, unit := range asked() {
			if m.own(unit) {
				continue
			}
			for _, c := range turns(unit) {
				check(t, w, m, c, 0)
			}
		}
		for _, unit := range []int{math.MinInt, -15, -12, -11, -2, -1, 0, 2, 3, 5, 15, 16, 19, 1<<32 + 4, math.MaxInt} {
			if s, ok := w.Slot(unit); s != (slot.Slot{}) || ok {
				t.Errorf("slot of %d: %v, %t", unit, s, ok)
			}
			if x, ok := w.Report(unit); x != (api.Msg{}) || ok {
				t.Errorf("report of %d: %v, %t", unit, x, ok)
			}
			if w.Go(unit) || w.Hurt(unit) || w.Heal(unit) {
				t.Errorf("something was done to %d", unit)
			}
		}
	}
}

// P16.1: Fall stops all units, and tells of how many it did anything; what is wanted of them, their numbers and the epoch stay.
func TestFall(t *testing.T) {
	w, m := pair(t, 1, 3)
	fall := call{name: "Fall"}
	check(t, w, m, fall, 0)
	for state, unit := range []int{1, 4, 7, 10, 13} {
		for _, c := range lead(unit, state) {
			checkTold(t, w, m, c)
		}
	}
	for state := range 5 {
		if got := w.Count(state); got != 1 {
			t.Errorf("%d units have the state %d", got, state)
		}
	}
	check(t, w, m, fall, 4)
	for unit, want := range map[int]slot.Slot{1: {Seq: 5}, 4: {Want: 3, Seq: 5}, 7: {Want: 3, Seq: 5}, 10: {Want: 3, Seq: 5}, 13: {Want: 7, Seq: 5}} {
		if got, ok := w.Slot(unit); got != want || !ok {
			t.Errorf("the unit %d fell to %v, %t", unit, got, ok)
		}
	}
	if w.Count(api.Stopped) != 5 || w.Seen() != 2 {
		t.Errorf("%d units are stopped, seen is %d", w.Count(api.Stopped), w.Seen())
	}
	check(t, w, m, fall, 0)
	check(t, w, m, command(1, 9, 4, 8), 8)
	check(t, w, m, command(2, 5, 4, 8), 7)
	for _, unit := range []int{4, 7, 10, 13} {
		check(t, w, m, call{name: "Go", unit: unit}, 1)
	}
	check(t, w, m, call{name: "Go", unit: 1}, 0)
	check(t, w, m, fall, 4)
}

// P16.1: Fall of each number of units that aren't stopped.
func TestFallCounts(t *testing.T) {
	for many := 1; many <= 16; many++ {
		for number := range many {
			w, m := pair(t, number, many)
			for i, unit := range m.units() {
				for _, c := range lead(unit, 1+i%4) {
					c.do(w)
					m.do(c)
				}
				check(t, w, m, call{name: "Fall"}, 1)
				for _, before := range m.units()[:i+1] {
					checkTold(t, w, m, command(2, 10+100*i+before, before, 4))
					for w.Go(before) {
						m.turn("Go", before)
					}
				}
				if got := w.Count(api.Ready); got != i+1 {
					t.Fatalf("%d units are ready, want %d", got, i+1)
				}
				check(t, w, m, call{name: "Fall"}, i+1)
			}
		}
	}
}

// P16.1: each unit's slot stays as it is when another's is changed: each state of one, each call on another.
func TestOthersStay(t *testing.T) {
	for state := range 5 {
		for from := range 5 {
			calls := append(turns(10), command(2, 6, 10, 8), command(2, 6, 10, 0), command(9, 1, 10, 3))
			for _, c := range calls {
				w, m := at(t, state)
				for _, c := range lead(10, from) {
					checkTold(t, w, m, c)
				}
				was, _ := w.Slot(4)
				checkTold(t, w, m, c)
				if got, _ := w.Slot(4); got != was {
					t.Errorf("%v changed the unit 4 from %v to %v", c, was, got)
				}
				if got, _ := w.Slot(7); got != (slot.Slot{}) {
					t.Errorf("%v changed the unit 7 to %v", c, got)
				}
			}
		}
	}
}

// mixed is a mixed call, near to what the worker has seen.
func mixed(mix *mixer, m *told) call {
	unit := mix.below(18) - 1
	if mix.below(4) > 0 {
		own := m.units()
		unit = own[mix.below(len(own))]
	}
	switch kind := mix.below(12); {
	case kind < 4:
		seq := 0
		if m.own(unit) {
			seq = m.slots[unit].Seq
		}
		c := command(m.seen+mix.below(5)/2-mix.below(4)/3, seq+mix.below(4)-1, unit, mix.below(5)-mix.below(9)/8)
		c.msg.Kind += mix.below(9) / 8
		c.msg.State = mix.below(6) - mix.below(9)/8
		return c
	case kind < 8:
		return call{name: "Go", unit: unit}
	case kind < 10:
		return call{name: "Hurt", unit: unit}
	case kind < 11 || mix.below(4) > 0:
		return call{name: "Heal", unit: unit}
	}
	return call{name: "Fall"}
}

// P16.1: long mixed rows of calls, of each worker of each number, against the chapter as told here.
func TestRows(t *testing.T) {
	mix := mixer(16)
	count := map[string]int{}
	for many := 1; many <= 16; many++ {
		for number := range many {
			w, m := pair(t, number, many)
			for range 300 {
				c := mixed(&mix, m)
				was := *m
				count[fmt.Sprint(c.name, was.do(c))]++
				checkTold(t, w, m, c)
			}
		}
	}
	for _, want := range []string{"Apply0", "Apply1", "Apply5", "Apply7", "Apply8", "Go0", "Go1", "Hurt0", "Hurt1", "Heal0", "Heal1", "Fall0", "Fall1", "Fall2", "Fall3"} {
		if count[want] < 10 {
			t.Errorf("%s came but %d times", want, count[want])
		}
	}
}

// P16.2: no command of a lesser epoch than one that was seen does anything, nor one that comes twice, nor one whose number isn't above the last one of its unit: in mixed rows, held against what the worker itself told ahead.
func TestNoOldCommands(t *testing.T) {
	mix := mixer(162)
	for row := range 60 {
		w, m := pair(t, row%3, 3)
		seen, last := 0, map[int]int{}
		came := map[api.Msg]int{}
		for range 300 {
			c := mixed(&mix, m)
			if c.name != "Apply" {
				checkTold(t, w, m, c)
				continue
			}
			x := c.msg
			old := x.Epoch < seen || x.Seq <= last[x.Unit] || came[x] > 0
			was := w.slots
			before := text(w)
			checkTold(t, w, m, c)
			if old && text(w) != before {
				t.Fatalf("%v changed %v", x, was)
			}
			if s, ok := w.Slot(x.Unit); ok && s.Seq > last[x.Unit] {
				last[x.Unit] = s.Seq
				came[x]++
			}
			seen = max(seen, w.Seen())
		}
	}
}

// text is the slots of the worker, as a text.
func text(w *Worker) string {
	var b strings.Builder
	for _, unit := range w.Units() {
		s, _ := w.Slot(unit)
		fmt.Fprintln(&b, unit, s)
	}
	return b.String()
}

// rows is all rows of the commands, each as often as it is there.
func rows(commands []api.Msg) [][]api.Msg {
	if len(commands) == 0 {
		return [][]api.Msg{nil}
	}
	var l [][]api.Msg
	for i, x := range commands {
		rest := slices.Concat(commands[:i], commands[i+1:])
		for _, row := range rows(rest) {
			l = append(l, append([]api.Msg{x}, row...))
		}
	}
	return l
}

// greatest is for each unit the command of the greatest number.
func greatest(commands []api.Msg) map[int]api.Msg {
	last := map[int]api.Msg{}
	for _, x := range commands {
		if x.Seq > last[x.Unit].Seq {
			last[x.Unit] = x
		}
	}
	return last
}

// wanted checks that of each unit the command of the greatest number is what is wanted at last, with the calls between that are told.
func wanted(t *testing.T, row []api.Msg, between func(w *Worker, i int)) {
	t.Helper()
	w, _ := pair(t, 1, 3)
	for i, x := range row {
		w.Apply(x)
		between(w, i)
	}
	for unit, x := range greatest(row) {
		if s, ok := w.Slot(unit); !ok || s.Want != x.Version || s.Seq != x.Seq {
			t.Fatalf("%v: of the unit %d, %v is wanted at last, want %v", row, unit, s, x)
		}
	}
}

// nothing is no call between commands.
func nothing(*Worker, int) {}

// P16.2: commands of one unit, turned round in whatever row, and doubled: the one of the greatest number is what is wanted at last, if epochs don't fall as numbers rise.
func TestGreatestOfOne(t *testing.T) {
	for _, epochs := range [][5]int{{1, 1, 1, 1, 1}, {0, 0, 0, 0, 0}, {1, 2, 3, 4, 5}, {1, 1, 2, 2, 2}, {1, 1, 1, 1, 9}, {0, 3, 3, 7, 7}} {
		var l []api.Msg
		for i, epoch := range epochs {
			l = append(l, api.Msg{Kind: api.Command, Epoch: epoch, Seq: 1 + i, Unit: 4, Version: (i + 3) % 5})
		}
		for _, doubled := range []int{0, 2, 4} {
			for _, row := range rows(append(slices.Clone(l), l[doubled])) {
				wanted(t, row, nothing)
			}
		}
		for _, row := range rows(l) {
			wanted(t, row, func(w *Worker, i int) { w.Go(4) })
			wanted(t, row, func(w *Worker, i int) { w.Go(4); w.Go(4); w.Hurt(4) })
			wanted(t, row, func(w *Worker, i int) { w.Go(4); w.Fall() })
			wanted(t, append(slices.Clone(row), row...), nothing)
		}
	}
}

// P16.2: commands of several units, in whatever row: of one epoch, or of several, where each unit's last one is of the last epoch.
func TestGreatestOfSeveral(t *testing.T) {
	for _, epochs := range [][6]int{{1, 1, 1, 1, 1, 1}, {0, 0, 0, 0, 0, 0}, {1, 1, 1, 2, 2, 2}, {1, 2, 3, 3, 3, 3}, {4, 4, 4, 9, 9, 9}} {
		var l []api.Msg
		for i, epoch := range epochs {
			l = append(l, api.Msg{Kind: api.Command, Epoch: epoch, Seq: 1 + i, Unit: []int{1, 7, 13}[i%3], Version: i % 4})
		}
		for _, row := range rows(l) {
			wanted(t, row, nothing)
			wanted(t, row, func(w *Worker, i int) { w.Go(1); w.Go(7); w.Go(13) })
		}
	}
}

// P16.2: of several units and epochs, a unit's last command is refused (ErrEpoch) if it comes behind another unit's of a greater epoch, as the epoch is the worker's; of those that weren't below an epoch seen as they came, the greatest number's is what is wanted.
func TestGreatestBehindAnEpoch(t *testing.T) {
	w, m := pair(t, 1, 3)
	check(t, w, m, command(2, 5, 4, 3), 0)
	check(t, w, m, command(1, 4, 7, 3), 8)
	check(t, w, m, command(2, 4, 7, 3), 0)
	var l []api.Msg
	for i, epoch := range []int{1, 1, 2, 2, 3, 4} {
		l = append(l, api.Msg{Kind: api.Command, Epoch: epoch, Seq: 1 + i, Unit: []int{1, 7}[i*i%3%2], Version: 1 + i})
	}
	for _, row := range rows(l) {
		w, _ := pair(t, 1, 3)
		seen := 0
		var fresh []api.Msg
		for _, x := range row {
			if x.Epoch >= seen {
				fresh = append(fresh, x)
			}
			seen = max(seen, x.Epoch)
			w.Apply(x)
		}
		for unit, x := range greatest(fresh) {
			if s, _ := w.Slot(unit); s.Want != x.Version || s.Seq != x.Seq {
				t.Fatalf("%v: of the unit %d, %v is wanted at last, want %v", row, unit, s, x)
			}
		}
	}
}

// P16.2: long mixed rows of many commands of one unit, of which some are doubled, lost and turned round.
func TestGreatestOfMany(t *testing.T) {
	mix := mixer(7)
	for range 300 {
		var row []api.Msg
		epoch := 0
		for seq := 1; seq <= 40; seq++ {
			epoch += mix.below(5) / 4
			x := api.Msg{Kind: api.Command, Epoch: epoch, Seq: seq, Unit: 13, Version: mix.below(4)}
			for range mix.below(3) {
				row = slices.Insert(row, mix.below(len(row)+1), x)
			}
		}
		wanted(t, row, func(w *Worker, i int) {
			c := []call{{name: "Go", unit: 13}, {name: "Hurt", unit: 13}, {name: "Heal", unit: 13}, {name: "Fall"}}[mix.below(4)]
			c.do(w)
		})
	}
}

// R4: lists that are answered are new memory.
func TestMemory(t *testing.T) {
	w, m := pair(t, 1, 2)
	first, second := w.Units(), w.Units()
	for i := range first {
		first[i] = -1
	}
	first = append(first[:0], 2, 4)
	if !slices.Equal(second, m.units()) {
		t.Errorf("two answers share their memory: %v, %v", first, second)
	}
	hold(t, w, m)
	for _, c := range lead(3, api.Draining) {
		checkTold(t, w, m, c)
	}
	s, _ := w.Slot(3)
	s.State, s.Want = 9, 9
	hold(t, w, m)
}

// R6: workers share nothing, not even those of one number.
func TestTwoWorkers(t *testing.T) {
	w, m := pair(t, 1, 2)
	other, still := pair(t, 1, 2)
	for _, c := range lead(3, api.Ready) {
		checkTold(t, w, m, c)
		hold(t, other, still)
	}
	checkTold(t, other, still, command(1, 9, 3, 4))
	hold(t, w, m)
}

// answers is all that a worker answers in a mixed row, as a text.
func answers() string {
	var b strings.Builder
	mix := mixer(5)
	w, _ := New(1, 3)
	m := &told{number: 1, many: 3}
	for range 500 {
		c := mixed(&mix, m)
		m.do(c)
		fmt.Fprintln(&b, c.do(w), w.Units(), w.Seen(), text(w))
		for state := range 5 {
			fmt.Fprintln(&b, w.Count(state))
		}
	}
	return b.String()
}

// R6: the same is answered each time, whatever other workers were asked ahead, or beside it.
func TestOneAnswer(t *testing.T) {
	want := answers()
	got := make([]string, 4)
	var all sync.WaitGroup
	for i := range got {
		all.Go(func() { got[i] = answers() })
	}
	all.Wait()
	for i := range got {
		if got[i] != want {
			t.Fatalf("the answers of the turn %d are others", i)
		}
	}
}

// P16.1 (R7): each call of a nil worker; and one that New didn't make has no units.
func TestNil(t *testing.T) {
	for _, w := range []*Worker{nil, {}} {
		good := api.Msg{Kind: api.Command, Epoch: 1, Seq: 1, Unit: 0, Version: 1}
		want := api.ErrArg
		if w != nil {
			want = api.ErrNone
		}
		for _, unit := range asked() {
			if got := w.Apply(with(good, "Unit", unit)); got != want && unit >= 0 || got != api.ErrArg && unit < 0 {
				t.Errorf("Apply: %d", got)
			}
			if w.Go(unit) || w.Hurt(unit) || w.Heal(unit) {
				t.Errorf("something was done to %d", unit)
			}
			if s, ok := w.Slot(unit); s != (slot.Slot{}) || ok {
				t.Errorf("slot of %d: %v, %t", unit, s, ok)
			}
			if x, ok := w.Report(unit); x != (api.Msg{}) || ok {
				t.Errorf("report of %d: %v, %t", unit, x, ok)
			}
		}
		for _, state := range append(noStates(), 0, 1, 2, 3, 4) {
			if w.Count(state) != 0 {
				t.Errorf("units of the state %d", state)
			}
		}
		if w.Apply(api.Msg{}) != api.ErrArg || w.Fall() != 0 || len(w.Units()) != 0 || w.Seen() != 0 {
			t.Error("a nil worker has something")
		}
	}
}
