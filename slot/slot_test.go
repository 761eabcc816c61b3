package slot

import (
	"fmt"
	"math"
	"strings"
	"sync"
	"testing"

	"pacesetter/api"
)

// call is a call that may change a slot, by its name; version and seq are Want's alone.
type call struct {
	name         string
	version, seq int
}

// do is what the package answers of the call.
func (c call) do(s Slot) (Slot, bool) {
	switch c.name {
	case "Want":
		return Want(s, c.version, c.seq)
	case "Go":
		return Go(s)
	case "Hurt":
		return Hurt(s)
	case "Heal":
		return Heal(s)
	}
	return Fall(s)
}

// others is all calls but Want.
func others() []call {
	return []call{{name: "Go"}, {name: "Hurt"}, {name: "Heal"}, {name: "Fall"}}
}

// calls is all calls, Want with each of these versions and numbers.
func calls(versions, seqs []int) []call {
	l := others()
	for _, version := range versions {
		for _, seq := range seqs {
			l = append(l, call{"Want", version, seq})
		}
	}
	return l
}

// mayBe tells by the chapter's words whether the slot may be.
func mayBe(s Slot) bool {
	switch {
	case s.Version < 0 || s.Want < 0 || s.Seq < 0:
		return false
	case s.State == 0:
		return s.Version == 0
	case s.State == 1 || s.State == 2 || s.State == 3 || s.State == 4:
		return s.Version > 0
	}
	return false
}

// told is what the chapter's table says of the call.
func told(s Slot, c call) (Slot, bool) {
	if !mayBe(s) {
		return s, false
	}
	at := [5]string{"Stopped", "Starting", "Ready", "Unready", "Draining"}[s.State]
	switch field := at + " " + c.name; {
	case c.name == "Want" && (c.seq <= s.Seq || c.version < 0):
		return s, false
	case field == "Stopped Want" || field == "Draining Want" || c.name == "Want" && c.version == s.Version:
		return Slot{s.State, s.Version, c.version, c.seq}, true
	case c.name == "Want":
		return Slot{4, s.Version, c.version, c.seq}, true
	case field == "Stopped Go" && s.Want > 0:
		return Slot{1, s.Want, s.Want, s.Seq}, true
	case field == "Starting Go" || field == "Unready Heal":
		return Slot{2, s.Version, s.Want, s.Seq}, true
	case field == "Ready Hurt":
		return Slot{3, s.Version, s.Want, s.Seq}, true
	case field == "Draining Go" || c.name == "Fall" && at != "Stopped":
		return Slot{0, 0, s.Want, s.Seq}, true
	}
	return s, false
}

// check holds a call against what is wanted of it.
func check(t *testing.T, s Slot, c call, want Slot, wantDid bool) {
	t.Helper()
	if got, did := c.do(s); got != want || did != wantDid {
		t.Fatalf("%v of %v: %v, %t, want %v, %t", c, s, got, did, want, wantDid)
	}
}

// checkTold holds a call against the chapter's table.
func checkTold(t *testing.T, s Slot, c call) {
	t.Helper()
	want, did := told(s, c)
	check(t, s, c, want, did)
}

// slots is all slots of these states and numbers, those that may not be among them.
func slots(states, versions, wants, seqs []int) []Slot {
	var l []Slot
	for _, state := range states {
		for _, version := range versions {
			for _, want := range wants {
				for _, seq := range seqs {
					l = append(l, Slot{state, version, want, seq})
				}
			}
		}
	}
	return l
}

// states is all states.
func states() []int {
	return []int{api.Stopped, api.Starting, api.Ready, api.Unready, api.Draining}
}

// noStates is numbers that are no state's, some of which would be one if they were wrapped round to fewer bits.
func noStates() []int {
	return []int{
		math.MinInt, math.MinInt + 1, math.MinInt + 2, -1 << 62, -1<<32 + 2, -1 << 32, math.MinInt32, -1<<16 + 2, -256, -254, -5, -4, -3, -2, -1,
		5, 6, 7, 8, 10, 16, 64, 127, 128, 255, 256, 257, 258, 260, 1<<16 + 2, math.MaxInt32, 1 << 32, 1<<32 + 1, 1<<32 + 2, 1 << 62, math.MaxInt - 1, math.MaxInt,
	}
}

// ends is small numbers, those below 0, and the ends of all ints.
func ends() []int {
	return []int{math.MinInt, math.MinInt + 1, -1<<32 + 1, -2, -1, 0, 1, 2, 3, 1<<32 + 1, math.MaxInt - 1, math.MaxInt}
}

// mixer is a row of numbers that look mixed, the same each time.
type mixer uint64

// below is the next number, from 0 to n-1.
func (m *mixer) below(n int) int {
	*m = *m*6364136223846793005 + 1442695040888963407
	return int(uint64(*m)>>33) % n
}

// P15.1: each field of the table by hand, of slots whose number is 5.
func TestFields(t *testing.T) {
	stopped, wanted := Slot{api.Stopped, 0, 0, 5}, Slot{api.Stopped, 0, 3, 5}
	starting, ready := Slot{api.Starting, 3, 3, 5}, Slot{api.Ready, 3, 3, 5}
	unready, draining := Slot{api.Unready, 3, 3, 5}, Slot{api.Draining, 3, 7, 5}
	run, fall, hurt, heal := call{name: "Go"}, call{name: "Fall"}, call{name: "Hurt"}, call{name: "Heal"}
	for _, c := range []struct {
		s    Slot
		c    call
		want Slot
		did  bool
	}{
		{stopped, call{"Want", 3, 6}, Slot{api.Stopped, 0, 3, 6}, true},
		{wanted, call{"Want", 4, 6}, Slot{api.Stopped, 0, 4, 6}, true},
		{starting, call{"Want", 4, 6}, Slot{api.Draining, 3, 4, 6}, true},
		{ready, call{"Want", 4, 6}, Slot{api.Draining, 3, 4, 6}, true},
		{unready, call{"Want", 4, 6}, Slot{api.Draining, 3, 4, 6}, true},
		{draining, call{"Want", 4, 6}, Slot{api.Draining, 3, 4, 6}, true},
		{stopped, run, stopped, false},
		{wanted, run, Slot{api.Starting, 3, 3, 5}, true},
		{starting, run, Slot{api.Ready, 3, 3, 5}, true},
		{ready, run, ready, false},
		{unready, run, unready, false},
		{draining, run, Slot{api.Stopped, 0, 7, 5}, true},
		{stopped, hurt, stopped, false},
		{wanted, hurt, wanted, false},
		{starting, hurt, starting, false},
		{ready, hurt, Slot{api.Unready, 3, 3, 5}, true},
		{unready, hurt, unready, false},
		{draining, hurt, draining, false},
		{stopped, heal, stopped, false},
		{wanted, heal, wanted, false},
		{starting, heal, starting, false},
		{ready, heal, ready, false},
		{unready, heal, Slot{api.Ready, 3, 3, 5}, true},
		{draining, heal, draining, false},
		{stopped, fall, stopped, false},
		{wanted, fall, wanted, false},
		{starting, fall, Slot{api.Stopped, 0, 3, 5}, true},
		{ready, fall, Slot{api.Stopped, 0, 3, 5}, true},
		{unready, fall, Slot{api.Stopped, 0, 3, 5}, true},
		{draining, fall, Slot{api.Stopped, 0, 7, 5}, true},
	} {
		check(t, c.s, c.c, c.want, c.did)
		checkTold(t, c.s, c.c)
	}
}

// P15.1: Want with a number below, equal to and above the slot's, and a version below 0, none, the one that runs, the one that was wanted and another one, of a slot of each state.
func TestWant(t *testing.T) {
	for _, s := range []Slot{{0, 0, 0, 5}, {0, 0, 3, 5}, {1, 3, 3, 5}, {2, 3, 3, 5}, {3, 3, 3, 5}, {4, 3, 0, 5}, {4, 3, 7, 5}, {4, 3, 3, 5}} {
		drains := s.State == api.Starting || s.State == api.Ready || s.State == api.Unready
		for _, version := range []int{math.MinInt, -3, -1, 0, 1, 3, 4, 7, math.MaxInt} {
			for _, seq := range []int{math.MinInt, -6, -1, 0, 1, 4, 5} {
				check(t, s, call{"Want", version, seq}, s, false)
			}
			for _, seq := range []int{6, 7, 1 << 32, math.MaxInt} {
				want := Slot{s.State, s.Version, version, seq}
				switch {
				case version < 0:
					want = s
				case drains && version != 3:
					want.State = api.Draining
				}
				check(t, s, call{"Want", version, seq}, want, version >= 0)
			}
		}
	}
}

// P15.1: Want at the ends of what a number may be: none is above the greatest one, and 0 isn't above 0.
func TestWantAtTheEnds(t *testing.T) {
	for _, state := range states() {
		s := Slot{State: state, Version: 2, Want: 2}
		if state == api.Stopped {
			s.Version = 0
		}
		check(t, s, call{"Want", 2, 0}, s, false)
		check(t, s, call{"Want", 2, math.MinInt}, s, false)
		check(t, s, call{"Want", 2, 1}, Slot{s.State, s.Version, 2, 1}, true)
		check(t, s, call{"Want", 2, math.MaxInt}, Slot{s.State, s.Version, 2, math.MaxInt}, true)
		s.Seq = math.MaxInt
		check(t, s, call{"Want", 2, math.MaxInt}, s, false)
		check(t, s, call{"Want", 2, math.MinInt}, s, false)
		s.Seq = math.MaxInt - 1
		check(t, s, call{"Want", 2, math.MaxInt}, Slot{s.State, s.Version, 2, math.MaxInt}, true)
	}
}

// P15.1: what drains goes on with that, whatever is wanted of it, and then starts what was wanted last.
func TestWantWhileDraining(t *testing.T) {
	s := Slot{api.Ready, 3, 3, 1}
	for i, c := range []struct {
		c    call
		want Slot
	}{
		{call{"Want", 4, 2}, Slot{api.Draining, 3, 4, 2}},
		{call{"Want", 3, 3}, Slot{api.Draining, 3, 3, 3}},
		{call{"Want", 0, 4}, Slot{api.Draining, 3, 0, 4}},
		{call{"Want", 5, 5}, Slot{api.Draining, 3, 5, 5}},
		{call{name: "Go"}, Slot{api.Stopped, 0, 5, 5}},
		{call{"Want", 3, 6}, Slot{api.Stopped, 0, 3, 6}},
		{call{name: "Go"}, Slot{api.Starting, 3, 3, 6}},
		{call{"Want", 3, 7}, Slot{api.Starting, 3, 3, 7}},
		{call{name: "Go"}, Slot{api.Ready, 3, 3, 7}},
	} {
		got, did := c.c.do(s)
		if got != c.want || !did {
			t.Fatalf("%d: %v of %v: %v, %t, want %v", i, c.c, s, got, did, c.want)
		}
		s = got
	}
}

// P15.1: the chapter's example: Stopped, 3 is wanted: Starting, Ready; then none is: Draining, Stopped.
func TestExample(t *testing.T) {
	var s Slot
	for i, c := range []struct {
		c    call
		want Slot
		name string
		did  bool
	}{
		{call{name: "Go"}, Slot{}, "stopped", false},
		{call{"Want", 3, 1}, Slot{api.Stopped, 0, 3, 1}, "stopped", true},
		{call{name: "Go"}, Slot{api.Starting, 3, 3, 1}, "starting", true},
		{call{name: "Go"}, Slot{api.Ready, 3, 3, 1}, "ready", true},
		{call{name: "Go"}, Slot{api.Ready, 3, 3, 1}, "ready", false},
		{call{"Want", 0, 2}, Slot{api.Draining, 3, 0, 2}, "draining", true},
		{call{name: "Go"}, Slot{api.Stopped, 0, 0, 2}, "stopped", true},
		{call{name: "Go"}, Slot{api.Stopped, 0, 0, 2}, "stopped", false},
	} {
		got, did := c.c.do(s)
		if got != c.want || did != c.did || Name(got.State) != c.name {
			t.Fatalf("%d: %v of %v: %v, %t, want %v, %t", i, c.c, s, got, did, c.want, c.did)
		}
		s = got
	}
}

// P15.1: slots that may be, by hand.
func TestRight(t *testing.T) {
	for _, s := range []Slot{
		{}, {0, 0, 1, 0}, {0, 0, 0, 1}, {0, 0, math.MaxInt, math.MaxInt},
		{1, 1, 1, 1}, {2, 1, 1, 1}, {3, 1, 1, 1}, {4, 1, 1, 1},
		{1, 1, 0, 0}, {2, 1, 0, 0}, {3, 1, 0, 0}, {4, 1, 0, 0},
		{1, 1, 2, 0}, {2, 1, 2, 0}, {3, 1, 2, 0}, {4, 1, 2, 0},
		{1, math.MaxInt, 0, 0}, {2, math.MaxInt, math.MaxInt, math.MaxInt}, {4, math.MaxInt, 0, math.MaxInt},
	} {
		if !Right(s) {
			t.Errorf("%v isn't right", s)
		}
	}
}

// wrongSlots is slots that may not be: for each of the chapter's reasons alone, and for several.
func wrongSlots() []Slot {
	var l []Slot
	for _, state := range noStates() {
		l = append(l, Slot{State: state}, Slot{state, 1, 1, 1}, Slot{state, 0, 1, 1}, Slot{state, 1, 2, 0}, Slot{state, 3, 0, 2}, Slot{state, -1, -1, -1})
	}
	for _, below := range []int{-1, -2, -3, -1<<32 + 1, math.MinInt + 1, math.MinInt} {
		l = append(l, Slot{api.Stopped, 0, below, 0}, Slot{api.Stopped, 0, 0, below}, Slot{api.Stopped, 0, 3, below}, Slot{api.Stopped, below, 0, 0}, Slot{api.Stopped, below, below, below})
		for _, state := range states()[1:] {
			l = append(l, Slot{state, below, 0, 0}, Slot{state, below, 1, 1}, Slot{state, below, below, 1}, Slot{state, 1, below, 1}, Slot{state, 1, 1, below}, Slot{state, 1, 0, below}, Slot{state, below, below, below})
		}
	}
	for _, version := range []int{1, 2, 3, math.MaxInt} {
		l = append(l, Slot{api.Stopped, version, 0, 0}, Slot{api.Stopped, version, version, 1}, Slot{api.Stopped, version, 4, 1})
	}
	for _, state := range states()[1:] {
		l = append(l, Slot{state, 0, 0, 0}, Slot{state, 0, 1, 0}, Slot{state, 0, 0, 1}, Slot{state, 0, 3, 3})
	}
	return l
}

// P15.1: slots that may not be stay, with false, in each call.
func TestWrongSlots(t *testing.T) {
	for _, s := range wrongSlots() {
		if Right(s) || mayBe(s) {
			t.Errorf("%v is right", s)
		}
		for _, c := range calls([]int{-1, 0, 1, 2, 3, math.MaxInt}, []int{math.MinInt, -1, 0, 1, 2, 4, math.MaxInt}) {
			check(t, s, c, s, false)
		}
	}
}

// P15.1: each state's name, and none of others.
func TestName(t *testing.T) {
	for state, want := range []string{"stopped", "starting", "ready", "unready", "draining"} {
		if got := Name(state); got != want {
			t.Errorf("Name(%d): %q, want %q", state, got, want)
		}
	}
	if Name(api.Stopped) != "stopped" || Name(api.Starting) != "starting" || Name(api.Ready) != "ready" || Name(api.Unready) != "unready" || Name(api.Draining) != "draining" {
		t.Error("names by api's words")
	}
	for _, state := range noStates() {
		if got := Name(state); got != "" {
			t.Errorf("Name(%d): %q", state, got)
		}
	}
}

// P15.1: Settled in each state, with what runs wanted, another version, and none.
func TestSettled(t *testing.T) {
	for _, seq := range []int{0, 1, math.MaxInt} {
		for _, c := range []struct {
			s    Slot
			want bool
		}{
			{Slot{api.Stopped, 0, 0, seq}, true},
			{Slot{api.Stopped, 0, 1, seq}, false},
			{Slot{api.Stopped, 0, math.MaxInt, seq}, false},
			{Slot{api.Starting, 3, 3, seq}, false},
			{Slot{api.Starting, 3, 4, seq}, false},
			{Slot{api.Starting, 3, 0, seq}, false},
			{Slot{api.Ready, 3, 3, seq}, true},
			{Slot{api.Ready, 3, 4, seq}, false},
			{Slot{api.Ready, 3, 2, seq}, false},
			{Slot{api.Ready, 3, 0, seq}, false},
			{Slot{api.Ready, math.MaxInt, math.MaxInt, seq}, true},
			{Slot{api.Unready, 3, 3, seq}, false},
			{Slot{api.Unready, 3, 4, seq}, false},
			{Slot{api.Unready, 3, 0, seq}, false},
			{Slot{api.Draining, 3, 3, seq}, false},
			{Slot{api.Draining, 3, 4, seq}, false},
			{Slot{api.Draining, 3, 0, seq}, false},
		} {
			if got := Settled(c.s); got != c.want {
				t.Errorf("Settled(%v): %t", c.s, got)
			}
		}
	}
	for _, state := range noStates() {
		if Settled(Slot{State: state}) || Settled(Slot{state, 1, 1, 1}) {
			t.Errorf("a slot of the state %d is settled", state)
		}
	}
}

// P15.1: all slots of each state, and of numbers that are none, with numbers small, below 0, and at the ends, in all calls, against the chapter as told here.
func TestAll(t *testing.T) {
	all := calls(ends(), ends())
	for _, s := range slots([]int{math.MinInt, -1, 0, 1, 2, 3, 4, 5, math.MaxInt}, ends(), ends(), ends()) {
		if Right(s) != mayBe(s) {
			t.Fatalf("Right(%v): %t", s, Right(s))
		}
		if got, want := Settled(s), s.State == 0 && s.Want == 0 || s.State == 2 && s.Version == s.Want; got != want {
			t.Fatalf("Settled(%v): %t", s, got)
		}
		for _, c := range all {
			checkTold(t, s, c)
		}
	}
}

// P15.1: long mixed rows of calls, each on what the one ahead of it answered: the slot may always be, its number never falls, and what did nothing left it.
func TestRows(t *testing.T) {
	mix := mixer(15)
	for range 200 {
		var s Slot
		for range 500 {
			c := call{name: []string{"Want", "Go", "Go", "Go", "Hurt", "Heal", "Fall"}[mix.below(7)]}
			if c.name == "Want" {
				c.version, c.seq = mix.below(5)-1, s.Seq+mix.below(4)-1
			}
			checkTold(t, s, c)
			next, did := c.do(s)
			if !Right(next) || next.Seq < s.Seq || did != (next != s) {
				t.Fatalf("%v of %v: %v, %t", c, s, next, did)
			}
			s = next
		}
	}
}

// reached is all slots to which calls lead from the first one, of versions up to 3 and numbers up to 4.
func reached() map[Slot]int {
	found := map[Slot]int{{}: 0}
	all := calls([]int{0, 1, 2, 3}, []int{1, 2, 3, 4})
	for row := []Slot{{}}; len(row) > 0; row = row[1:] {
		for _, c := range all {
			next, _ := c.do(row[0])
			if _, ok := found[next]; !ok {
				found[next] = len(found)
				row = append(row, next)
			}
		}
	}
	return found
}

// steps is how many steps the slot takes until it is settled; it fails if that is more than four, or if the slot isn't so, or turns, further on.
func steps(t *testing.T, s Slot) int {
	t.Helper()
	first, count := s, 0
	for ; !Settled(s) && count <= 4; count++ {
		s, _ = Go(s)
	}
	if count > 4 {
		t.Fatalf("%v isn't settled by the fourth step: %v", first, s)
	}
	for range 10 {
		next, did := Go(s)
		if did || next != s || !Settled(next) {
			t.Fatalf("%v was settled as %v, then %v, %t", first, s, next, did)
		}
	}
	if s.Want != first.Want || s.Seq != first.Seq || s.Version != first.Want {
		t.Fatalf("%v is settled as %v", first, s)
	}
	return count
}

// stuck checks that the slot stays as it is when it goes on alone, and isn't settled.
func stuck(t *testing.T, s Slot) {
	t.Helper()
	if next, did := Go(s); did || next != s || Settled(next) {
		t.Errorf("%v went on: %v, %t", s, next, did)
	}
}

// P15.2: all slots to which small calls lead go on alone, settled by the fourth step, and staying so, all but those that are Unready.
func TestGoingOn(t *testing.T) {
	count := map[int]int{}
	for s := range reached() {
		count[s.State]++
		if s.State == api.Unready {
			stuck(t, s)
		} else {
			steps(t, s)
		}
	}
	for _, state := range states() {
		if count[state] == 0 {
			t.Errorf("no slot is %s", Name(state))
		}
	}
}

// P15.2: slots of all states, with small versions and great ones: how many steps each takes, by hand. What starts, or is Ready or Unready, runs what is wanted.
func TestGoingOnOfAll(t *testing.T) {
	for _, seq := range []int{0, 1, 2, math.MaxInt} {
		for _, version := range []int{1, 2, 3, math.MaxInt} {
			for s, want := range map[Slot]int{
				{api.Stopped, 0, 0, seq}:              0,
				{api.Stopped, 0, version, seq}:        2,
				{api.Starting, version, version, seq}: 1,
				{api.Ready, version, version, seq}:    0,
				{api.Draining, version, 0, seq}:       1,
				{api.Draining, version, version, seq}: 3,
				{api.Draining, version, 4, seq}:       3,
			} {
				if got := steps(t, s); got != want {
					t.Errorf("%v is settled by the step %d, want %d", s, got, want)
				}
			}
			stuck(t, Slot{api.Unready, version, version, seq})
		}
	}
}

// P15.2: also once something else was wanted of a slot, whatever ran, and once it fell; and one that is Unready, once it is healed, or something else is wanted of it.
func TestGoingOnBehindCalls(t *testing.T) {
	for s := range reached() {
		fallen, _ := Fall(s)
		steps(t, fallen)
		if healed, did := Heal(s); did {
			steps(t, healed)
		}
		for version := range 5 {
			wanted, did := Want(s, version, s.Seq+1)
			if !did {
				t.Fatalf("%d wasn't wanted of %v", version, s)
			}
			if wanted.State != api.Unready {
				steps(t, wanted)
			}
		}
	}
}

// P15.2: it holds since no call leads to a slot that starts, or is Ready or Unready, while another version than its own is wanted; one that is handed in so goes on by the table (P15.1), in which a Ready one doesn't go on.
func TestWantedOfOthers(t *testing.T) {
	for s := range reached() {
		if (s.State == api.Starting || s.State == api.Ready || s.State == api.Unready) && s.Version != s.Want {
			t.Errorf("calls lead to %v", s)
		}
	}
	for _, want := range []int{0, 2, math.MaxInt} {
		check(t, Slot{api.Starting, 1, want, 1}, call{name: "Go"}, Slot{api.Ready, 1, want, 1}, true)
		stuck(t, Slot{api.Ready, 1, want, 1})
		stuck(t, Slot{api.Unready, 1, want, 1})
	}
}

// answers is all that the calls answer of small slots, as a text.
func answers() string {
	var text strings.Builder
	small := []int{-1, 0, 1, 2}
	for _, s := range slots([]int{-1, 0, 1, 2, 3, 4, 5}, small, small, small) {
		fmt.Fprintln(&text, Right(s), Settled(s), Name(s.State))
		for _, c := range calls(small, small) {
			next, did := c.do(s)
			fmt.Fprintln(&text, next, did)
		}
	}
	return text.String()
}

// R6: nothing is kept: the same is answered each time, whatever was asked ahead of it, or beside it.
func TestOneAnswer(t *testing.T) {
	want := answers()
	got := make([]string, 4)
	var all sync.WaitGroup
	for i := range got {
		all.Go(func() { got[i] = answers() })
	}
	all.Wait()
	for i := range got {
		if got[i] != want {
			t.Fatalf("the answers of the turn %d are others", i)
		}
	}
}
