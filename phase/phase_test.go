package phase

import (
	"fmt"
	"math"
	"slices"
	"strconv"
	"strings"
	"sync"
	"testing"

	"pacesetter/api"
)

// told is the chapter's table, as it stands there.
const told = `| | Begin 0 | Pause 1 | Resume 2 | Promote 3 | Fail 4 | Late 5 | Abort 6 | Done 7 | Back 8 |
| (word) | begin | pause | resume | promote | health | deadline | abort | done | back |
| Idle | Running | - | - | - | - | - | - | - | - |
| Running | - | Paused | - | Running | RollingBack | RollingBack | RollingBack | Complete | - |
| Paused | - | - | Running | - | - | - | RollingBack | - | - |
| Complete | Running | - | - | - | - | - | - | - | - |
| RollingBack | - | - | - | - | - | - | - | - | RolledBack |
| RolledBack | Running | - | - | - | - | - | - | - | - |`

// cells is the chapter's table, row by row, without what is ahead of each row.
func cells() [][]string {
	var l [][]string
	for line := range strings.Lines(told) {
		row := strings.Split(strings.Trim(strings.TrimSpace(line), "|"), "|")
		for i := range row {
			row[i] = strings.TrimSpace(row[i])
		}
		l = append(l, row[1:])
	}
	return l
}

// phasesTold is the phases by the chapter's words for them, in their row.
func phasesTold() []string {
	return []string{"Idle", "Running", "Paused", "Complete", "RollingBack", "RolledBack"}
}

// namesTold is what Name answers, in the phases' row.
func namesTold() []string {
	return []string{"idle", "running", "paused", "complete", "rolling-back", "rolled-back"}
}

// wordsTold is what Word answers, in the events' row.
func wordsTold() []string {
	return cells()[1]
}

// pair is a phase and an event.
type pair struct{ phase, event int }

// arrows is where events lead, by the chapter's table: what isn't in it does nothing.
func arrows() map[pair]int {
	m := map[pair]int{}
	for phase, row := range cells()[2:] {
		for event, cell := range row {
			if cell != "-" {
				m[pair{phase, event}] = slices.Index(phasesTold(), cell)
			}
		}
	}
	return m
}

// nextTold is what Next answers, by the chapter's table.
func nextTold(m map[pair]int, phase, event int) (int, bool) {
	if to, ok := m[pair{phase, event}]; ok {
		return to, true
	}
	return phase, false
}

// walkTold is what Walk answers, by the chapter's table.
func walkTold(m map[pair]int, phase int, events []int) (int, int) {
	count := 0
	for _, event := range events {
		if to, ok := m[pair{phase, event}]; ok {
			phase = to
			count++
		}
	}
	return phase, count
}

// far is numbers far out, some of which would be small if they were wrapped round to fewer bits.
func far() []int {
	return []int{
		math.MinInt, math.MinInt + 1, math.MinInt + 3, -1 << 62, -1<<32 + 1, -1 << 32, math.MinInt32, -1<<16 + 1, -256, -255, -250, -100, -54, -10, -9, -8, -7, -6, -5, -4, -3, -2, -1,
		10, 11, 15, 16, 53, 54, 55, 63, 64, 127, 128, 255, 256, 257, 258, 1<<16 + 1, 1 << 20, math.MaxInt32, 1 << 32, 1<<32 + 1, 1<<32 + 4, 1 << 40, 1 << 62, math.MaxInt - 1, math.MaxInt,
	}
}

// noPhases is numbers that are no phase's.
func noPhases() []int {
	return append([]int{6, 7, 8, 9}, far()...)
}

// noEvents is numbers that are no event's.
func noEvents() []int {
	return append([]int{9}, far()...)
}

// numbers is all phases and events, and numbers that are neither.
func numbers() []int {
	return append([]int{0, 1, 2, 3, 4, 5, 6, 7, 8, 9}, far()...)
}

// checkNext holds Next against what is wanted.
func checkNext(t *testing.T, phase, event, want int, wantDid bool) {
	t.Helper()
	if got, did := Next(phase, event); got != want || did != wantDid {
		t.Fatalf("Next(%d, %d): %d, %t, want %d, %t", phase, event, got, did, want, wantDid)
	}
}

// checkWalk holds Walk against the chapter's table.
func checkWalk(t *testing.T, m map[pair]int, phase int, events []int) {
	t.Helper()
	want, wantCount := walkTold(m, phase, events)
	if got, count := Walk(phase, events...); got != want || count != wantCount {
		t.Fatalf("Walk(%d, %v): %d, %d, want %d, %d", phase, events, got, count, want, wantCount)
	}
}

// checkParts holds Walk in two parts against Walk in one, at each place.
func checkParts(t *testing.T, phase int, events []int) {
	t.Helper()
	whole, count := Walk(phase, events...)
	for i := range len(events) + 1 {
		middle, first := Walk(phase, events[:i]...)
		end, second := Walk(middle, events[i:]...)
		if end != whole || first+second != count {
			t.Fatalf("Walk(%d, %v), cut at %d: %d, %d and %d, want %d, %d", phase, events, i, end, first, second, whole, count)
		}
	}
}

// rows tells all rows of so many of these numbers, each in one list that is turned between them.
func rows(of []int, length int, tell func([]int)) {
	row := make([]int, length)
	var fill func(int)
	fill = func(place int) {
		if place == length {
			tell(row)
			return
		}
		for _, n := range of {
			row[place] = n
			fill(place + 1)
		}
	}
	fill(0)
}

// mixer is a row of numbers that look mixed, the same each time.
type mixer uint64

// below is the next number, from 0 to n-1.
func (m *mixer) below(n int) int {
	*m = *m*6364136223846793005 + 1442695040888963407
	return int(uint64(*m)>>33) % n
}

// TestTold holds the tests' own reading of the chapter's table against numbers counted by hand: 6 rows of 9 cells, 12 of which lead anywhere.
func TestTold(t *testing.T) {
	if len(cells()) != 8 || len(arrows()) != 12 {
		t.Fatalf("%d rows, %d arrows", len(cells()), len(arrows()))
	}
	for i, row := range cells() {
		if len(row) != 9 {
			t.Errorf("row %d has %d cells", i, len(row))
		}
	}
	for p, to := range arrows() {
		if to < 0 {
			t.Errorf("%v leads nowhere", p)
		}
	}
}

// P11.1, and the stage's way: the events are numbered from 0 on, in the chapter's row, and there are no others.
func TestNumbers(t *testing.T) {
	for want, c := range []struct {
		name  string
		event int
	}{{"Begin", Begin}, {"Pause", Pause}, {"Resume", Resume}, {"Promote", Promote}, {"Fail", Fail}, {"Late", Late}, {"Abort", Abort}, {"Done", Done}, {"Back", Back}} {
		if c.event != want || cells()[0][want] != c.name+" "+strconv.Itoa(want) {
			t.Errorf("%s is %d, want %d, as in %q", c.name, c.event, want, cells()[0][want])
		}
	}
	if eventCount != 9 || phaseCount != 6 {
		t.Errorf("%d events, %d phases", eventCount, phaseCount)
	}
}

// P11.1, and the stage's way: the table has the chapter's rows; what stands for an event that does nothing is a phase to which none leads.
func TestTable(t *testing.T) {
	m := arrows()
	for p, to := range m {
		if to == stays {
			t.Fatalf("%v leads to %d, which stands for nothing", p, to)
		}
	}
	for phase := range leads {
		for event, got := range leads[phase] {
			want, ok := m[pair{phase, event}]
			if !ok {
				want = stays
			}
			if got != want {
				t.Errorf("the table at %d, %d: %d, want %d", phase, event, got, want)
			}
		}
	}
}

// P11.1: each phase with each event, against the chapter's table.
func TestNext(t *testing.T) {
	m := arrows()
	for phase := range 6 {
		for event := range 9 {
			want, did := nextTold(m, phase, event)
			checkNext(t, phase, event, want, did)
		}
	}
}

// P11.1: each arrow by hand, in the names of api and of this package.
func TestNextByHand(t *testing.T) {
	for _, c := range []struct{ from, event, to int }{
		{api.Idle, Begin, api.Running},
		{api.Running, Pause, api.Paused},
		{api.Running, Promote, api.Running},
		{api.Running, Fail, api.RollingBack},
		{api.Running, Late, api.RollingBack},
		{api.Running, Abort, api.RollingBack},
		{api.Running, Done, api.Complete},
		{api.Paused, Resume, api.Running},
		{api.Paused, Abort, api.RollingBack},
		{api.Complete, Begin, api.Running},
		{api.RollingBack, Back, api.RolledBack},
		{api.RolledBack, Begin, api.Running},
	} {
		checkNext(t, c.from, c.event, c.to, true)
	}
	for _, c := range []pair{
		{api.Idle, Pause}, {api.Idle, Abort}, {api.Idle, Back}, {api.Running, Begin}, {api.Running, Resume}, {api.Running, Back}, {api.Paused, Begin}, {api.Paused, Pause}, {api.Paused, Promote}, {api.Paused, Fail}, {api.Paused, Late}, {api.Paused, Done},
		{api.Complete, Done}, {api.Complete, Abort}, {api.RollingBack, Begin}, {api.RollingBack, Abort}, {api.RollingBack, Done}, {api.RollingBack, Resume}, {api.RolledBack, Back}, {api.RolledBack, Abort},
	} {
		checkNext(t, c.phase, c.event, c.phase, false)
	}
}

// P11.1: of a phase, or an event, that there isn't, the phase stays, and nothing was done.
func TestNextOfOthers(t *testing.T) {
	for _, phase := range noPhases() {
		for _, event := range numbers() {
			checkNext(t, phase, event, phase, false)
		}
	}
	for phase := range 6 {
		for _, event := range noEvents() {
			checkNext(t, phase, event, phase, false)
		}
	}
}

// P11.1: Walk of no event, told none, nil, or an empty list.
func TestWalkOfNone(t *testing.T) {
	for _, phase := range numbers() {
		for _, events := range [][]int{nil, {}} {
			if got, count := Walk(phase, events...); got != phase || count != 0 {
				t.Errorf("Walk(%d) of none: %d, %d", phase, got, count)
			}
		}
		if got, count := Walk(phase); got != phase || count != 0 {
			t.Errorf("Walk(%d): %d, %d", phase, got, count)
		}
	}
}

// P11.1: Walk of one event is Next.
func TestWalkOfOne(t *testing.T) {
	for _, phase := range numbers() {
		for _, event := range numbers() {
			want, did := Next(phase, event)
			got, count := Walk(phase, event)
			if got != want || (count == 1) != did || count < 0 || count > 1 {
				t.Errorf("Walk(%d, %d): %d, %d, want %d, %t", phase, event, got, count, want, did)
			}
		}
	}
}

// P11.1: rows of events by hand; the chapter's example is the first one.
func TestWalkByHand(t *testing.T) {
	for _, c := range []struct {
		phase  int
		events []int
		want   int
		count  int
	}{
		{api.Idle, []int{Begin, Abort, Back}, api.RolledBack, 3},
		{api.Idle, []int{Begin, Done}, api.Complete, 2},
		{api.Idle, []int{Begin, Promote, Promote, Promote, Done}, api.Complete, 5},
		{api.Idle, []int{Begin, Pause, Pause, Promote, Fail, Late, Done, Resume, Fail, Fail, Back, Back}, api.RolledBack, 5},
		{api.Idle, []int{Begin, Pause, Abort, Resume, Back, Begin}, api.Running, 5},
		{api.Idle, []int{Back, Abort, Done, Resume, Pause}, api.Idle, 0},
		{api.Idle, []int{-1, Begin, 9, Pause, math.MaxInt, Resume, math.MinInt, Late, 1 << 32, Back, 256}, api.RolledBack, 5},
		{api.Running, []int{Begin, Begin, Back, Resume, Done, Abort}, api.Complete, 1},
		{api.Complete, []int{Begin, Done, Begin, Done, Begin, Done}, api.Complete, 6},
		{api.RollingBack, []int{Back, Begin, Late, Back}, api.RolledBack, 4},
		{api.Paused, []int{Pause, Begin, Done, Back, Late, Fail, Promote}, api.Paused, 0},
		{6, []int{Begin, Abort, Back}, 6, 0},
		{-1, []int{Begin, Abort, Back}, -1, 0},
		{math.MaxInt, []int{Begin, Done}, math.MaxInt, 0},
		{math.MinInt, []int{Begin, Done}, math.MinInt, 0},
	} {
		if got, count := Walk(c.phase, c.events...); got != c.want || count != c.count {
			t.Errorf("Walk(%d, %v): %d, %d, want %d, %d", c.phase, c.events, got, count, c.want, c.count)
		}
	}
	if got, count := Walk(api.Idle, Begin, Abort, Back); got != api.RolledBack || count != 3 || Name(got) != "rolled-back" {
		t.Errorf("the chapter's example: %d, %d", got, count)
	}
}

// P11.1: all rows of up to four events, those that there aren't among them, from each phase, and in two parts as in one.
func TestWalkOfAll(t *testing.T) {
	m := arrows()
	for length := range 5 {
		rows([]int{-1, 0, 1, 2, 3, 4, 5, 6, 7, 8, 9}, length, func(events []int) {
			for phase := -1; phase <= 6; phase++ {
				checkWalk(t, m, phase, events)
				checkParts(t, phase, events)
			}
		})
	}
}

// P11.1: events that do nothing, or that there aren't, put between others leave the phase, and how many did anything.
func TestWalkOfIdleOnes(t *testing.T) {
	for phase := range 6 {
		rows([]int{Begin, Pause, Resume, Promote, Late, Abort, Done, Back}, 3, func(events []int) {
			want, count := Walk(phase, events...)
			at, padded := phase, []int(nil)
			for _, event := range append(slices.Clone(events), -1) {
				for _, idle := range append(noEvents(), Begin, Pause, Resume, Promote, Fail, Late, Abort, Done, Back) {
					if _, did := Next(at, idle); !did {
						padded = append(padded, idle)
					}
				}
				at, _ = Next(at, event)
				padded = append(padded, event)
			}
			if got, n := Walk(phase, padded...); got != want || n != count {
				t.Fatalf("Walk(%d, %v), with others between: %d, %d, want %d, %d", phase, events, got, n, want, count)
			}
		})
	}
}

// P11.1: long mixed rows, in one, and in two parts.
func TestWalkOfMany(t *testing.T) {
	m, mix := arrows(), mixer(11)
	for range 300 {
		events := make([]int, mix.below(200))
		for i := range events {
			events[i] = mix.below(10)
		}
		phase := mix.below(6)
		checkWalk(t, m, phase, events)
		checkParts(t, phase, events)
	}
	events := make([]int, 1<<20)
	for i := range events {
		events[i] = mix.below(11) - 1
	}
	checkWalk(t, m, api.Idle, events)
	checkWalk(t, m, -1, events)
	for i := range events {
		events[i] = Promote
	}
	if got, count := Walk(api.Running, events...); got != api.Running || count != 1<<20 {
		t.Errorf("all promotes: %d, %d", got, count)
	}
}

// P11.1: each phase's name, and none of others.
func TestName(t *testing.T) {
	for phase, want := range namesTold() {
		if got := Name(phase); got != want {
			t.Errorf("Name(%d): %q, want %q", phase, got, want)
		}
	}
	for _, phase := range noPhases() {
		if got := Name(phase); got != "" {
			t.Errorf("Name(%d): %q", phase, got)
		}
	}
}

// P11.1: each event's word, and none of others.
func TestWord(t *testing.T) {
	for event, want := range wordsTold() {
		if got := Word(event); got != want {
			t.Errorf("Word(%d): %q, want %q", event, got, want)
		}
	}
	for _, event := range noEvents() {
		if got := Word(event); got != "" {
			t.Errorf("Word(%d): %q", event, got)
		}
	}
}

// P11.1: each word's event, and back.
func TestOf(t *testing.T) {
	for want, word := range wordsTold() {
		if got, ok := Of(word); got != want || !ok {
			t.Errorf("Of(%q): %d, %t, want %d", word, got, ok, want)
		}
		if got, ok := Of(Word(want)); got != want || !ok {
			t.Errorf("Of of Word(%d): %d, %t", want, got, ok)
		}
	}
}

// noWords is texts that are no event's word: empty, a part of one, longer, in capitals, turned at a byte, two of them, the phases' names, and the events' other names.
func noWords() []string {
	l := []string{"", " ", "\x00", "-", "(word)", "fail", "late", "Fail", "Late", "roll", "none", "beginpause", "begin pause", "begin\x00", "begin\n", "\xff", strings.Repeat("begin", 1<<16), strings.Repeat("x", 1<<20)}
	l = append(l, namesTold()...)
	l = append(l, phasesTold()...)
	for i, word := range wordsTold() {
		l = append(l, strings.ToUpper(word), strings.ToUpper(word[:1])+word[1:], word+" ", " "+word, word+word, word+"s", "x"+word, word+wordsTold()[(i+1)%9], strconv.Itoa(i), word+strconv.Itoa(i))
		for cut := range word {
			l = append(l, word[:cut], word[cut+1:], word[:cut]+word[cut+1:], word[:cut]+"x"+word[cut+1:], word[:cut]+strings.ToUpper(word[cut:cut+1])+word[cut+1:], word[:cut]+" "+word[cut:])
		}
	}
	return l
}

// P11.1: of a text that is no event's word, false, and 0 beside it.
func TestOfOthers(t *testing.T) {
	for _, word := range noWords() {
		if slices.Contains(wordsTold(), word) {
			t.Fatalf("the tests' own words: %q", word)
		}
		if got, ok := Of(word); got != 0 || ok {
			t.Errorf("Of(%.100q): %d, %t", word, got, ok)
		}
	}
}

// P11.1: each phase is open, over, or neither.
func TestOpenAndOver(t *testing.T) {
	for phase, c := range []struct{ open, over bool }{{false, false}, {true, false}, {true, false}, {false, true}, {true, false}, {false, true}} {
		if Open(phase) != c.open || Over(phase) != c.over {
			t.Errorf("%s: open %t, over %t", Name(phase), Open(phase), Over(phase))
		}
	}
	for _, phase := range noPhases() {
		if Open(phase) || Over(phase) {
			t.Errorf("%d: open %t, over %t", phase, Open(phase), Over(phase))
		}
	}
}

// checkBetween holds Between against what is wanted.
func checkBetween(t *testing.T, from, to int, want []int) {
	t.Helper()
	if got := Between(from, to); !slices.Equal(got, want) {
		t.Errorf("Between(%d, %d): %v, want %v", from, to, got, want)
	}
}

// P11.1: each two phases, a phase and itself among them, against the chapter's table; rising.
func TestBetween(t *testing.T) {
	m := arrows()
	for from := range 6 {
		for to := range 6 {
			var want []int
			for event := range 9 {
				if at, ok := m[pair{from, event}]; ok && at == to {
					want = append(want, event)
				}
			}
			checkBetween(t, from, to, want)
		}
	}
}

// P11.1: the lists by hand: all that aren't empty.
func TestBetweenByHand(t *testing.T) {
	byHand := map[[2]int][]int{
		{api.Idle, api.Running}:           {Begin},
		{api.Running, api.Running}:        {Promote},
		{api.Running, api.Paused}:         {Pause},
		{api.Running, api.Complete}:       {Done},
		{api.Running, api.RollingBack}:    {Fail, Late, Abort},
		{api.Paused, api.Running}:         {Resume},
		{api.Paused, api.RollingBack}:     {Abort},
		{api.Complete, api.Running}:       {Begin},
		{api.RollingBack, api.RolledBack}: {Back},
		{api.RolledBack, api.Running}:     {Begin},
	}
	for from := range 6 {
		for to := range 6 {
			checkBetween(t, from, to, byHand[[2]int{from, to}])
		}
	}
}

// P11.1: between phases that there aren't, also between one of them and itself, no event leads.
func TestBetweenOthers(t *testing.T) {
	for _, other := range noPhases() {
		for _, phase := range numbers() {
			checkBetween(t, other, phase, nil)
			checkBetween(t, phase, other, nil)
		}
		checkBetween(t, other, other, nil)
	}
}

// P11.2: what leads to RollingBack, to Complete and to RolledBack, of all phases and events, and of others; and all that is told to, does.
func TestAlone(t *testing.T) {
	alone := map[int]map[pair]int{
		api.RollingBack: {{api.Running, Fail}: 1, {api.Running, Late}: 1, {api.Running, Abort}: 1, {api.Paused, Abort}: 1},
		api.Complete:    {{api.Running, Done}: 1},
		api.RolledBack:  {{api.RollingBack, Back}: 1},
	}
	for _, phase := range numbers() {
		for _, event := range numbers() {
			to, did := Next(phase, event)
			if !did {
				continue
			}
			if may := alone[to]; may != nil && may[pair{phase, event}] == 0 {
				t.Errorf("the event %d leads from %d to %d", event, phase, to)
			}
		}
	}
	for to, may := range alone {
		for p := range may {
			checkNext(t, p.phase, p.event, to, true)
		}
	}
}

// P11.2: by what Between tells of them.
func TestAloneBetween(t *testing.T) {
	for _, from := range numbers() {
		for _, event := range Between(from, api.RollingBack) {
			if event != Fail && event != Late && event != Abort {
				t.Errorf("to RollingBack from %d leads %d", from, event)
			}
		}
		if l := Between(from, api.Complete); len(l) != 0 && (from != api.Running || !slices.Equal(l, []int{Done})) {
			t.Errorf("to Complete from %d lead %v", from, l)
		}
		if l := Between(from, api.RolledBack); len(l) != 0 && (from != api.RollingBack || !slices.Equal(l, []int{Back})) {
			t.Errorf("to RolledBack from %d lead %v", from, l)
		}
	}
}

// P11.2: by walks: without Fail, Late and Abort none comes to RollingBack, nor to RolledBack; without Done none comes to Complete, without Back none to RolledBack; from Idle.
func TestAloneByWalks(t *testing.T) {
	for _, c := range []struct{ without, never []int }{
		{[]int{Fail, Late, Abort}, []int{api.RollingBack, api.RolledBack}},
		{[]int{Done}, []int{api.Complete}},
		{[]int{Back}, []int{api.RolledBack}},
	} {
		events := slices.DeleteFunc([]int{-1, 0, 1, 2, 3, 4, 5, 6, 7, 8, 9}, func(n int) bool { return slices.Contains(c.without, n) })
		rows(events, 5, func(row []int) {
			if got, _ := Walk(api.Idle, row...); slices.Contains(c.never, got) {
				t.Fatalf("Walk of %v: %d", row, got)
			}
		})
	}
}

// R4: the events that are handed in are neither changed nor kept, nor is what lies behind them.
func TestHandedIn(t *testing.T) {
	all := []int{Begin, Pause, Resume, Abort, Back, 77, -1, Done}
	as := slices.Clone(all)
	got, count := Walk(api.Idle, all[:5]...)
	if got != api.RolledBack || count != 5 || !slices.Equal(all, as) {
		t.Fatalf("%d, %d, and %v is left of %v", got, count, all, as)
	}
	clear(all)
	if again, n := Walk(api.Idle, as[:5]...); again != got || n != count {
		t.Errorf("%d, %d, once the list that was handed in is turned", again, n)
	}
}

// R4: a list that is answered is new memory: what is done to it, also behind its end, no later answer tells, nor one that was answered ahead of it.
func TestAnswered(t *testing.T) {
	for from := range 6 {
		for to := range 6 {
			first, second := Between(from, to), Between(from, to)
			want := slices.Clone(first)
			for i := range second {
				second[i] = -7
			}
			second = append(second, -8, -9)
			_ = append(second[:0], -5)
			if !slices.Equal(first, want) {
				t.Errorf("%d to %d: %v, want %v", from, to, first, want)
			}
			checkBetween(t, from, to, want)
		}
	}
	for phase := range 6 {
		for event := range 9 {
			want, did := nextTold(arrows(), phase, event)
			checkNext(t, phase, event, want, did)
		}
	}
}

// answers is all that the calls answer of these numbers, as a text.
func answers(numbers []int) string {
	var s strings.Builder
	for _, a := range numbers {
		fmt.Fprintln(&s, Name(a), Word(a), Open(a), Over(a))
		for _, b := range numbers {
			next, did := Next(a, b)
			end, count := Walk(a, b, a, b)
			fmt.Fprintln(&s, next, did, end, count, Between(a, b))
		}
	}
	for _, word := range append(wordsTold(), "", "none", "health ") {
		event, ok := Of(word)
		fmt.Fprintln(&s, event, ok)
	}
	return s.String()
}

// R6: nothing is kept: the same is answered each time, whatever was asked ahead of it, or beside it.
func TestOneAnswer(t *testing.T) {
	want := answers(numbers())
	turned := numbers()
	slices.Reverse(turned)
	answers(turned)
	got := make([]string, 4)
	var all sync.WaitGroup
	for i := range got {
		all.Go(func() { got[i] = answers(numbers()) })
	}
	all.Wait()
	for i := range got {
		if got[i] != want {
			t.Fatalf("the answers of the turn %d are others", i)
		}
	}
}
