package book

import (
	"fmt"
	"math"
	"slices"
	"strconv"
	"strings"
	"testing"

	"pacesetter/api"
	"pacesetter/record"
)

// last is the last time, in a number of the tests' own.
const last = 1 << 40

func lead(epoch, who, n, seq int) api.Record {
	return api.Record{Kind: api.Lead, Epoch: epoch, Who: who, N: n, Seq: seq}
}

func publish(epoch, n int, text string) api.Record {
	return api.Record{Kind: api.Publish, Epoch: epoch, N: n, Text: text}
}

func begin(epoch, n int, s api.Spec) api.Record {
	return api.Record{Kind: api.Begin, Epoch: epoch, N: n, Spec: s}
}

func move(epoch, n int, text string) api.Record {
	return api.Record{Kind: api.Move, Epoch: epoch, N: n, Text: text}
}

func intent(epoch, who, n, seq int) api.Record {
	return api.Record{Kind: api.Intent, Epoch: epoch, Who: who, N: n, Seq: seq}
}

func ack(epoch, who, seq int) api.Record {
	return api.Record{Kind: api.Ack, Epoch: epoch, Who: who, Seq: seq}
}

func step(epoch, who, n int, text string) api.Record {
	return api.Record{Kind: api.Step, Epoch: epoch, Who: who, N: n, Text: text}
}

// rolling is a spec of that version, without Steps.
func rolling(version int) api.Spec {
	return api.Spec{Version: version, Desired: 4, Surge: 1, Strategy: api.Rolling, Window: 5, Deadline: 50}
}

// canary is a spec of that version, with these Steps.
func canary(version int, steps ...int) api.Spec {
	s := rolling(version)
	s.Strategy = api.Canary
	copy(s.Steps[:], steps)
	return s
}

// arrow is where an event's word leads.
type arrow struct {
	from int
	word string
	to   int
}

// arrows is the chapter's table of events, as far as a Move may tell them.
var arrows = []arrow{
	{api.Running, "pause", api.Paused},
	{api.Running, "health", api.RollingBack},
	{api.Running, "deadline", api.RollingBack},
	{api.Running, "abort", api.RollingBack},
	{api.Running, "done", api.Complete},
	{api.Paused, "resume", api.Running},
	{api.Paused, "abort", api.RollingBack},
	{api.RollingBack, "back", api.RolledBack},
}

// moveWords is the words that a Move may have.
var moveWords = []string{"pause", "resume", "health", "deadline", "abort", "done", "back"}

// otherWords is words that a Move may not have: begin and promote are events' words, the others aren't.
var otherWords = []string{"begin", "promote", "passed", "Done", "done ", " done", "don", "x", "7"}

// told is a book as the chapter's words tell it: of all records that were applied. What it tells is found in these each time.
type told struct {
	margin  int
	applied []api.Record
}

// of is the records of that kind, in their row.
func (m *told) of(kinds ...int) []api.Record {
	var l []api.Record
	for _, r := range m.applied {
		if slices.Contains(kinds, r.Kind) {
			l = append(l, r)
		}
	}
	return l
}

// facts is what a book's records make.
type facts struct {
	margin  int
	view    View
	units   [16]api.Unit
	digests map[int]string
	history []api.Record
}

// facts is told for each thing on its own: by the last record that has a say in it, or by how many there are.
func (m *told) facts() facts {
	f := facts{margin: m.margin, digests: map[int]string{}}
	for _, r := range m.of(api.Lead) {
		if r.Epoch != f.view.Epoch {
			f.view.Until = 0
		}
		f.view.Epoch, f.view.Leader, f.view.Until = r.Epoch, r.Who, max(f.view.Until, min(r.N+r.Seq, last))
	}
	for _, r := range m.of(api.Publish) {
		f.digests[r.N] = r.Text
	}
	for _, r := range m.of(api.Begin, api.Move) {
		if r.Kind == api.Begin {
			f.view.Spec, f.view.Phase, f.view.Begun, f.view.From = r.Spec, api.Running, r.N, f.view.Stable
			continue
		}
		f.view.Phase = r.N
		if r.N == api.Complete {
			f.view.Stable = f.view.Spec.Version
		}
	}
	for _, r := range m.of(api.Begin, api.Step) {
		f.view.Step, f.view.Since = r.Who, r.N
	}
	f.view.Seq = len(m.of(api.Intent))
	for i := range f.units {
		f.units[i] = api.Unit{Done: true}
	}
	for _, r := range m.of(api.Intent, api.Ack) {
		if r.Kind == api.Intent {
			f.units[r.Who] = api.Unit{Version: r.N, Seq: r.Seq}
		} else {
			f.units[r.Who].Done = true
		}
	}
	f.history = m.of(api.Begin, api.Move, api.Step)
	f.history = f.history[max(0, len(f.history)-24):]
	return f
}

func (f facts) free(now int) bool {
	return f.view.Epoch == 0 || now >= min(f.view.Until+f.margin, last)
}

// leadErrors is the errors of a Lead.
func (f facts) leadErrors(r api.Record) []api.Errno {
	switch r.Epoch - f.view.Epoch {
	case 0:
		if r.Who != f.view.Leader || r.N >= f.view.Until {
			return []api.Errno{api.ErrLease}
		}
	case 1:
		if !f.free(r.N) {
			return []api.Errno{api.ErrLease}
		}
	default:
		return []api.Errno{api.ErrEpoch}
	}
	return nil
}

// leads tells whether the word of a Move leads from a phase to another one.
func leads(from int, word string, to int) bool {
	if word == "begin" {
		return to == api.Running && (from == api.Idle || from == api.Complete || from == api.RolledBack)
	}
	if word == "promote" {
		return from == api.Running && to == api.Running
	}
	return slices.Contains(arrows, arrow{from, word, to})
}

// stepCount is how many Steps the spec has: of one that may be all that aren't 0.
func stepCount(s api.Spec) int {
	n := 0
	for _, percent := range s.Steps {
		if percent != 0 {
			n++
		}
	}
	return n
}

// errors is all errors of the chapter's table that hold of the record, in their row.
func (f facts) errors(r api.Record) []api.Errno {
	var l []api.Errno
	add := func(holds bool, e api.Errno) {
		if holds {
			l = append(l, e)
		}
	}
	add(!record.Right(r), api.ErrArg)
	if r.Kind == api.Lead {
		return append(l, f.leadErrors(r)...)
	}
	v := f.view
	add(r.Epoch != v.Epoch, api.ErrEpoch)
	switch r.Kind {
	case api.Publish:
		_, there := f.digests[r.N]
		add(there, api.ErrThere)
		add(len(f.digests) >= 64, api.ErrFull)
	case api.Begin:
		_, there := f.digests[r.Spec.Version]
		add(v.Phase == api.Running || v.Phase == api.Paused || v.Phase == api.RollingBack, api.ErrState)
		add(!there, api.ErrNone)
		add(r.Spec.Version == v.Stable, api.ErrThere)
	case api.Move:
		add(!slices.Contains(moveWords, r.Text), api.ErrForm)
		add(!leads(v.Phase, r.Text, r.N), api.ErrState)
	case api.Intent:
		add(v.Phase != api.Running && v.Phase != api.RollingBack, api.ErrState)
		add(r.Seq != v.Seq+1, api.ErrRev)
		add(r.N != 0 && r.N != v.Spec.Version && r.N != v.From, api.ErrNone)
	case api.Ack:
		known := r.Who >= 0 && r.Who < 16
		add(known && r.Seq != f.units[r.Who&15].Seq, api.ErrRev)
		add(known && f.units[r.Who&15].Done, api.ErrState)
	case api.Step:
		add(v.Phase != api.Running, api.ErrState)
		add(r.Text != "passed" && r.Text != "promote", api.ErrForm)
		add(r.Who != v.Step+1 || r.Who > stepCount(v.Spec), api.ErrRev)
	}
	return l
}

// first is the first of the errors, or OK.
func first(l []api.Errno) api.Errno {
	if len(l) == 0 {
		return api.OK
	}
	return l[0]
}

func (m *told) apply(r api.Record) api.Errno {
	e := first(m.facts().errors(r))
	if e == api.OK {
		m.applied = append(m.applied, r)
	}
	return e
}

// books is a book of that margin, and what is told of it.
func books(margin int) (*Book, *told) {
	return New(margin), &told{margin: margin}
}

// holds holds all that the book tells against the facts.
func holds(t *testing.T, b *Book, f facts) {
	t.Helper()
	if v := b.View(); v != f.view {
		t.Fatalf("view %+v, told %+v", v, f.view)
	}
	if l := b.Units(); !slices.Equal(l, f.units[:]) {
		t.Fatalf("units %+v, told %+v", l, f.units)
	}
	if l := b.History(); !slices.Equal(l, f.history) {
		t.Fatalf("history %+v, told %+v", l, f.history)
	}
	var versions []int
	for version := range f.digests {
		versions = append(versions, version)
	}
	slices.Sort(versions)
	if l := b.Versions(); !slices.Equal(l, versions) {
		t.Fatalf("versions %v, told %v", l, versions)
	}
	for _, version := range append(versions, -1, 0, 1, 9, 1<<20, 1<<20+1, math.MinInt, math.MaxInt) {
		told, ok := f.digests[version]
		if digest, has := b.Digest(version); digest != told || has != ok {
			t.Fatalf("digest of %d: %q, %t, told %q, %t", version, digest, has, told, ok)
		}
	}
	until := f.view.Until
	for _, now := range []int{math.MinInt, -1, 0, until - 1, until, until + f.margin - 1, until + f.margin, until + f.margin + 1, last - 1, last, last + 1, math.MaxInt} {
		if b.Free(now) != f.free(now) {
			t.Fatalf("free at %d (%+v): %t", now, f.view, b.Free(now))
		}
	}
}

// probes is records that may come next, or just not, of a book in which there are these facts.
func probes(f facts) []api.Record {
	v, end := f.view, f.view.Until+f.margin
	var l []api.Record
	for _, epoch := range []int{v.Epoch - 1, v.Epoch, v.Epoch + 1, v.Epoch + 2} {
		for _, who := range []int{v.Leader, (v.Leader + 1) % 64} {
			for _, n := range []int{0, v.Until - 1, v.Until, end - 1, end, last} {
				l = append(l, lead(epoch, who, n, 1+n%7))
			}
		}
		for _, n := range []int{1, 2, 3, 9, v.Spec.Version, 1 << 20} {
			l = append(l, publish(epoch, n, "new"), begin(epoch, v.Until, rolling(n)), begin(epoch, 0, canary(n, 10, 50)))
		}
		for n := range 7 {
			for _, word := range slices.Concat(moveWords, otherWords) {
				l = append(l, move(epoch, n, word))
			}
		}
		for _, who := range []int{-1, 0, 1, 15, 16} {
			for _, seq := range []int{0, v.Seq - 1, v.Seq, v.Seq + 1, v.Seq + 2, f.units[who&15].Seq, f.units[who&15].Seq + 1} {
				l = append(l, ack(epoch, who, seq))
				for _, n := range []int{0, v.Spec.Version, v.From, v.Stable, 9} {
					l = append(l, intent(epoch, who, n, seq))
				}
			}
		}
		for who := range 6 {
			for _, word := range []string{"passed", "promote", "begin", "done", "health", "pass"} {
				l = append(l, step(epoch, who, v.Until, word))
			}
		}
	}
	return l
}

// probe asks of each of these records whether the book would refuse it.
func probe(t *testing.T, b *Book, f facts, l []api.Record) {
	t.Helper()
	for _, r := range l {
		if e, told := b.Check(r), first(f.errors(r)); e != told {
			t.Fatalf("check of %+v behind %+v: %d, told %d", r, f.view, e, told)
		}
	}
}

// apply applies the record to both, and holds them against each other.
func apply(t *testing.T, b *Book, m *told, r api.Record) {
	t.Helper()
	if e, told := b.Check(r), m.apply(r); e != told {
		t.Fatalf("check of %+v behind %+v: %d, told %d", r, b.View(), e, told)
	} else if did := b.Apply(r); did != e {
		t.Fatalf("apply of %+v: %d, but check %d", r, did, e)
	}
	holds(t, b, m.facts())
}

// through is a book of these records, each of which has to be applied.
func through(t *testing.T, margin int, l ...api.Record) *Book {
	t.Helper()
	b := New(margin)
	for i, r := range l {
		if e := b.Apply(r); e != api.OK {
			t.Fatalf("record %d, %+v: %d", i, r, e)
		}
	}
	return b
}

// toldOf is what is told of a book of these records, all of which are applied.
func toldOf(margin int, l ...api.Record) facts {
	return (&told{margin, l}).facts()
}

// opening is a Lead of the leader 3, until 100, and the digests of the versions 1, 2 and 3.
func opening() []api.Record {
	return []api.Record{lead(1, 3, 0, 100), publish(1, 1, "one"), publish(1, 2, "two"), publish(1, 3, "three")}
}

// toPhase is records that lead to that phase, from Idle, Complete or RolledBack on, with that spec.
func toPhase(to int, s api.Spec) []api.Record {
	l := []api.Record{begin(1, 20, s)}
	switch to {
	case api.Idle:
		return nil
	case api.Paused:
		l = append(l, move(1, api.Paused, "pause"))
	case api.Complete:
		l = append(l, move(1, api.Complete, "done"))
	case api.RollingBack:
		l = append(l, move(1, api.RollingBack, "abort"))
	case api.RolledBack:
		l = append(l, move(1, api.RollingBack, "health"), move(1, api.RolledBack, "back"))
	}
	return l
}

// inPhases is records for each phase: that lead there from a book that is new, and from one in which 1 is stable (the phase Idle has but the first).
func inPhases() [][]api.Record {
	var rows [][]api.Record
	for to := api.Idle; to <= api.RolledBack; to++ {
		rows = append(rows, append(opening(), toPhase(to, canary(2, 10, 50))...))
		stable := append(opening(), toPhase(api.Complete, rolling(1))...)
		rows = append(rows, append(stable, toPhase(to, canary(2, 10, 50, 90, 100))...))
	}
	return rows
}

// wrong is records that are not right, though all else that a book asks may hold of them.
func wrong() []api.Record {
	bad, extra, long := rolling(1), begin(1, 0, rolling(1)), strings.Repeat("x", 65)
	bad.Desired = 17
	extra.Text = "x"
	l := []api.Record{
		{}, {Kind: -1, Epoch: 1}, {Kind: 8, Epoch: 1}, {Kind: math.MaxInt, Epoch: 1}, {Kind: 1<<32 + 1, Epoch: 1, Seq: 1},
		lead(0, 3, 0, 1), lead(-1, 3, 0, 1), lead(last+1, 3, 0, 1), lead(1<<32+1, -3, 0, 1),
		lead(1, -1, 0, 1), lead(1, 64, 0, 1), lead(1, 3, -1, 1), lead(1, 3, last+1, 1), lead(1, 3, 0, 0), lead(1, 3, 0, 1<<20+1),
		lead(2, 64, 500, 1), lead(2, 3, last+1, 1), lead(2, 3, 500, 0), lead(2, 3, 500, 1<<20+1),
		publish(1, 0, "x"), publish(1, -1, "x"), publish(1, 1<<20+1, "x"), publish(1, 9, ""), publish(1, 9, long),
		begin(1, -1, rolling(1)), begin(1, last+1, rolling(1)), begin(1, 0, bad), begin(1, 0, api.Spec{}), extra,
		move(1, 0, "pause"), move(1, 6, "pause"), move(1, -1, "pause"), move(1, 2, ""), move(1, 2, long),
		intent(1, -1, 0, 1), intent(1, 16, 0, 1), intent(1, 0, -1, 1), intent(1, 0, 1<<20+1, 1), intent(1, 0, 0, 0), intent(1, 0, 0, last+1),
		ack(1, -1, 1), ack(1, 16, 1), ack(1, 0, 0), ack(1, 0, last+1),
		step(1, 0, 0, "passed"), step(1, 5, 0, "passed"), step(1, 1, -1, "passed"), step(1, 1, last+1, "passed"), step(1, 1, 0, ""), step(1, 1, 0, long),
	}
	for _, r := range []api.Record{lead(1, 3, 0, 1), publish(1, 9, "x"), move(1, 2, "pause"), intent(1, 0, 0, 1), ack(1, 0, 1), step(1, 1, 0, "passed")} {
		r.Spec.Version = 1
		l = append(l, r)
	}
	for _, r := range []api.Record{publish(1, 9, "x"), begin(1, 0, rolling(1)), move(1, 2, "pause"), step(1, 1, 0, "passed")} {
		r.Seq = 1
		l = append(l, r)
	}
	return l
}

// P12.1: the chapter's example.
func TestExample(t *testing.T) {
	b := through(t, 0, lead(1, 0, 0, 10), publish(1, 1, "a"), begin(1, 0, rolling(1)))
	if v := b.View(); v.Stable != 0 || v.Phase != api.Running {
		t.Fatalf("%+v", v)
	}
	if e := b.Apply(move(1, api.Complete, "done")); e != api.OK {
		t.Fatal(e)
	}
	if v := b.View(); v.Stable != 1 || v.Phase != api.Complete {
		t.Fatalf("%+v", v)
	}
}

// P12.1: a book of no records, of whatever margin, and one that New didn't make.
func TestNew(t *testing.T) {
	for _, margin := range []int{0, 1, 1 << 20, 1<<20 + 1, math.MaxInt, -1, math.MinInt} {
		b, m := books(margin)
		if b == nil {
			t.Fatal("none")
		}
		holds(t, b, m.facts())
		probe(t, b, m.facts(), probes(m.facts()))
	}
	holds(t, &Book{}, facts{units: toldOf(0).units})
	if b := (&Book{}); b.Apply(lead(1, 0, 0, 5)) != api.OK || !Same(b, through(t, 0, lead(1, 0, 0, 5))) {
		t.Error("the zero book")
	}
	if u := New(0).Units(); len(u) != 16 || u[0] != (api.Unit{Done: true}) || u[15] != (api.Unit{Done: true}) {
		t.Error(u)
	}
}

// P12.1: a margin is cut as layer 9 does.
func TestMargin(t *testing.T) {
	for _, x := range []struct{ margin, from int }{{0, 10}, {1, 11}, {5, 15}, {1 << 20, 1<<20 + 10}, {1<<20 + 1, 1<<20 + 10}, {math.MaxInt, 1<<20 + 10}, {-1, 10}, {math.MinInt, 10}} {
		b := through(t, x.margin, lead(1, 3, 0, 10))
		if b.Free(x.from-1) || !b.Free(x.from) {
			t.Errorf("margin %d: not free from %d on", x.margin, x.from)
		}
		if e := b.Check(lead(2, 4, x.from-1, 1)); e != api.ErrLease {
			t.Errorf("margin %d: taken early: %d", x.margin, e)
		}
		if e := b.Apply(lead(2, 4, x.from, 1)); e != api.OK {
			t.Errorf("margin %d: not taken: %d", x.margin, e)
		}
	}
}

// P12.1, R7: each call of a nil book.
func TestNil(t *testing.T) {
	var b *Book
	for _, r := range append(opening(), wrong()...) {
		if b.Check(r) != api.ErrArg || b.Apply(r) != api.ErrArg {
			t.Errorf("%+v", r)
		}
	}
	if b.View() != (View{}) || len(b.Units()) != 0 || len(b.Versions()) != 0 || len(b.History()) != 0 {
		t.Error("not none")
	}
	for _, n := range []int{-1, 0, 1, last, math.MaxInt} {
		if digest, ok := b.Digest(n); digest != "" || ok || b.Free(n) {
			t.Error(n)
		}
	}
	if !Same(nil, nil) || !Same(b, New(7)) || !Same(New(7), nil) || Same(nil, through(t, 0, lead(1, 0, 0, 1))) || Same(through(t, 0, lead(1, 0, 0, 1)), nil) {
		t.Error("same")
	}
}

// P12.1, R1, R3: a record that isn't right is refused with ErrArg ahead of all else, and changes nothing.
func TestNotRight(t *testing.T) {
	rows := append(inPhases(), nil)
	for _, row := range rows {
		b, f := through(t, 5, row...), toldOf(5, row...)
		for _, r := range wrong() {
			if record.Right(r) {
				t.Fatalf("%+v is right", r)
			}
			if e := b.Check(r); e != api.ErrArg {
				t.Errorf("check of %+v: %d", r, e)
			}
			if e := b.Apply(r); e != api.ErrArg {
				t.Errorf("apply of %+v: %d", r, e)
			}
		}
		holds(t, b, f)
	}
}

// P12.1: a Lead of the book's epoch.
func TestLeadRenews(t *testing.T) {
	for _, x := range []struct {
		r     api.Record
		e     api.Errno
		until int
	}{
		{lead(1, 3, 5, 10), api.OK, 20}, // layer 9: no sooner than it was
		{lead(1, 3, 10, 10), api.OK, 20},
		{lead(1, 3, 10, 11), api.OK, 21},
		{lead(1, 3, 19, 1), api.OK, 20},
		{lead(1, 3, 19, 1<<20), api.OK, 1<<20 + 19},
		{lead(1, 3, 0, 30), api.OK, 30},
		{lead(1, 3, 20, 10), api.ErrLease, 20},
		{lead(1, 3, 24, 10), api.ErrLease, 20},
		{lead(1, 3, 25, 10), api.ErrLease, 20},
		{lead(1, 4, 12, 10), api.ErrLease, 20},
		{lead(1, 2, 19, 1), api.ErrLease, 20},
		{lead(1, 4, 25, 10), api.ErrLease, 20},
		{lead(1, 0, 30, 10), api.ErrLease, 20},
	} {
		b := through(t, 5, lead(1, 3, 10, 10))
		if c, e := b.Check(x.r), b.Apply(x.r); c != x.e || e != x.e {
			t.Errorf("%+v: %d, %d", x.r, c, e)
		}
		if v := b.View(); v != (View{Epoch: 1, Leader: 3, Until: x.until}) {
			t.Errorf("%+v: %+v", x.r, v)
		}
	}
}

// P12.1: a Lead of the next epoch, and of epochs below the book's and further on.
func TestLeadTakes(t *testing.T) {
	for _, x := range []struct {
		r api.Record
		e api.Errno
	}{
		{lead(2, 4, 25, 7), api.OK},
		{lead(2, 3, 25, 7), api.OK},
		{lead(2, 0, 26, 7), api.OK},
		{lead(2, 4, last, 7), api.OK},
		{lead(2, 4, 24, 7), api.ErrLease},
		{lead(2, 3, 24, 7), api.ErrLease},
		{lead(2, 4, 20, 7), api.ErrLease},
		{lead(2, 3, 19, 7), api.ErrLease},
		{lead(2, 4, 0, 7), api.ErrLease},
		{lead(3, 4, 25, 7), api.ErrEpoch},
		{lead(3, 3, 19, 7), api.ErrEpoch},
		{lead(last, 4, 25, 7), api.ErrEpoch},
		{lead(1<<32+2, 4, 25, 7), api.ErrEpoch},
	} {
		b, until := through(t, 5, lead(1, 3, 10, 10)), min(x.r.N+x.r.Seq, last)
		if c, e := b.Check(x.r), b.Apply(x.r); c != x.e || e != x.e {
			t.Errorf("%+v: %d, %d", x.r, c, e)
		}
		told := View{Epoch: 1, Leader: 3, Until: 20}
		if x.e == api.OK {
			told = View{Epoch: 2, Leader: x.r.Who, Until: until}
		}
		if v := b.View(); v != told {
			t.Errorf("%+v: %+v", x.r, v)
		}
	}
	b := through(t, 5, lead(1, 3, 10, 10), lead(2, 4, 25, 7))
	for _, r := range []api.Record{lead(1, 3, 19, 1), lead(1, 3, 26, 1), lead(1, 4, 26, 1), lead(4, 4, 40, 1)} {
		if e := b.Apply(r); e != api.ErrEpoch {
			t.Errorf("%+v: %d", r, e)
		}
	}
	if e := New(5).Apply(lead(2, 3, 0, 1)); e != api.ErrEpoch {
		t.Errorf("epoch 2 of a book of no records: %d", e)
	}
}

// P12.1: a lease at the last time.
func TestLastTime(t *testing.T) {
	b := through(t, 5, lead(1, 3, last-1, 1<<20))
	if v := b.View(); v.Until != last {
		t.Fatalf("%+v", v)
	}
	if b.Free(last-1) || !b.Free(last) {
		t.Error("free")
	}
	for i, x := range []struct {
		r api.Record
		e api.Errno
	}{{lead(1, 3, last-1, 5), api.OK}, {lead(1, 3, last, 5), api.ErrLease}, {lead(2, 4, last, 5), api.OK}, {lead(2, 4, last, 5), api.ErrLease}, {lead(2, 4, last-1, 5), api.OK}, {lead(3, 4, last, 1), api.OK}} {
		if e := b.Apply(x.r); e != x.e {
			t.Errorf("%d: %d", i, e)
		}
	}
}

// P12.1: records of all other kinds, of an epoch that isn't the book's.
func TestEpochOfOthers(t *testing.T) {
	row := append(opening(), begin(1, 1, canary(2, 10)), intent(1, 0, 2, 1))
	next := []api.Record{publish(1, 9, "nine"), move(1, api.Paused, "pause"), intent(1, 1, 2, 2), ack(1, 0, 1), step(1, 1, 5, "passed")}
	for _, r := range next {
		b := through(t, 0, row...)
		for _, epoch := range []int{2, 3, last, 1<<32 + 1} {
			other := r
			other.Epoch = epoch
			if e := b.Apply(other); e != api.ErrEpoch {
				t.Errorf("%+v: %d", other, e)
			}
		}
		if e := b.Apply(r); e != api.OK {
			t.Errorf("%+v: %d", r, e)
		}
		taken := through(t, 0, append(row, lead(2, 4, 100, 9))...)
		if e := taken.Apply(r); e != api.ErrEpoch {
			t.Errorf("%+v behind another Lead: %d", r, e)
		}
		if e := New(0).Apply(r); e != api.ErrEpoch {
			t.Errorf("%+v of no records: %d", r, e)
		}
	}
	idle := through(t, 0, append(opening(), lead(2, 4, 100, 9))...)
	if e := idle.Apply(begin(1, 0, rolling(1))); e != api.ErrEpoch {
		t.Error(e)
	}
	if e := idle.Apply(begin(2, 0, rolling(1))); e != api.OK {
		t.Error(e)
	}
}

// P12.1, P12.2: a version that has a digest, and where no more fit.
func TestPublish(t *testing.T) {
	b, m := books(0)
	apply(t, b, m, lead(1, 0, 0, 10))
	for i := range 64 {
		apply(t, b, m, publish(1, 1<<20-17*i, "digest "+strconv.Itoa(i)))
		for _, text := range []string{"digest " + strconv.Itoa(i), "another one"} {
			if e := b.Apply(publish(1, 1<<20-17*i, text)); e != api.ErrThere {
				t.Fatalf("%d again: %d", i, e)
			}
		}
		holds(t, b, m.facts())
	}
	for _, n := range []int{1, 2, 1<<20 - 1} {
		if c, e := b.Check(publish(1, n, "x")), b.Apply(publish(1, n, "x")); c != api.ErrFull || e != api.ErrFull {
			t.Errorf("%d: %d, %d", n, c, e)
		}
	}
	if e := b.Apply(publish(1, 1<<20, "x")); e != api.ErrThere {
		t.Errorf("there, and full: %d", e)
	}
	holds(t, b, m.facts())
	if l := b.Versions(); len(l) != 64 || l[0] != 1<<20-17*63 || l[63] != 1<<20 {
		t.Error(l)
	}
}

// P12.1: versions rise as numbers, not as texts; a digest has any bytes.
func TestVersions(t *testing.T) {
	b := through(t, 0, lead(1, 0, 0, 10), publish(1, 10, "ten"), publish(1, 9, "\x00\xff nine"), publish(1, 100, strings.Repeat("h", 64)), publish(1, 1, "1"), publish(1, 1<<20, "most"))
	if l := b.Versions(); !slices.Equal(l, []int{1, 9, 10, 100, 1 << 20}) {
		t.Error(l)
	}
	for _, x := range []struct {
		version int
		digest  string
		ok      bool
	}{{10, "ten", true}, {9, "\x00\xff nine", true}, {100, strings.Repeat("h", 64), true}, {1, "1", true}, {1 << 20, "most", true}, {0, "", false}, {-1, "", false}, {2, "", false}, {-10, "", false}, {1<<32 + 1, "", false}, {math.MinInt, "", false}} {
		if digest, ok := b.Digest(x.version); digest != x.digest || ok != x.ok {
			t.Errorf("%d: %q, %t", x.version, digest, ok)
		}
	}
}

// P12.1: Begin in each phase, of a version without a digest, of the stable one, and of others; and what is behind it.
func TestBegin(t *testing.T) {
	open := []int{api.Running, api.Paused, api.RollingBack}
	for _, row := range inPhases() {
		f := toldOf(5, row...)
		for version := 1; version <= 4; version++ {
			b, r := through(t, 5, row...), begin(1, 77, canary(version, 10, 20, 30))
			e := api.OK
			switch {
			case slices.Contains(open, f.view.Phase):
				e = api.ErrState
			case version == 4:
				e = api.ErrNone
			case version == f.view.Stable:
				e = api.ErrThere
			}
			if c, did := b.Check(r), b.Apply(r); c != e || did != e {
				t.Fatalf("version %d in phase %d: %d, %d, told %d", version, f.view.Phase, c, did, e)
			}
			if e == api.OK {
				told := View{Epoch: 1, Leader: 3, Until: 100, Stable: f.view.Stable, From: f.view.Stable, Phase: api.Running, Since: 77, Begun: 77, Seq: f.view.Seq, Spec: r.Spec}
				if v := b.View(); v != told {
					t.Errorf("%+v, told %+v", v, told)
				}
			}
		}
	}
}

// P12.1: a Begin behind a rollout that had come to some step keeps units and sequence number, and nothing else of it.
func TestBeginAgain(t *testing.T) {
	row := append(opening(), begin(1, 1, canary(1, 10, 20)), intent(1, 4, 1, 1), ack(1, 4, 1), step(1, 1, 8, "passed"), intent(1, 5, 1, 2), step(1, 2, 9, "promote"), move(1, api.Complete, "done"))
	b := through(t, 0, row...)
	if v := b.View(); v.Step != 2 || v.Since != 9 || v.Begun != 1 || v.From != 0 || v.Stable != 1 || v.Seq != 2 || v.Spec != canary(1, 10, 20) {
		t.Errorf("%+v", v)
	}
	if e := b.Apply(begin(1, 4, canary(3, 40))); e != api.OK {
		t.Fatal(e)
	}
	if v := b.View(); v.Step != 0 || v.Since != 4 || v.Begun != 4 || v.From != 1 || v.Stable != 1 || v.Seq != 2 || v.Spec != canary(3, 40) {
		t.Errorf("%+v", v)
	}
	if u := b.Units(); u[4] != (api.Unit{Version: 1, Seq: 1, Done: true}) || u[5] != (api.Unit{Version: 1, Seq: 2}) || u[6] != (api.Unit{Done: true}) {
		t.Error(u)
	}
	if e := b.Apply(step(1, 2, 9, "passed")); e != api.ErrRev {
		t.Error(e)
	}
	if e := b.Apply(move(1, api.RollingBack, "deadline")); e != api.OK {
		t.Error(e)
	}
	if v := b.View(); v.Stable != 1 || v.From != 1 || v.Spec.Version != 3 || v.Since != 4 {
		t.Errorf("%+v", v)
	}
}

// P12.1, P12.2: Move by each word, those of begin and promote and those that there aren't among them, from each phase to each phase.
func TestMove(t *testing.T) {
	for _, row := range inPhases() {
		f := toldOf(5, row...)
		for to := api.Running; to <= api.RolledBack; to++ {
			for _, word := range slices.Concat(moveWords, otherWords) {
				b, r, v := through(t, 5, row...), move(1, to, word), f.view
				e := api.ErrState
				if slices.Contains(otherWords, word) {
					e = api.ErrForm
				} else if slices.Contains(arrows, arrow{v.Phase, word, to}) {
					e = api.OK
				}
				if c, did := b.Check(r), b.Apply(r); c != e || did != e {
					t.Fatalf("%s from %d to %d: %d, %d, told %d", word, v.Phase, to, c, did, e)
				}
				if e != api.OK {
					holds(t, b, f)
					continue
				}
				v.Phase = to
				if to == api.Complete {
					v.Stable = 2
				}
				if b.View() != v {
					t.Fatalf("%s from %d to %d: %+v, told %+v", word, f.view.Phase, to, b.View(), v)
				}
			}
		}
	}
}

// P12.1: Intent in each phase, with numbers in their turn and out of it, of each version.
func TestIntent(t *testing.T) {
	for _, row := range inPhases() {
		f := toldOf(5, row...)
		may := f.view.Phase == api.Running || f.view.Phase == api.RollingBack
		for _, seq := range []int{1, 2, 3, last} {
			for _, n := range []int{0, 1, 2, 3, 9, 1 << 20} {
				b, r := through(t, 5, row...), intent(1, 15, n, seq)
				e := api.OK
				switch {
				case !may:
					e = api.ErrState
				case seq != 1:
					e = api.ErrRev
				case n != 0 && n != 2 && n != f.view.From:
					e = api.ErrNone
				}
				if c, did := b.Check(r), b.Apply(r); c != e || did != e {
					t.Fatalf("%+v in phase %d, from %d: %d, %d, told %d", r, f.view.Phase, f.view.From, c, did, e)
				}
				if u := b.Units()[15]; e == api.OK && (u != api.Unit{Version: n, Seq: 1} || b.View().Seq != 1) {
					t.Fatalf("%+v: %+v", r, u)
				}
			}
		}
	}
}

// P12.1: an Intent of a unit that has one already, whether that is done or not; numbers are one row over all units.
func TestIntentAgain(t *testing.T) {
	b := through(t, 0, append(opening(), begin(1, 1, rolling(2)), intent(1, 0, 2, 1), intent(1, 0, 0, 2), intent(1, 7, 2, 3), ack(1, 7, 3), intent(1, 7, 0, 4))...)
	u := b.Units()
	if u[0] != (api.Unit{Version: 0, Seq: 2}) || u[7] != (api.Unit{Version: 0, Seq: 4}) || b.View().Seq != 4 {
		t.Error(u, b.View())
	}
	for _, x := range []struct {
		r api.Record
		e api.Errno
	}{{intent(1, 1, 2, 4), api.ErrRev}, {intent(1, 0, 2, 3), api.ErrRev}, {intent(1, 1, 2, 6), api.ErrRev}, {intent(1, 1, 2, 1), api.ErrRev}, {intent(1, 1, 2, 5), api.OK}, {intent(1, 1, 2, 5), api.ErrRev}} {
		if e := b.Apply(x.r); e != x.e {
			t.Errorf("%+v: %d", x.r, e)
		}
	}
}

// P12.1: Ack of the right number, of another one, and twice, in whatever phase.
func TestAck(t *testing.T) {
	row := append(opening(), begin(1, 1, rolling(2)), intent(1, 0, 2, 1), intent(1, 15, 2, 2), intent(1, 0, 0, 3))
	for _, more := range [][]api.Record{nil, {move(1, api.Paused, "pause")}, {move(1, api.Complete, "done")}, {move(1, api.RollingBack, "abort")}, {move(1, api.RollingBack, "abort"), move(1, api.RolledBack, "back")}} {
		b := through(t, 0, append(slices.Clone(row), more...)...)
		for i, x := range []struct {
			r api.Record
			e api.Errno
		}{
			{ack(1, 0, 1), api.ErrRev}, {ack(1, 0, 2), api.ErrRev}, {ack(1, 0, 4), api.ErrRev}, {ack(1, 15, 3), api.ErrRev}, {ack(1, 1, 1), api.ErrRev},
			{ack(1, 0, 3), api.OK}, {ack(1, 0, 3), api.ErrState}, {ack(1, 0, 1), api.ErrRev}, {ack(1, 15, 2), api.OK}, {ack(1, 15, 2), api.ErrState}, {ack(1, 15, last), api.ErrRev},
		} {
			if c, e := b.Check(x.r), b.Apply(x.r); c != x.e || e != x.e {
				t.Errorf("%d: %d, %d", i, c, e)
			}
		}
		if u := b.Units(); u[0] != (api.Unit{Seq: 3, Done: true}) || u[15] != (api.Unit{Version: 2, Seq: 2, Done: true}) || u[1] != (api.Unit{Done: true}) {
			t.Error(u)
		}
	}
}

// P12.1: Step in each phase, by each word, of the next step and of others, up to the last one and past it.
func TestStep(t *testing.T) {
	for count := range 5 {
		s := canary(2, []int{10, 20, 30, 100}[:count]...)
		if count == 0 {
			s = rolling(2)
		}
		for phase := api.Idle; phase <= api.RolledBack; phase++ {
			for ahead := 0; ahead <= count; ahead++ {
				testSteps(t, s, phase, ahead)
			}
		}
	}
}

// testSteps is of a rollout with so many steps behind it.
func testSteps(t *testing.T, s api.Spec, phase, ahead int) {
	t.Helper()
	row := opening()
	if to := toPhase(phase, s); len(to) > 0 {
		row = append(row, to[0])
		for i := range ahead {
			row = append(row, step(1, i+1, 30+i, []string{"passed", "promote"}[i%2]))
		}
		row = append(row, to[1:]...)
	}
	for who := 1; who <= 4; who++ {
		for _, word := range []string{"passed", "promote", "begin", "done", "health", "Passed", "passed "} {
			b, r := through(t, 0, row...), step(1, who, 60, word)
			e, v := api.OK, b.View()
			switch {
			case phase != api.Running:
				e = api.ErrState
			case word != "passed" && word != "promote":
				e = api.ErrForm
			case who != ahead+1 || who > stepCount(s):
				e = api.ErrRev
			default:
				v.Step, v.Since = who, 60
			}
			if c, did := b.Check(r), b.Apply(r); c != e || did != e || b.View() != v {
				t.Fatalf("%+v in phase %d, at %d of %v: %d, %d, told %d", r, phase, ahead, s.Steps, c, did, e)
			}
		}
	}
}

// P12.1: the history of 23, 24, 25 and more: Begins, Moves and Steps, and none of the others.
func TestHistory(t *testing.T) {
	b, m := books(0)
	var all []api.Record
	for _, r := range opening() {
		apply(t, b, m, r)
	}
	tell := func(r api.Record) {
		apply(t, b, m, r)
		all = append(all, r)
		if l := b.History(); !slices.Equal(l, all[max(0, len(all)-24):]) {
			t.Fatalf("of %d: %d, %v", len(all), len(l), l)
		}
	}
	for i := 0; len(all) < 23; i++ {
		tell(begin(1, i, canary(1+i%3, 50)))
		apply(t, b, m, intent(1, i%16, 0, i+1))
		tell(step(1, 1, i, "passed"))
		apply(t, b, m, ack(1, i%16, i+1))
		apply(t, b, m, lead(1, 3, i, 1))
		tell(move(1, api.RollingBack, "abort"))
		apply(t, b, m, publish(1, 10+i, "x"))
		if len(all) < 23 {
			tell(move(1, api.RolledBack, "back"))
		}
	}
	if len(all) != 23 {
		t.Fatal(len(all))
	}
	tell(move(1, api.RolledBack, "back"))
	for i := range 30 {
		tell(begin(1, 50+i, rolling(1)))
		if e := b.Apply(begin(1, 0, rolling(2))); e != api.ErrState {
			t.Fatal(e)
		}
		tell(move(1, api.Paused, "pause"))
		tell(move(1, api.RollingBack, "abort"))
		tell(move(1, api.RolledBack, "back"))
	}
}

// mixed is a row of records of all kinds, some of which are applied and some refused, told by numbers.
func mixed(mix *mixer, margin, length int) []api.Record {
	m, l := &told{margin: margin}, []api.Record{lead(1, 3, 0, 100)}
	m.apply(l[0])
	for len(l) < length {
		r := mix.record(m.facts())
		m.apply(r)
		l = append(l, r)
	}
	return l
}

// mixer tells numbers, the same ones each time.
type mixer struct{ state uint64 }

func (x *mixer) below(n int) int {
	x.state = x.state*6364136223846793005 + 1442695040888963407
	return int(x.state >> 33 % uint64(n))
}

// near is the number, or one beside it.
func (x *mixer) near(n int) int {
	if x.below(6) > 0 {
		return n
	}
	return n + x.below(3) - 1
}

// record is one that may be next, or nearly so.
func (x *mixer) record(f facts) api.Record {
	v := f.view
	epoch := x.near(v.Epoch)
	switch x.below(12) {
	case 0:
		return lead(epoch, x.near(v.Leader), max(0, v.Until-x.below(9)), 1+x.below(20))
	case 1:
		return lead(epoch+1, x.below(4), x.near(v.Until+f.margin), 1+x.below(20))
	case 2:
		return publish(epoch, 1+x.below(5), "d"+strconv.Itoa(x.below(3)))
	case 3, 4:
		return begin(epoch, v.Until, [...]api.Spec{rolling(1 + x.below(5)), canary(1+x.below(5), 5), canary(1+x.below(5), 20, 40, 60, 80)}[x.below(3)])
	case 5, 6:
		return x.move(epoch, v.Phase)
	case 7, 8:
		return intent(epoch, x.below(16), [...]int{0, v.Spec.Version, v.From, x.below(5)}[x.below(4)], x.near(v.Seq+1))
	case 9:
		who := x.below(16)
		return ack(epoch, who, x.near(f.units[who].Seq))
	case 10:
		return step(epoch, x.near(v.Step+1), v.Until, [...]string{"passed", "promote", "done"}[x.below(3)])
	}
	l := wrong()
	return l[x.below(len(l))]
}

// move is a Move that leads on from the phase mostly.
func (x *mixer) move(epoch, phase int) api.Record {
	if x.below(4) == 0 {
		l := slices.Concat(moveWords, otherWords)
		return move(epoch, 1+x.below(5), l[x.below(len(l))])
	}
	var l []arrow
	for _, a := range arrows {
		if a.from == phase {
			l = append(l, a)
		}
	}
	if len(l) == 0 {
		return move(epoch, api.Running, "resume")
	}
	a := l[x.below(len(l))]
	return move(epoch, a.to, a.word)
}

// P12.1, R1: of each kind each error that the table names, alone, and several at once.
func TestErrors(t *testing.T) {
	seen := map[string]bool{}
	look := func(margin int, row []api.Record) {
		b, f := through(t, margin, row...), toldOf(margin, row...)
		l := probes(f)
		probe(t, b, f, l)
		for _, r := range l {
			seen[fmt.Sprint(record.Name(r.Kind), f.errors(r))] = true
		}
		holds(t, b, f)
	}
	full := []api.Record{lead(1, 0, 0, 9)}
	for i := range 64 {
		full = append(full, publish(1, 1+i%2+2*i, "x"))
	}
	look(2, full)
	for _, row := range inPhases() {
		look(5, row)
		phase := toldOf(5, row...).view.Phase
		if phase == api.Running {
			look(0, append(slices.Clone(row), step(1, 1, 9, "passed"), intent(1, 0, 2, 1), intent(1, 1, 0, 2), ack(1, 1, 2)))
			look(0, append(slices.Clone(row), intent(1, 0, 2, 1), ack(1, 0, 1), move(1, api.Paused, "pause")))
		}
	}
	for _, x := range toldErrors() {
		if !seen[x] {
			t.Errorf("never seen: %s", x)
		}
	}
}

// toldErrors is each kind with each of its errors, alone and together, but for those that rule each other out; ErrArg, which is ahead of all, has a test of its own.
func toldErrors() []string {
	l := []string{"lead[]", "lead[8]", "lead[9]"}
	for kind, rows := range map[string][][]api.Errno{
		"publish": {{api.ErrThere}, {api.ErrFull}, {api.ErrThere, api.ErrFull}},
		"begin":   {{api.ErrState}, {api.ErrNone}, {api.ErrThere}, {api.ErrState, api.ErrNone}, {api.ErrState, api.ErrThere}},
		"move":    {{api.ErrForm}, {api.ErrState}, {api.ErrForm, api.ErrState}},
		"intent":  subsets(api.ErrState, api.ErrRev, api.ErrNone),
		"ack":     {{api.ErrRev}, {api.ErrState}, {api.ErrRev, api.ErrState}},
		"step":    subsets(api.ErrState, api.ErrForm, api.ErrRev),
	} {
		for _, row := range append(rows, nil) {
			l = append(l, fmt.Sprint(kind, row), fmt.Sprint(kind, append([]api.Errno{api.ErrEpoch}, row...)))
		}
	}
	return l
}

// subsets is all rows of one or more of three errors.
func subsets(a, b, c api.Errno) [][]api.Errno {
	return [][]api.Errno{{a}, {b}, {c}, {a, b}, {a, c}, {b, c}, {a, b, c}}
}

// P12.1: all short rows of some records.
func TestShortRows(t *testing.T) {
	alphabet := []api.Record{
		lead(1, 3, 0, 10), lead(1, 3, 9, 5), lead(2, 4, 12, 10), lead(2, 3, 16, 4),
		publish(1, 1, "a"), publish(1, 1, "b"), publish(2, 2, "c"),
		begin(1, 1, canary(1, 10)), begin(2, 2, rolling(2)),
		move(1, api.Complete, "done"), move(1, api.RollingBack, "abort"),
		intent(1, 0, 1, 1), ack(1, 0, 1), step(1, 1, 4, "passed"),
	}
	var walk func(row []api.Record, left int)
	walk = func(row []api.Record, left int) {
		b, m := books(2)
		for _, r := range row {
			if e, told := b.Apply(r), m.apply(r); e != told {
				t.Fatalf("%+v of %+v: %d, told %d", r, row, e, told)
			}
		}
		holds(t, b, m.facts())
		if left == 0 {
			return
		}
		for _, r := range alphabet {
			walk(append(slices.Clip(row), r), left-1)
		}
	}
	walk(nil, 3)
	walk([]api.Record{alphabet[0], alphabet[4], alphabet[7]}, 3)
}

// P12.1, P12.2, P12.3: long mixed rows: all answers, epochs that never fall, digests that never change, a stable version that changes with a Move to Complete alone; and the compacted records of each row make the same book.
func TestMixedRows(t *testing.T) {
	mix, done := &mixer{1}, map[int]int{}
	for i := range 30 {
		margin := [...]int{0, 3, 10}[i%3]
		b, m := books(margin)
		row := mixed(mix, margin, 150)
		for j, r := range row {
			if j%50 == 0 {
				probe(t, b, m.facts(), probes(m.facts()))
			}
			ahead, digests := b.View(), digestsOf(b)
			apply(t, b, m, r)
			keeps(t, b, r, ahead, digests)
		}
		for _, r := range m.applied {
			done[r.Kind]++
		}
		compacts(t, margin, row)
	}
	for kind := api.Lead; kind <= api.Step; kind++ {
		if done[kind] < 30 {
			t.Errorf("of kind %d just %d", kind, done[kind])
		}
	}
}

// digestsOf is the digests of all versions.
func digestsOf(b *Book) map[int]string {
	m := map[int]string{}
	for _, version := range b.Versions() {
		m[version], _ = b.Digest(version)
	}
	return m
}

// keeps holds a record against P12.2, by what the book was ahead of it.
func keeps(t *testing.T, b *Book, r api.Record, ahead View, digests map[int]string) {
	t.Helper()
	v := b.View()
	if v.Epoch < ahead.Epoch || v.Epoch > ahead.Epoch+1 {
		t.Fatalf("%+v: epoch %d behind %d", r, v.Epoch, ahead.Epoch)
	}
	for version, told := range digests {
		if digest, ok := b.Digest(version); digest != told || !ok {
			t.Fatalf("%+v: digest of %d %q, was %q", r, version, digest, told)
		}
	}
	completes := r.Kind == api.Move && r.N == api.Complete && ahead.Phase == api.Running && v.Phase == api.Complete
	if v.Stable != ahead.Stable && (!completes || v.Stable != ahead.Spec.Version) {
		t.Fatalf("%+v: stable %d behind %d", r, v.Stable, ahead.Stable)
	}
}

// P12.2: of two that would publish one version just the first one does, in whatever epoch.
func TestDigestStays(t *testing.T) {
	b := through(t, 0, lead(1, 0, 0, 10), publish(1, 5, "a"), lead(2, 1, 10, 10))
	if e := b.Apply(publish(2, 5, "b")); e != api.ErrThere {
		t.Error(e)
	}
	if digest, ok := b.Digest(5); digest != "a" || !ok {
		t.Error(digest, ok)
	}
}

// P12.2: the stable version stays through all that isn't a Move to Complete.
func TestStable(t *testing.T) {
	b := New(0)
	row := append(opening(), toPhase(api.Complete, rolling(1))...)
	for _, x := range []struct {
		l      []api.Record
		stable int
	}{
		{row, 1},
		{toPhase(api.RolledBack, rolling(2)), 1},
		{[]api.Record{begin(1, 3, canary(3, 10)), step(1, 1, 4, "promote"), move(1, api.Paused, "pause"), move(1, api.Running, "resume")}, 1},
		{[]api.Record{move(1, api.Complete, "done")}, 3},
		{[]api.Record{publish(1, 7, "x"), lead(2, 3, 100, 9), begin(2, 5, rolling(1))}, 3},
		{[]api.Record{move(2, api.Complete, "done")}, 1},
	} {
		for _, r := range x.l {
			if e := b.Apply(r); e != api.OK {
				t.Fatalf("%+v: %d", r, e)
			}
		}
		if v := b.View(); v.Stable != x.stable {
			t.Errorf("stable %d, told %d", v.Stable, x.stable)
		}
	}
}

// R3: a refused record changes nothing: the book of those alone that were applied tells the same, and refuses the same ones.
func TestRefusedChangesNothing(t *testing.T) {
	mix := &mixer{2}
	for range 20 {
		l := mixed(mix, 4, 120)
		b, count := All(4, l)
		_, m := books(4)
		for _, r := range l {
			m.apply(r)
		}
		if count != len(m.applied) || count == len(l) || count < 20 {
			t.Fatalf("%d of %d applied, told %d", count, len(l), len(m.applied))
		}
		alone := through(t, 4, m.applied...)
		f := m.facts()
		holds(t, b, f)
		holds(t, alone, f)
		if !Same(b, alone) {
			t.Fatal("not the same")
		}
		for _, r := range probes(f) {
			if b.Check(r) != alone.Check(r) {
				t.Fatalf("%+v", r)
			}
		}
	}
}

// P12.1, R3, R6: Check changes nothing, and tells the same each time.
func TestCheckChangesNothing(t *testing.T) {
	for _, row := range inPhases() {
		b, f := through(t, 5, row...), toldOf(5, row...)
		for range 2 {
			probe(t, b, f, probes(f))
		}
		holds(t, b, f)
	}
}

// P12.1: All, and how many were applied: none, some, all; of no records, too.
func TestAll(t *testing.T) {
	for _, x := range []struct {
		l       []api.Record
		applied int
	}{
		{nil, 0},
		{[]api.Record{}, 0},
		{wrong(), 0},
		{opening(), 4},
		{opening()[1:], 0},
		{append(opening(), opening()...), 5}, // the Lead renews; the versions are there
		{append(opening(), publish(2, 9, "x"), publish(1, 9, "x")), 5},
		{append([]api.Record{begin(1, 0, rolling(1))}, append(opening(), begin(1, 0, rolling(1)))...), 5},
	} {
		b, applied := All(7, x.l)
		if b == nil || applied != x.applied {
			t.Errorf("%+v: %d", x.l, applied)
		}
		m := &told{margin: 7}
		for _, r := range x.l {
			m.apply(r)
		}
		holds(t, b, m.facts())
	}
	if b, _ := All(7, opening()); b.Free(106) || !b.Free(107) {
		t.Error("margin")
	}
}

// P12.1: two books that differ in one thing alone, of nil and a book of no records, and of margins, which aren't asked.
func TestSame(t *testing.T) {
	base := slices.Clip(append(opening(), begin(1, 5, canary(2, 10)), intent(1, 0, 2, 1), intent(1, 1, 2, 2)))
	a := through(t, 3, base...)
	if !Same(a, a) || !Same(a, through(t, 3, base...)) || !Same(a, through(t, 9, base...)) {
		t.Error("the same records")
	}
	if !Same(New(1), New(2)) || !Same(nil, nil) || !Same(nil, New(1)) || !Same(New(1), nil) || !Same(nil, &Book{}) {
		t.Error("no records")
	}
	for i, x := range [][2][]api.Record{
		{{lead(1, 3, 0, 9)}, {lead(1, 3, 0, 10)}},
		{{lead(1, 3, 0, 9)}, {lead(1, 4, 0, 9)}},
		{{lead(1, 3, 0, 9), lead(2, 3, 20, 1)}, {lead(1, 3, 20, 1)}},
		{{lead(1, 0, 0, 1)}, nil},
		{opening(), opening()[:3]},
		{opening(), append(opening()[:3], publish(1, 3, "other"))},
		{opening(), append(opening()[:3], publish(1, 4, "three"))},
		{append(base, move(1, 2, "pause")), base},
		{append(base, ack(1, 0, 1)), base},
		{append(base, ack(1, 0, 1)), append(base, ack(1, 1, 2))},
		{append(base, intent(1, 2, 2, 3)), append(base, intent(1, 3, 2, 3))},
		{append(base, intent(1, 2, 0, 3)), append(base, intent(1, 2, 2, 3))},
		{append(base, step(1, 1, 6, "passed")), append(base, step(1, 1, 6, "promote"))},
		{append(base, step(1, 1, 6, "passed")), append(base, step(1, 1, 7, "passed"))},
		{append(base, move(1, 4, "health")), append(base, move(1, 4, "deadline"))},
		{append(base, move(1, 2, "pause"), move(1, 1, "resume")), base},
		{append(opening(), begin(1, 5, canary(2, 10))), append(opening(), begin(1, 5, canary(2, 11)))},
		{append(opening(), begin(1, 5, canary(2, 10))), append(opening(), begin(1, 6, canary(2, 10)))},
	} {
		p, q := through(t, 0, x[0]...), through(t, 0, x[1]...)
		if Same(p, q) || Same(q, p) || !Same(p, p) {
			t.Errorf("pair %d", i)
		}
	}
}

// P12.1: Same asks for each field of the views, each unit, and each record of the histories, however they came to differ.
func TestSameField(t *testing.T) {
	set := []func(v *View){
		func(v *View) { v.Epoch++ }, func(v *View) { v.Leader++ }, func(v *View) { v.Until++ }, func(v *View) { v.Stable++ },
		func(v *View) { v.From++ }, func(v *View) { v.Phase++ }, func(v *View) { v.Step++ }, func(v *View) { v.Since++ },
		func(v *View) { v.Begun++ }, func(v *View) { v.Seq++ }, func(v *View) { v.Spec.Version++ }, func(v *View) { v.Spec.Steps[3]++ }, func(v *View) { v.Spec.Deadline++ },
	}
	for i, f := range set {
		a, b := through(t, 0, opening()...), through(t, 0, opening()...)
		f(&b.view)
		if Same(a, b) || Same(b, a) {
			t.Errorf("field %d", i)
		}
	}
	for i := range 16 {
		a, b := New(0), New(0)
		b.units[i].Version++
		if Same(a, b) || Same(b, a) {
			t.Errorf("unit %d", i)
		}
	}
	for i := range 24 {
		a, b := New(0), New(0)
		for j := range 24 {
			r := move(1, 2, "pause")
			a.note(r)
			if i == j {
				r.Text = "abort"
			}
			b.note(r)
		}
		if Same(a, b) || Same(b, a) {
			t.Errorf("history %d", i)
		}
	}
}

// compactTold is what the chapter's words make of Compact: each Lead is left out of the whole row, all of which is told anew.
func compactTold(margin int, l []api.Record) []api.Record {
	all, applied := All(margin, l)
	left := slices.Clone(l)
	for i := 0; i < len(left); {
		without := slices.Concat(left[:i], left[i+1:])
		b, k := All(margin, without)
		if left[i].Kind == api.Lead && Same(all, b) && len(without)-k == len(l)-applied {
			left = without
		} else {
			i++
		}
	}
	return left
}

// compacts holds the compacted records against what is told, and the book of them against that of all.
func compacts(t *testing.T, margin int, l []api.Record) {
	t.Helper()
	short := Compact(margin, l)
	if told := compactTold(margin, l); !slices.Equal(short, told) {
		t.Fatalf("of %+v: %+v, told %+v", l, short, told)
	}
	a, applied := All(margin, l)
	b, k := All(margin, short)
	if !Same(a, b) || len(short)-k != len(l)-applied {
		t.Fatalf("of %+v: %+v is another book", l, short)
	}
}

// P12.1, P12.3: Compact of no Lead, of Leads that renew, and of Leads that take; by hand.
func TestCompact(t *testing.T) {
	rest := opening()[1:]
	a, c := lead(1, 3, 0, 10), lead(1, 3, 8, 10)
	for i, x := range []struct{ l, told []api.Record }{
		{nil, nil},
		{rest, rest},
		{[]api.Record{a}, []api.Record{a}},
		{[]api.Record{a, c}, []api.Record{c}}, // the second one takes then, until 18 as well
		{[]api.Record{a, publish(1, 1, "x"), c}, []api.Record{a, publish(1, 1, "x"), c}},                                                                            // without the first one there is no epoch to publish in
		{[]api.Record{a, publish(1, 1, "x"), c, lead(1, 3, 12, 10)}, []api.Record{a, publish(1, 1, "x"), c, lead(1, 3, 12, 10)}},                                    // without the second one the third one is late
		{[]api.Record{a, publish(1, 1, "x"), c, lead(1, 3, 9, 10)}, []api.Record{a, publish(1, 1, "x"), lead(1, 3, 9, 10)}},                                         // the third one does what the second one did
		{[]api.Record{a, publish(1, 1, "x"), lead(1, 3, 2, 3), lead(1, 3, 9, 1)}, []api.Record{a, publish(1, 1, "x")}},                                              // both change nothing
		{[]api.Record{a, lead(2, 4, 10, 5)}, []api.Record{a, lead(2, 4, 10, 5)}},                                                                                    // without epoch 1 there is no epoch 2
		{[]api.Record{a, publish(1, 1, "x"), c, lead(2, 4, 18, 5)}, []api.Record{a, publish(1, 1, "x"), lead(2, 4, 18, 5)}},                                         // what took the lease doesn't hang on how long it was held
		{[]api.Record{a, publish(1, 1, "x"), lead(2, 4, 10, 5), lead(2, 4, 14, 5)}, []api.Record{a, publish(1, 1, "x"), lead(2, 4, 14, 5)}},                         // nothing was done in between
		{[]api.Record{a, lead(1, 4, 0, 10), lead(3, 0, 50, 1)}, []api.Record{a, lead(1, 4, 0, 10), lead(3, 0, 50, 1)}},                                              // what is refused stays
		{[]api.Record{lead(3, 0, 0, 1), lead(1, 64, 0, 1)}, []api.Record{lead(3, 0, 0, 1), lead(1, 64, 0, 1)}},                                                      // all are refused
		{[]api.Record{a, c, publish(1, 1, "x"), publish(2, 1, "x"), lead(2, 3, 12, 9)}, []api.Record{c, publish(1, 1, "x"), publish(2, 1, "x"), lead(2, 3, 12, 9)}}, // refused: just as many, or it isn't left out
	} {
		if l := Compact(0, x.l); !slices.Equal(l, x.told) {
			t.Errorf("%d: %+v, told %+v", i, l, x.told)
		}
		compacts(t, 0, x.l)
	}
}

// P12.1, P12.3: Compact of all short rows of Leads, with something that each epoch lets be done in between.
func TestCompactShortRows(t *testing.T) {
	alphabet := []api.Record{
		lead(1, 3, 0, 6), lead(1, 3, 4, 6), lead(1, 3, 9, 6), lead(1, 4, 4, 6),
		lead(2, 3, 6, 6), lead(2, 4, 9, 6), lead(2, 4, 14, 2), lead(3, 3, 15, 4),
		publish(1, 1, "a"), publish(2, 1, "a"), publish(2, 2, "b"),
	}
	var walk func(row []api.Record, left int)
	walk = func(row []api.Record, left int) {
		compacts(t, 1, row)
		if left == 0 {
			return
		}
		for _, r := range alphabet {
			walk(append(slices.Clip(row), r), left-1)
		}
	}
	walk(nil, 4)
}

// leadRow is a row of Leads mostly, some of which are refused, around few epochs.
func leadRow(mix *mixer, margin, length int) []api.Record {
	m, l := &told{margin: margin}, []api.Record(nil)
	for len(l) < length {
		v := m.facts().view
		r := lead(max(1, v.Epoch+mix.below(3)-mix.below(2)), mix.below(2), max(0, v.Until-6+mix.below(12)), 1+mix.below(12))
		if mix.below(4) == 0 {
			r = publish(max(1, v.Epoch+mix.below(3)-1), 1+mix.below(9), strconv.Itoa(mix.below(2)))
		}
		m.apply(r)
		l = append(l, r)
	}
	return l
}

// P12.1, P12.3: Compact of rows of many Leads.
func TestCompactMixedRows(t *testing.T) {
	mix, short := &mixer{3}, 0
	for i := range 1500 {
		margin := i % 4
		l := leadRow(mix, margin, 4+mix.below(12))
		compacts(t, margin, l)
		short += len(l) - len(Compact(margin, l))
	}
	if short < 500 {
		t.Errorf("just %d left out", short)
	}
}

// P12.1: a Lead is left out, too, where what is refused without it is made up for later on: just as many are refused then, though not the same ones.
func TestCompactOtherRefusals(t *testing.T) {
	found := 0
	mix := &mixer{4}
	for range 3000 {
		l := leadRow(mix, 0, 7)
		short := Compact(0, l)
		if len(short) < len(l) && !slices.Equal(refused(l), refused(short)) {
			compacts(t, 0, l)
			found++
		}
	}
	if found == 0 {
		t.Error("none found")
	}
}

// refused is the records that a book refuses.
func refused(l []api.Record) []api.Record {
	b, row := New(0), []api.Record(nil)
	for _, r := range l {
		if b.Apply(r) != api.OK {
			row = append(row, r)
		}
	}
	return row
}

// P12.3: a long row of one leader's Leads, each of which is late without the last two: every other one is left out, but the last one.
func TestCompactLong(t *testing.T) {
	l, told := opening(), opening()
	for i := range 4000 {
		l = append(l, lead(1, 3, 90+i*40, 100))
		if i%2 == 0 || i == 3999 {
			told = append(told, l[len(l)-1])
		}
	}
	if short := Compact(0, l); !slices.Equal(short, told) {
		t.Fatalf("%d, told %d", len(short), len(told))
	}
}

// R4: lists that are answered are new memory, and what is handed in is neither changed nor kept.
func TestMemory(t *testing.T) {
	row := append(opening(), begin(1, 5, canary(2, 10)), intent(1, 0, 2, 1), lead(1, 3, 50, 100), lead(1, 3, 60, 100))
	l := slices.Clone(row)
	b, _ := All(0, l)
	short := Compact(0, l)
	if !slices.Equal(l, row) {
		t.Fatal("the row is changed")
	}
	kept := slices.Clone(short)
	for i := range l {
		l[i] = api.Record{}
	}
	if !slices.Equal(short, kept) {
		t.Error("compacted records share memory with the row")
	}
	for i := range short {
		short[i] = api.Record{Kind: 9}
	}
	f := toldOf(0, row...)
	holds(t, b, f)
	units, versions, history := b.Units(), b.Versions(), b.History()
	units[0].Version, versions[0], history[0].Text = 77, 77, "x"
	units, versions, history = append(units[:1], units[2:]...), append(versions[:1], 8), append(history[:0], row...)
	holds(t, b, f)
	told := b.History()
	b.Apply(step(1, 1, 8, "passed"))
	if len(told) != 1 || told[0] != row[4] || len(units) != 15 || len(versions) != 2 || len(history) != len(row) {
		t.Error("an answer changes with the book")
	}
}

// R4: a history that was answered stays as it was when the book's own goes on, past 24, too.
func TestHistoryMemory(t *testing.T) {
	b := through(t, 0, append(opening(), begin(1, 5, canary(2, 10)))...)
	for i := range 60 {
		ahead := b.History()
		kept := slices.Clone(ahead)
		r := move(1, api.Paused, "pause")
		if i%2 == 1 {
			r = move(1, api.Running, "resume")
		}
		if e := b.Apply(r); e != api.OK {
			t.Fatal(e)
		}
		if !slices.Equal(ahead, kept) {
			t.Fatalf("behind %d", i)
		}
	}
}

// R6: two books of the same records tell the same, whatever another book is told in between.
func TestOneAnswer(t *testing.T) {
	mix := &mixer{5}
	for range 10 {
		l, other := mixed(mix, 2, 80), mixed(mix, 2, 80)
		a, b, c := New(2), New(2), New(2)
		for i, r := range l {
			if a.Apply(r) != b.Apply(r) {
				t.Fatalf("%+v", r)
			}
			c.Apply(other[i])
			if !Same(a, b) || a.View() != b.View() || !slices.Equal(a.Versions(), b.Versions()) {
				t.Fatal("not the same")
			}
		}
		if !slices.Equal(Compact(2, l), Compact(2, l)) {
			t.Fatal("compacted otherwise")
		}
	}
}
