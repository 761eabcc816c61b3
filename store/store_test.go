package store

import (
	"bytes"
	"encoding/binary"
	"hash/crc32"
	"math"
	"slices"
	"strconv"
	"strings"
	"testing"

	"pacesetter/api"
	"pacesetter/book"
	"pacesetter/record"
)

// top is the most bytes that a disk has room for, and last the last time, in numbers of the tests' own.
const (
	top  = 1 << 20
	last = 1 << 40
)

func lead(epoch, who, n, seq int) api.Record {
	return api.Record{Kind: api.Lead, Epoch: epoch, Who: who, N: n, Seq: seq}
}

func publish(epoch, n int, text string) api.Record {
	return api.Record{Kind: api.Publish, Epoch: epoch, N: n, Text: text}
}

func begin(epoch, n int, s api.Spec) api.Record {
	return api.Record{Kind: api.Begin, Epoch: epoch, N: n, Spec: s}
}

func move(epoch, n int, text string) api.Record {
	return api.Record{Kind: api.Move, Epoch: epoch, N: n, Text: text}
}

func intent(epoch, who, n, seq int) api.Record {
	return api.Record{Kind: api.Intent, Epoch: epoch, Who: who, N: n, Seq: seq}
}

func ack(epoch, who, seq int) api.Record {
	return api.Record{Kind: api.Ack, Epoch: epoch, Who: who, Seq: seq}
}

func step(epoch, who, n int, text string) api.Record {
	return api.Record{Kind: api.Step, Epoch: epoch, Who: who, N: n, Text: text}
}

// rolling is a spec of that version, without Steps.
func rolling(version int) api.Spec {
	return api.Spec{Version: version, Desired: 4, Surge: 1, Strategy: api.Rolling, Window: 5, Deadline: 300}
}

// canary is a spec of that version, with these Steps.
func canary(version int, steps ...int) api.Spec {
	s := rolling(version)
	s.Strategy = api.Canary
	copy(s.Steps[:], steps)
	return s
}

// slack is the margin of most of the tests' stores.
const slack = 5

// story is records of all kinds, each of which the book of those ahead of it takes, with a margin of 5 at most: one rollout that is complete, and one that goes back.
func story() []api.Record {
	return []api.Record{
		lead(1, 3, 0, 100), publish(1, 1, "one"), publish(1, 300, strings.Repeat("x", 64)), lead(1, 3, 40, 100),
		begin(1, 41, rolling(1)), intent(1, 0, 1, 1), ack(1, 0, 1), intent(1, 15, 1, 2),
		move(1, api.Paused, "pause"), move(1, api.Running, "resume"), move(1, api.Complete, "done"), lead(1, 3, 50, 100),
		lead(2, 60, 155, 1000), begin(2, 160, canary(300, 10, 50)), lead(2, 60, 170, 1000), step(2, 1, 200, "passed"),
		intent(2, 0, 300, 3), move(2, api.RollingBack, "health"), intent(2, 0, 1, 4), ack(2, 0, 4), move(2, api.RolledBack, "back"),
	}
}

// frameTold is a frame as layer 4's chapter tells it, by the library's own check.
func frameTold(payload []byte) []byte {
	b := binary.BigEndian.AppendUint16(nil, uint16(len(payload)))
	b = append(b, payload...)
	return binary.BigEndian.AppendUint32(b, crc32.ChecksumIEEE(b))
}

// entryTold is a record's bytes as layer 10's chapter tells them: the library's uvarint is the same row of digits.
func entryTold(r api.Record) []byte {
	var b []byte
	for _, n := range []int{r.Kind, r.Epoch, r.Who, r.N, r.Seq, len(r.Text)} {
		b = binary.AppendUvarint(b, uint64(n))
	}
	b = append(b, r.Text...)
	if r.Kind != api.Begin {
		return b
	}
	s := r.Spec
	for _, n := range []int{12, s.Version, s.Desired, s.Surge, s.Unavailable, s.Strategy, s.Steps[0], s.Steps[1], s.Steps[2], s.Steps[3], s.Window, s.MaxBad, s.Deadline} {
		b = binary.AppendUvarint(b, uint64(n))
	}
	return b
}

// bytesTold is the disk's bytes of records.
func bytesTold(l ...api.Record) []byte {
	var b []byte
	for _, r := range l {
		b = append(b, frameTold(entryTold(r))...)
	}
	return b
}

// sizeTold is how many bytes of the disk records have.
func sizeTold(l ...api.Record) int { return len(bytesTold(l...)) }

// payloadsTold is the payloads of the frames at the beginning that can be got.
func payloadsTold(b []byte) [][]byte {
	var l [][]byte
	for len(b) > 6 {
		n := int(binary.BigEndian.Uint16(b))
		if n < 1 || n > 1000 || len(b) < n+6 {
			break
		}
		p := b[2 : 2+n]
		if !bytes.HasPrefix(b, frameTold(p)) {
			break
		}
		l, b = append(l, p), b[n+6:]
	}
	return l
}

// told is a store as the chapter's words tell it: its disk's room, its margin, and its records, of which all else is made each time. What a book of records is, layer 12 tells.
type told struct {
	room, margin int
	records      []api.Record
}

func (m *told) book() *book.Book {
	b, _ := book.All(m.margin, m.records)
	return b
}

func (m *told) left() int { return m.room - sizeTold(m.records...) }

func (m *told) commit(r api.Record) api.Errno {
	if e := m.book().Check(r); e != api.OK {
		return e
	}
	if sizeTold(r) > m.left() {
		return api.ErrFull
	}
	m.records = append(slices.Clone(m.records), r)
	return api.OK
}

func (m *told) torn(r api.Record, keep int) api.Errno {
	ahead := m.records
	if e := m.commit(r); e != api.OK {
		return e
	}
	if keep < sizeTold(r) {
		m.records = ahead
	}
	return api.ErrLost
}

// compact leaves each Lead out of the whole row, all of which is told anew.
func (m *told) compact() int {
	n := len(m.records)
	for i := 0; i < len(m.records); {
		without := slices.Concat(m.records[:i], m.records[i+1:])
		b, applied := book.All(m.margin, without)
		if m.records[i].Kind == api.Lead && applied == len(without) && book.Same(b, m.book()) {
			m.records = without
		} else {
			i++
		}
	}
	return n - len(m.records)
}

// openTold is what is told of a store that is opened, and how many entries are left out.
func openTold(b []byte, room, margin int) (*told, int) {
	m := &told{room: room, margin: margin}
	entries := payloadsTold(b)
	for i, p := range entries {
		r, e := record.Read(p)
		if e != api.OK || m.book().Check(r) != api.OK {
			return m, len(entries) - i
		}
		m.records = append(m.records, r)
	}
	return m, 0
}

// probes is records that may come next, or just not, of a book.
func probes(b *book.Book, margin int) []api.Record {
	v, end := b.View(), b.View().Until+margin
	var l []api.Record
	for _, epoch := range []int{v.Epoch - 1, v.Epoch, v.Epoch + 1} {
		for _, n := range []int{v.Until - 1, v.Until, end - 1, end} {
			l = append(l, lead(epoch, v.Leader, n, 7), lead(epoch, v.Leader+1, n, 7))
		}
		for _, n := range []int{1, 2, 300} {
			l = append(l, publish(epoch, n, "new"), begin(epoch, v.Until, rolling(n)))
		}
		for _, n := range []int{0, v.Spec.Version, v.From} {
			l = append(l, intent(epoch, 0, n, v.Seq), intent(epoch, 15, n, v.Seq+1))
		}
		l = append(l, move(epoch, api.Paused, "pause"), move(epoch, api.RollingBack, "abort"), move(epoch, api.Complete, "done"), move(epoch, api.RolledBack, "back"), move(epoch, api.Running, "resume"))
		for i, u := range b.Units() {
			l = append(l, ack(epoch, i, u.Seq))
		}
		l = append(l, step(epoch, v.Step, 9, "passed"), step(epoch, v.Step+1, 9, "passed"))
	}
	return l
}

// tellSame holds what a book tells against what is told of the store's.
func tellSame(t *testing.T, name string, b, want *book.Book, margin int) {
	t.Helper()
	if !book.Same(b, want) {
		t.Fatalf("%s: book %+v, told %+v", name, b.View(), want.View())
	}
	end := want.View().Until + max(0, min(margin, top))
	for _, now := range []int{-1, 0, end - 1, end, end + 1, last} {
		if b.Free(now) != want.Free(now) {
			t.Fatalf("%s: free at %d: %t", name, now, b.Free(now))
		}
	}
}

// sameBooks is tellSame, and holds what the book would refuse against what is told, too.
func sameBooks(t *testing.T, name string, b, want *book.Book, margin int) {
	t.Helper()
	tellSame(t, name, b, want, margin)
	for _, r := range probes(want, max(0, min(margin, top))) {
		if e, told := b.Check(r), want.Check(r); e != told {
			t.Fatalf("%s: check of %+v: %d, told %d", name, r, e, told)
		}
	}
}

// looks holds all that a store tells against what is told; all of it has to be safe.
func looks(t *testing.T, name string, s *Store, m *told) {
	t.Helper()
	if l := s.Records(); !slices.Equal(l, m.records) {
		t.Fatalf("%s: records %+v, told %+v", name, l, m.records)
	}
	if s.Len() != len(m.records) || s.Room() != m.left() {
		t.Fatalf("%s: len %d, room %d, told %d, %d", name, s.Len(), s.Room(), len(m.records), m.left())
	}
	if b := bytesTold(m.records...); !bytes.Equal(s.Bytes(), b) {
		t.Fatalf("%s: bytes %v, told %v", name, s.Bytes(), b)
	}
	if s.disk.Safe() != s.disk.Len() || s.journal.Safe() != s.journal.Len() {
		t.Fatalf("%s: of %d bytes just %d are safe", name, s.disk.Len(), s.disk.Safe())
	}
	want := m.book()
	tellSame(t, name, s.Book(), want, m.margin)
	sameBooks(t, name+", its own", s.book, want, m.margin)
}

// holds is looks, of the store that is opened of its bytes, too: P13.2.
func holds(t *testing.T, name string, s *Store, m *told) {
	t.Helper()
	looks(t, name, s, m)
	for _, room := range []int{m.room, len(s.Bytes())} {
		again, n, e := Open(s.Bytes(), room, m.margin)
		if n != 0 || e != api.OK {
			t.Fatalf("%s: opened again: %d left out, %d", name, n, e)
		}
		looks(t, name+", opened again", again, &told{room, m.margin, m.records})
	}
}

// made is a store of these records, each of which has to be committed, and what is told of it.
func made(t *testing.T, room, margin int, l ...api.Record) (*Store, *told) {
	t.Helper()
	s := New(room, margin)
	for i, r := range l {
		if e := s.Commit(r); e != api.OK {
			t.Fatalf("commit %d, %+v: %d", i, r, e)
		}
	}
	return s, &told{room, margin, slices.Clone(l)}
}

// opened is the store of these bytes, and what is told of it; how many entries were left out has to be as told.
func opened(t *testing.T, name string, b []byte, room, margin int) (*Store, *told) {
	t.Helper()
	m, out := openTold(b, room, margin)
	s, n, e := Open(b, room, margin)
	if e != api.OK || n != out || s == nil {
		t.Fatalf("%s: opened: %d left out, told %d; %d", name, n, out, e)
	}
	holds(t, name, s, m)
	return s, m
}

// commits commits a record to both, and holds them against each other.
func commits(t *testing.T, name string, s *Store, m *told, r api.Record) api.Errno {
	t.Helper()
	e, want := s.Commit(r), m.commit(r)
	if e != want {
		t.Fatalf("%s: commit of %+v: %d, told %d", name, r, e, want)
	}
	looks(t, name+", committed", s, m)
	return e
}

// tears tears a record of both, and holds them against each other.
func tears(t *testing.T, name string, s *Store, m *told, r api.Record, keep int) api.Errno {
	t.Helper()
	e, want := s.Torn(r, keep), m.torn(r, keep)
	if e != want {
		t.Fatalf("%s: %+v torn behind %d: %d, told %d", name, r, keep, e, want)
	}
	looks(t, name+", torn", s, m)
	return e
}

// compacts compacts both, and holds them against each other; the room has to grow by what was left out, and the book to stay.
func compacts(t *testing.T, name string, s *Store, m *told) int {
	t.Helper()
	ahead, room, b := s.Records(), s.Room(), s.Book()
	n, want := s.Compact(), m.compact()
	if n != want || len(ahead)-s.Len() != n {
		t.Fatalf("%s: compacted: %d, told %d", name, n, want)
	}
	if grown := s.Room() - room; grown != sizeTold(ahead...)-sizeTold(s.Records()...) {
		t.Fatalf("%s: the room grew by %d", name, grown)
	}
	sameBooks(t, name+", compacted", s.Book(), b, m.margin)
	holds(t, name+", compacted", s, m)
	return n
}

// goesOn is what is done with a store later: it takes a Lead, a torn one, one that is refused, is compacted, and opened again.
func goesOn(t *testing.T, name string, s *Store, m *told) {
	t.Helper()
	next := func() api.Record {
		v := m.book().View()
		return lead(v.Epoch+1, 9, v.Until+max(0, m.margin)+1, 20)
	}
	commits(t, name, s, m, next())
	tears(t, name, s, m, next(), 5)
	tears(t, name, s, m, next(), 500)
	commits(t, name, s, m, publish(m.book().View().Epoch, 77, "later"))
	commits(t, name, s, m, publish(0, 78, "refused"))
	compacts(t, name, s, m)
	again, all := opened(t, name, s.Bytes(), m.room, m.margin)
	commits(t, name, again, all, next())
}

// P13.1: the chapter's example.
func TestExample(t *testing.T) {
	s := New(1000, 5)
	if e := s.Commit(lead(1, 0, 0, 10)); e != api.OK || s.Len() != 1 {
		t.Fatal(e, s.Len())
	}
	if e := s.Torn(publish(1, 1, "a"), 0); e != api.ErrLost || s.Len() != 1 {
		t.Fatal(e, s.Len())
	}
	if l := s.Records(); len(l) != 1 || l[0] != lead(1, 0, 0, 10) {
		t.Error(l)
	}
	if b := s.Bytes(); len(b) != 12 || !bytes.Equal(b[:8], []byte{0, 6, 1, 1, 0, 0, 10, 0}) || s.Room() != 988 {
		t.Error(b, s.Room())
	}
}

// P13.1: a new store, of rooms and margins of all kinds.
func TestNew(t *testing.T) {
	for _, x := range []struct{ room, cut int }{{0, 0}, {1, 1}, {500, 500}, {top, top}, {top + 1, top}, {math.MaxInt, top}, {-1, 0}, {math.MinInt, 0}} {
		for _, margin := range []int{0, 5, top, top + 1, math.MaxInt, -1, math.MinInt} {
			s := New(x.room, margin)
			if s == nil {
				t.Fatal("none")
			}
			holds(t, "new", s, &told{room: x.cut, margin: margin})
			if s.Room() != x.cut || len(s.Bytes()) != 0 {
				t.Fatalf("room %d: %d, %v", x.room, s.Room(), s.Bytes())
			}
		}
	}
}

// P13.1: a row of records of all kinds, each committed behind the others.
func TestCommit(t *testing.T) {
	s, m := made(t, 4000, slack)
	for _, r := range story() {
		if e := commits(t, "story", s, m, r); e != api.OK {
			t.Fatalf("%+v: %d", r, e)
		}
		holds(t, "story", s, m)
	}
	if v := s.Book().View(); v.Stable != 1 || v.Phase != api.RolledBack || v.Epoch != 2 || v.Seq != 4 {
		t.Errorf("%+v", v)
	}
	goesOn(t, "story", s, m)
}

// refusal is a record that the book of those ahead of it refuses.
type refusal struct {
	ahead []api.Record
	r     api.Record
	want  api.Errno
}

// refusals is, by the chapter's table of layer 12, for each kind each error that it may be refused with.
func refusals() []refusal {
	all := story()
	digests, running, back := all[:4], all[:6], all[:18]
	full := []api.Record{lead(1, 0, 0, 9)}
	for i := range 64 {
		full = append(full, publish(1, 1+i, "x"))
	}
	bad := rolling(1)
	bad.Desired = 17
	return []refusal{
		{nil, api.Record{}, api.ErrArg}, {digests, api.Record{Kind: 8, Epoch: 1}, api.ErrArg}, {digests, lead(1, 3, 50, 0), api.ErrArg}, {digests, publish(1, 9, ""), api.ErrArg},
		{digests, publish(1, 9, strings.Repeat("x", 65)), api.ErrArg}, {digests, begin(1, 50, bad), api.ErrArg}, {running, move(1, 6, "pause"), api.ErrArg}, {running, intent(1, 16, 1, 2), api.ErrArg},
		{running, ack(1, -1, 1), api.ErrArg}, {running, step(1, 0, 50, "passed"), api.ErrArg}, {nil, lead(1, 64, 0, 1), api.ErrArg}, {nil, publish(math.MinInt, math.MaxInt, "x"), api.ErrArg},
		{nil, lead(2, 0, 0, 1), api.ErrEpoch}, {nil, publish(1, 1, "x"), api.ErrEpoch}, {digests, lead(3, 3, 500, 1), api.ErrEpoch}, {digests, begin(2, 50, rolling(1)), api.ErrEpoch}, {running, move(2, 2, "pause"), api.ErrEpoch},
		{running, intent(2, 0, 1, 2), api.ErrEpoch}, {running, ack(2, 0, 1), api.ErrEpoch}, {running, step(2, 1, 50, "passed"), api.ErrEpoch}, {all[:13], ack(1, 15, 2), api.ErrEpoch},
		{digests, lead(1, 4, 50, 1), api.ErrLease}, {digests, lead(1, 3, 140, 1), api.ErrLease}, {digests, lead(2, 4, 144, 1), api.ErrLease},
		{digests, publish(1, 1, "one"), api.ErrThere}, {append(slices.Clone(all[:11]), publish(1, 2, "two")), begin(1, 50, rolling(1)), api.ErrThere},
		{full, publish(1, 65, "x"), api.ErrFull},
		{running, begin(1, 50, rolling(300)), api.ErrState}, {digests, move(1, 2, "pause"), api.ErrState}, {digests, intent(1, 0, 0, 1), api.ErrState}, {all[:7], ack(1, 0, 1), api.ErrState}, {back, step(2, 2, 50, "passed"), api.ErrState},
		{digests, begin(1, 50, rolling(2)), api.ErrNone}, {running, intent(1, 0, 300, 2), api.ErrNone},
		{running, move(1, 2, "stop"), api.ErrForm}, {running, move(1, 1, "promote"), api.ErrForm}, {all[:14], step(2, 1, 180, "done"), api.ErrForm},
		{running, intent(1, 0, 1, 3), api.ErrRev}, {running, ack(1, 0, 2), api.ErrRev}, {running, step(1, 1, 50, "passed"), api.ErrRev},
	}
}

// P13.1, P13.3: what the book refuses is refused with its error, and changes nothing, whether it is committed or torn.
func TestRefused(t *testing.T) {
	seen := map[api.Errno]bool{}
	for i, x := range refusals() {
		name := "refusal " + strconv.Itoa(i)
		s, m := made(t, 4000, slack, x.ahead...)
		if e := s.Commit(x.r); e != x.want {
			t.Fatalf("%s: %d, told %d", name, e, x.want)
		}
		holds(t, name, s, m)
		for _, keep := range []int{math.MinInt, -1, 0, 1, 12, 1000, math.MaxInt} {
			if e := s.Torn(x.r, keep); e != x.want {
				t.Fatalf("%s, torn behind %d: %d, told %d", name, keep, e, x.want)
			}
			holds(t, name, s, m)
		}
		goesOn(t, name, s, m)
		seen[x.want] = true
	}
	for _, e := range []api.Errno{api.ErrArg, api.ErrEpoch, api.ErrLease, api.ErrThere, api.ErrFull, api.ErrState, api.ErrNone, api.ErrForm, api.ErrRev} {
		if !seen[e] {
			t.Errorf("never seen: %d", e)
		}
	}
}

// P13.1, P13.3, R1: what is refused is refused with the book's error, where there isn't room, too.
func TestRefusedWithoutRoom(t *testing.T) {
	for i, x := range refusals() {
		name := "refusal " + strconv.Itoa(i)
		size := sizeTold(x.ahead...)
		for _, more := range []int{0, 1, 8} {
			s, m := made(t, size+more, slack, x.ahead...)
			if e := s.Commit(x.r); e != x.want {
				t.Fatalf("%s, room %d: %d, told %d", name, more, e, x.want)
			}
			if e := s.Torn(x.r, 3); e != x.want {
				t.Fatalf("%s, room %d, torn: %d, told %d", name, more, e, x.want)
			}
			holds(t, name, s, m)
		}
	}
}

// P13.1, P13.3: a record of each kind fits just so, or doesn't by one byte, or by all.
func TestFits(t *testing.T) {
	all := story()
	for i, r := range all {
		ahead, size := sizeTold(all[:i]...), sizeTold(r)
		for _, missing := range []int{1, 2, size - 1, size} {
			s, m := made(t, ahead+size-missing, slack, all[:i]...)
			if e := s.Commit(r); e != api.ErrFull {
				t.Fatalf("%+v, %d too few: %d", r, missing, e)
			}
			holds(t, "full", s, m)
			for _, keep := range []int{-1, 0, 1, size - missing, size, math.MaxInt} {
				if e := s.Torn(r, keep); e != api.ErrFull {
					t.Fatalf("%+v, %d too few, torn: %d", r, missing, e)
				}
				holds(t, "full", s, m)
			}
		}
		for keep := range size + 2 {
			s, m := made(t, ahead+size, slack, all[:i]...)
			tears(t, "just so", s, m, r, keep)
			if keep < size {
				commits(t, "just so", s, m, r)
			}
			if s.Room() != 0 || s.Len() != i+1 {
				t.Fatalf("%+v: room %d, %d records", r, s.Room(), s.Len())
			}
			holds(t, "just so", s, m)
		}
	}
}

// P13.3: where one doesn't fit, a shorter one may yet.
func TestShorterFits(t *testing.T) {
	s, m := made(t, sizeTold(lead(1, 3, 0, 100))+20, slack, lead(1, 3, 0, 100))
	for i, x := range []struct {
		text string
		want api.Errno
	}{{strings.Repeat("x", 64), api.ErrFull}, {"ninebytes", api.ErrFull}, {"8 bytes.", api.OK}, {"", api.ErrArg}, {"x", api.ErrFull}} {
		if e := commits(t, "shorter", s, m, publish(1, 9+i, x.text)); e != x.want {
			t.Errorf("%q: %d", x.text, e)
		}
	}
	if s.Room() != 0 || s.Len() != 2 {
		t.Error(s.Room(), s.Len())
	}
}

// P13.1, P13.3: a disk as great as may be, full but for some bytes.
func TestGreatest(t *testing.T) {
	r := lead(1, 3, 0, 1)
	b := bytes.Repeat(bytesTold(r), top/12)
	s, out, e := Open(b[:len(b)-12], math.MaxInt, slack)
	if e != api.OK || out != 0 || s.Len() != top/12-1 || s.Room() != 16 {
		t.Fatal(out, e, s.Room())
	}
	if e := s.Commit(r); e != api.OK || s.Room() != 4 || !bytes.Equal(s.Bytes(), b) {
		t.Fatal(e, s.Room())
	}
	if e := s.Commit(r); e != api.ErrFull || s.Torn(r, 3) != api.ErrFull || s.Room() != 4 || s.Len() != top/12 {
		t.Error(e, s.Room())
	}
	if n := s.Compact(); n != top/12-1 || s.Room() != top-12 {
		t.Error(n, s.Room())
	}
}

// P13.1, P13.2: of a record of each kind some bytes are written, none, all, more than all, and less than none: it is there just if all are, and the store goes on.
func TestTorn(t *testing.T) {
	all := story()
	for i, r := range all {
		size := sizeTold(r)
		keeps := []int{math.MinInt, -last, -1, math.MaxInt, last, size + 1000}
		for keep := range size + 3 {
			keeps = append(keeps, keep)
		}
		for _, keep := range keeps {
			s, m := made(t, 4000, slack, all[:i]...)
			if e := tears(t, "torn", s, m, r, keep); e != api.ErrLost {
				t.Fatalf("%+v torn behind %d: %d", r, keep, e)
			}
			want := all[:i]
			if keep >= size {
				want = all[:i+1]
			}
			if !slices.Equal(s.Records(), want) {
				t.Fatalf("%+v torn behind %d: %+v", r, keep, s.Records())
			}
			holds(t, "torn", s, m)
			for _, next := range all[len(want):] {
				if e := s.Commit(next); e != api.OK {
					t.Fatalf("%+v torn behind %d, then %+v: %d", r, keep, next, e)
				}
			}
			m.records = all
			looks(t, "torn, and all others", s, m)
		}
	}
}

// P13.1: several records are torn, one behind the other; that which is there is there but once.
func TestTornAgain(t *testing.T) {
	s, m := made(t, 4000, slack)
	for _, r := range story() {
		for _, keep := range []int{0, 3, 7, sizeTold(r) - 1, sizeTold(r), 0} {
			tears(t, "again", s, m, r, keep)
		}
	}
	goesOn(t, "again", s, m)
}

// P13.1: Compact of no records, of Leads that renew, and of Leads that take, by hand.
func TestCompact(t *testing.T) {
	a, c := lead(1, 3, 0, 10), lead(1, 3, 8, 10)
	one := publish(1, 1, "x")
	rest := []api.Record{one, publish(1, 2, "y")}
	for i, x := range []struct{ l, left []api.Record }{
		{nil, nil},
		{[]api.Record{a}, []api.Record{a}},
		{append([]api.Record{a}, rest...), append([]api.Record{a}, rest...)},
		{[]api.Record{a, c}, []api.Record{c}},       // the second one takes then
		{[]api.Record{a, a, a, a}, []api.Record{a}}, // they do the same
		{[]api.Record{a, one, c}, []api.Record{a, one, c}},
		{[]api.Record{a, one, c, lead(1, 3, 9, 10)}, []api.Record{a, one, lead(1, 3, 9, 10)}},
		{[]api.Record{a, one, c, lead(1, 3, 12, 10)}, []api.Record{a, one, c, lead(1, 3, 12, 10)}}, // the last one would be late
		{[]api.Record{a, one, lead(1, 3, 2, 3), lead(1, 3, 9, 1)}, []api.Record{a, one}},           // they change nothing
		{[]api.Record{a, lead(2, 4, 15, 5)}, []api.Record{a, lead(2, 4, 15, 5)}},                   // without epoch 1 there is no epoch 2
		{[]api.Record{a, c, lead(2, 4, 23, 5)}, []api.Record{c, lead(2, 4, 23, 5)}},
		{[]api.Record{a, one, c, lead(2, 4, 23, 5), lead(2, 4, 27, 5), lead(3, 5, 37, 1)}, []api.Record{a, one, lead(2, 4, 27, 5), lead(3, 5, 37, 1)}},
	} {
		name := "compact " + strconv.Itoa(i)
		s, m := made(t, 1000, slack, x.l...)
		if n := compacts(t, name, s, m); n != len(x.l)-len(x.left) || !slices.Equal(s.Records(), x.left) {
			t.Errorf("%s: %d, %+v", name, n, s.Records())
		}
		if s.Room() != 1000-sizeTold(x.left...) {
			t.Errorf("%s: room %d", name, s.Room())
		}
		if n := compacts(t, name+", again", s, m); n != 0 {
			t.Errorf("%s: again: %d", name, n)
		}
		again, all := opened(t, name, bytesTold(x.l...), 1000, slack)
		if n := compacts(t, name+", opened", again, all); n != len(x.l)-len(x.left) || !slices.Equal(again.Records(), x.left) {
			t.Errorf("%s: opened: %d, %+v", name, n, again.Records())
		}
		goesOn(t, name, s, m)
		goesOn(t, name, again, all)
	}
}

// P13.1: the margin has a say in what may be left out: a Lead that takes may be, just if the one behind it, which renews, doesn't come too early to take.
func TestCompactMargin(t *testing.T) {
	for _, margin := range []int{math.MinInt, -1, 0, 5, 20} {
		free := 10 + max(0, margin)
		ahead := []api.Record{lead(1, 3, 0, 10), publish(1, 1, "x"), lead(2, 4, 31, 10)}
		for _, x := range []struct{ now, out int }{{free - 1, 0}, {free, 1}, {free + 1, 1}} {
			s, m := made(t, 1000, margin, append(ahead, lead(2, 4, x.now, 100))...)
			if n := compacts(t, "margin", s, m); n != x.out {
				t.Errorf("margin %d, renewed at %d: %d", margin, x.now, n)
			}
			goesOn(t, "margin", s, m)
		}
	}
}

// P13.1: what was left out makes room.
func TestCompactMakesRoom(t *testing.T) {
	l := []api.Record{lead(1, 3, 0, 10), publish(1, 1, "x"), lead(1, 3, 8, 10), lead(1, 3, 9, 10)}
	s, m := made(t, sizeTold(l...), slack, l...)
	next := lead(1, 3, 18, 10)
	if e := commits(t, "full", s, m, next); e != api.ErrFull {
		t.Fatal(e)
	}
	if n := compacts(t, "full", s, m); n != 1 || s.Room() != 12 {
		t.Fatal(n, s.Room())
	}
	if e := commits(t, "full", s, m, next); e != api.OK || s.Room() != 0 {
		t.Fatal(e, s.Room())
	}
	s, m = made(t, 0, slack)
	if n := compacts(t, "no room", s, m); n != 0 {
		t.Fatal(n)
	}
}

// P13.1: nothing that is done to a book that was told changes the store, nor another one; and it doesn't change with the store.
func TestBook(t *testing.T) {
	all := story()
	for i := range all {
		s, m := made(t, 4000, slack, all[:i]...)
		mine, other := s.Book(), s.Book()
		for _, r := range all[i:] {
			if e := mine.Apply(r); e != api.OK {
				t.Fatalf("%+v: %d", r, e)
			}
		}
		holds(t, "the book was changed", s, m)
		sameBooks(t, "another book", other, m.book(), m.margin)
		ahead := m.book()
		commits(t, "the book was changed", s, m, all[i])
		sameBooks(t, "ahead of a commit", other, ahead, m.margin)
		v := m.book().View()
		s.Torn(lead(v.Epoch+1, 7, v.Until+slack, 9), 100)
		s.Compact()
		sameBooks(t, "ahead of all", other, ahead, m.margin)
		whole, _ := book.All(slack, all)
		sameBooks(t, "mine", mine, whole, m.margin)
	}
}

// P13.1: a margin is cut as layer 9 does, by Commit, Torn, Compact, Open, and in the book that is told.
func TestMargin(t *testing.T) {
	for _, x := range []struct{ margin, from int }{{0, 10}, {1, 11}, {5, 15}, {top, top + 10}, {top + 1, top + 10}, {math.MaxInt, top + 10}, {-1, 10}, {math.MinInt, 10}} {
		take, early := lead(2, 4, x.from, 1), lead(2, 4, x.from-1, 1)
		ways := map[string]func(s *Store) *Store{
			"committed": func(s *Store) *Store { return s },
			"torn":      func(s *Store) *Store { s.Torn(publish(1, 1, "x"), 1); return s },
			"compacted": func(s *Store) *Store { s.Commit(lead(1, 3, 0, 10)); s.Compact(); return s },
			"opened": func(s *Store) *Store {
				again, _, _ := Open(s.Bytes(), 100, x.margin)
				return again
			},
		}
		for name, way := range ways {
			s, m := made(t, 100, x.margin, lead(1, 3, 0, 10))
			s = way(s)
			looks(t, name, s, m)
			if b := s.Book(); b.Free(x.from-1) || !b.Free(x.from) {
				t.Errorf("%s, margin %d: not free from %d on", name, x.margin, x.from)
			}
			if s.Torn(early, 3) != api.ErrLease || s.Commit(early) != api.ErrLease || s.Commit(take) != api.OK {
				t.Errorf("%s, margin %d: not taken from %d on", name, x.margin, x.from)
			}
		}
	}
}

// P13.2: opened of no bytes.
func TestOpenEmpty(t *testing.T) {
	for _, room := range []int{math.MinInt, -1, 0, 1, 1000, top, top + 1, math.MaxInt} {
		for _, b := range [][]byte{nil, {}} {
			s, n, e := Open(b, room, slack)
			if s == nil || n != 0 || e != api.OK {
				t.Fatal(room, n, e)
			}
			holds(t, "empty", s, &told{room: max(0, min(room, top)), margin: slack})
		}
	}
	s, m := opened(t, "empty", nil, 1000, slack)
	for _, r := range story()[:5] {
		commits(t, "empty", s, m, r)
	}
	goesOn(t, "empty", s, m)
}

// P13.2, T3: opened of a store's bytes, cut at each place: the first so many records are there, and the book of these; epochs never fall.
func TestOpenCut(t *testing.T) {
	all := story()
	whole, _ := made(t, 4000, slack, all...)
	b := whole.Bytes()
	epoch, seen := 0, 0
	for n := range len(b) + 1 {
		count := 0
		for count < len(all) && sizeTold(all[:count+1]...) <= n {
			count++
		}
		s, out, e := Open(b[:n], 4000, slack)
		if e != api.OK || out != 0 {
			t.Fatalf("cut behind %d: %d left out, %d", n, out, e)
		}
		m := &told{4000, slack, slices.Clone(all[:count])}
		holds(t, "cut", s, m)
		if now := s.Book().View().Epoch; now < epoch {
			t.Fatalf("cut behind %d: epoch %d", n, now)
		} else {
			epoch = now
		}
		if count > seen {
			goesOn(t, "cut", s, m)
			seen = count
		}
	}
	if epoch != 2 || seen != len(all) {
		t.Error(epoch, seen)
	}
}

// P13.2: opened of a store's bytes that were cut, it takes what was cut off again.
func TestOpenCutGoesOn(t *testing.T) {
	all := story()
	b := bytesTold(all...)
	for n := 0; n <= len(b); n += 7 {
		s, m := opened(t, "cut", b[:n], len(b), slack)
		for _, r := range all[s.Len():] {
			if e := s.Commit(r); e != api.OK {
				t.Fatalf("cut behind %d, %+v: %d", n, r, e)
			}
		}
		m.records = all
		holds(t, "cut, and all others", s, m)
	}
}

// P13.2: opened of a store's bytes of which one was turned: the records ahead of it are there.
func TestOpenTurned(t *testing.T) {
	all := story()[:7]
	b := bytesTold(all...)
	for i := range b {
		ahead := 0
		for sizeTold(all[:ahead+1]...) <= i {
			ahead++
		}
		for bit := range 8 {
			turned := bytes.Clone(b)
			turned[i] ^= 1 << bit
			s, _ := opened(t, "turned", turned, 1000, slack)
			if !slices.Equal(s.Records(), all[:ahead]) {
				t.Fatalf("byte %d: %d records", i, s.Len())
			}
		}
	}
}

// P13.2: opened of frames that are whole, of which a byte within was turned ahead of that: what isn't a record's bytes, or is refused then, is left out with all behind it.
func TestOpenTurnedWithin(t *testing.T) {
	all := story()[:8]
	out := 0
	for i, r := range all {
		p := entryTold(r)
		for at := range p {
			for bit := range 8 {
				turned := bytes.Clone(p)
				turned[at] ^= 1 << bit
				b := slices.Concat(bytesTold(all[:i]...), frameTold(turned), bytesTold(all[i+1:]...))
				s, _ := opened(t, "turned within", b, 1000, slack)
				if s.Len() < i || !slices.Equal(s.Records()[:i], all[:i]) {
					t.Fatalf("record %d, byte %d: %d records", i, at, s.Len())
				}
				out += len(all) - s.Len()
			}
		}
	}
	if out < 1000 {
		t.Errorf("just %d left out", out)
	}
}

// P13.2: opened of a store's bytes with others behind: these are cut off, and no entries that were left out.
func TestOpenOthersBehind(t *testing.T) {
	all := story()
	for _, others := range [][]byte{{0}, {0, 0}, {0, 1}, {0, 1, 7}, {255, 255, 255}, []byte("others"), make([]byte, 40), bytes.Repeat([]byte{255}, 40), bytesTold(lead(1, 3, 60, 9))[:11], bytesTold(lead(1, 3, 60, 9))[1:], frameTold(nil), frameTold(make([]byte, 1001))} {
		for _, n := range []int{0, 1, 5, len(all)} {
			b := slices.Concat(bytesTold(all[:n]...), others)
			s, m := opened(t, "others", b, 4000, slack)
			if !slices.Equal(s.Records(), all[:n]) {
				t.Fatalf("others %v: %d records", others, s.Len())
			}
			goesOn(t, "others", s, m)
			behind := slices.Concat(b, bytesTold(all[n:]...))
			again, out, e := Open(behind, 4000, slack)
			if e != api.OK || out != 0 || again.Len() != n {
				t.Fatalf("others %v, then records: %d records, %d left out, %d", others, again.Len(), out, e)
			}
		}
	}
}

// noRecords is payloads of frames that are no record's bytes.
func noRecords() [][]byte {
	plain := entryTold(lead(1, 3, 60, 9))
	return [][]byte{{7}, {0}, []byte("no record"), make([]byte, 6), make([]byte, 1000), plain[:5], append(bytes.Clone(plain), 0), {1, 1, 3, 60, 0, 0}, {1, 0, 3, 60, 9, 0}, {1, 1, 64, 60, 9, 0}, {8, 1, 0, 0, 0, 0},
		{1, 1, 3, 188, 0, 9, 0}, {0x81, 0, 1, 3, 60, 9, 0}, {2, 1, 0, 9, 0, 0}, {2, 1, 0, 9, 0, 2, 'x'}, {2, 1, 0, 9, 0, 1, 'x', 'y'}, entryTold(publish(1, 9, strings.Repeat("x", 65))), entryTold(begin(1, 50, api.Spec{})), frameTold(plain)}
}

// P13.2: opened of entries of which one is no record's bytes, in the first place, in the middle, and at the end: it is left out, with all behind it.
func TestOpenNoRecord(t *testing.T) {
	all := story()
	for _, p := range noRecords() {
		for i := range len(all) + 1 {
			b := slices.Concat(bytesTold(all[:i]...), frameTold(p), bytesTold(all[i:]...))
			s, out, e := Open(b, 4000, slack)
			if e != api.OK || out != len(all)-i+1 {
				t.Fatalf("%v at %d: %d left out, %d", p, i, out, e)
			}
			m := &told{4000, slack, slices.Clone(all[:i])}
			holds(t, "no record", s, m)
			if i == 0 || i == 8 || i == len(all) {
				goesOn(t, "no record", s, m)
			}
		}
	}
	if _, out, _ := Open(slices.Concat(frameTold([]byte{7}), frameTold([]byte{8}), bytesTold(all...)[:11]), 100, 0); out != 2 {
		t.Errorf("two that are no records, and one that isn't whole: %d left out", out)
	}
}

// P13.2: opened of records of which one would be refused, in the first place, in the middle, and at the end: it is left out, with all behind it, though these wouldn't be refused.
func TestOpenRefused(t *testing.T) {
	for i, x := range refusals() {
		if x.want == api.ErrArg {
			continue
		}
		name := "refusal " + strconv.Itoa(i)
		behind := []api.Record{x.r}
		b, _ := book.All(slack, x.ahead)
		v := b.View()
		for _, r := range []api.Record{lead(v.Epoch+1, 7, v.Until+slack, 10), publish(v.Epoch+1, 1000, "x"), lead(v.Epoch+1, 7, v.Until+slack+1, 10)} {
			s, out, e := Open(bytesTold(slices.Concat(x.ahead, behind)...), 4000, slack)
			if e != api.OK || out != len(behind) {
				t.Fatalf("%s: %d left out, told %d; %d", name, out, len(behind), e)
			}
			m := &told{4000, slack, slices.Clone(x.ahead)}
			holds(t, name, s, m)
			goesOn(t, name, s, m)
			behind = append(behind, r)
		}
	}
}

// P13.2: a margin that is greater than the one it was written with lets what is too early then be left out; one that is less does not.
func TestOpenOtherMargin(t *testing.T) {
	l := []api.Record{lead(1, 3, 0, 10), publish(1, 1, "x"), lead(2, 4, 15, 10), lead(2, 4, 16, 10), publish(2, 2, "y")}
	b := bytesTold(l...)
	for _, x := range []struct{ margin, left int }{{0, 5}, {4, 5}, {5, 5}, {6, 2}, {top, 2}, {math.MaxInt, 2}, {-1, 5}, {math.MinInt, 5}} {
		s, out, e := Open(b, 1000, x.margin)
		if e != api.OK || out != 5-x.left || !slices.Equal(s.Records(), l[:x.left]) {
			t.Fatalf("margin %d: %d left out, %+v, %d", x.margin, out, s.Records(), e)
		}
		holds(t, "other margin", s, &told{1000, x.margin, slices.Clone(l[:x.left])})
	}
}

// P13.1: opened of bytes for which there isn't room, by one byte, or by more, whatever of them would be left.
func TestOpenFull(t *testing.T) {
	whole := bytesTold(story()...)
	for _, b := range [][]byte{{0}, whole, slices.Concat(whole, []byte("others")), []byte("others"), slices.Concat(frameTold([]byte{7}), whole)} {
		for _, room := range []int{len(b) - 1, 0, -1, math.MinInt, len(b) / 2} {
			if s, n, e := Open(b, room, slack); s != nil || n != 0 || e != api.ErrFull {
				t.Fatalf("%d bytes, room %d: %d left out, %d", len(b), room, n, e)
			}
		}
		for _, room := range []int{len(b), len(b) + 1} {
			s, m := opened(t, "just so", b, room, slack)
			commits(t, "just so", s, m, lead(s.Book().View().Epoch+1, 9, last, 1))
		}
	}
	for _, room := range []int{top, top + 1, math.MaxInt} {
		if s, n, e := Open(make([]byte, top+1), room, slack); s != nil || n != 0 || e != api.ErrFull {
			t.Fatalf("room %d: %d", room, e)
		}
		if s, n, e := Open(make([]byte, top), room, slack); s == nil || n != 0 || e != api.OK || s.Room() != top || len(s.Bytes()) != 0 {
			t.Fatalf("room %d: %d", room, e)
		}
	}
}

// R7: each call of a nil store; and none panics of one that neither New nor Open made.
func TestNil(t *testing.T) {
	var s *Store
	for _, r := range append(story(), api.Record{}) {
		if e := s.Commit(r); e != api.ErrArg {
			t.Errorf("commit: %d", e)
		}
		for _, keep := range []int{-1, 0, 5, 1000} {
			if e := s.Torn(r, keep); e != api.ErrArg {
				t.Errorf("torn: %d", e)
			}
		}
	}
	if s.Compact() != 0 || s.Book() != nil || len(s.Records()) != 0 || s.Len() != 0 || s.Room() != 0 || len(s.Bytes()) != 0 {
		t.Error("a nil store tells something")
	}
	s = &Store{}
	if s.Commit(lead(1, 3, 0, 9)) == api.OK || s.Torn(lead(1, 3, 0, 9), 5) == api.ErrLost {
		t.Error("committed without a disk")
	}
	if s.Compact() != 0 || len(s.Records()) != 0 || s.Len() != 0 || s.Room() != 0 || len(s.Bytes()) != 0 || !book.Same(s.Book(), nil) {
		t.Error("a store without a disk tells something")
	}
}

// R4: bytes that are handed in are neither changed nor kept, with room behind them, too.
func TestHandedIn(t *testing.T) {
	all := story()
	for _, tail := range [][]byte{nil, []byte("others"), frameTold([]byte{7})} {
		b := append(make([]byte, 0, 8000), slices.Concat(bytesTold(all[:8]...), tail)...)
		behind := b[len(b):cap(b)]
		before := bytes.Clone(b)
		s, m := opened(t, "handed in", b, 4000, slack)
		for _, r := range all[8:] {
			commits(t, "handed in", s, m, r)
		}
		compacts(t, "handed in", s, m)
		if !bytes.Equal(b, before) || slices.ContainsFunc(behind, func(x byte) bool { return x != 0 }) {
			t.Fatal("changed")
		}
		s, m = opened(t, "handed in", b, 4000, slack)
		for i := range b {
			b[i] = 0xaa
		}
		holds(t, "the bytes were changed later", s, m)
	}
}

// R4: lists that are answered are new memory, and what is done to them changes no store, and no other list.
func TestAnswered(t *testing.T) {
	all := story()
	s, m := made(t, 4000, slack, all...)
	l, other, b, more := s.Records(), s.Records(), s.Bytes(), s.Bytes()
	spoil := func() {
		for i := range l {
			l[i] = api.Record{Kind: 99, Text: "spoilt"}
		}
		for i := range b {
			b[i] = 0xaa
		}
		_ = append(l[:1], api.Record{})
		_ = append(b[:1], 7)
	}
	spoil()
	holds(t, "spoilt", s, m)
	if !slices.Equal(other, all) || !bytes.Equal(more, bytesTold(all...)) {
		t.Error("another list was changed")
	}
	goesOn(t, "spoilt", s, m)
	spoil()
	looks(t, "spoilt again", s, m)
	if !slices.Equal(other, all) || !bytes.Equal(more, bytesTold(all...)) {
		t.Error("another list was changed")
	}
}

// R6: two stores have nothing in common; what is asked changes nothing.
func TestTwoStores(t *testing.T) {
	all := story()
	a, m := made(t, 4000, slack, all[:5]...)
	b, k := opened(t, "the other one", a.Bytes(), 4000, slack)
	for _, r := range all[5:] {
		commits(t, "the one", a, m, r)
		looks(t, "the other one", b, k)
	}
	compacts(t, "the one", a, m)
	looks(t, "the other one", b, k)
	tears(t, "the other one", b, k, all[5], 3)
	looks(t, "the one", a, m)
}

// mixer tells numbers, the same ones each time.
type mixer struct{ state uint64 }

func (x *mixer) below(n int) int {
	x.state = x.state*6364136223846793005 + 1442695040888963407
	return int(x.state >> 33 % uint64(n))
}

// near is the number, or one beside it.
func (x *mixer) near(n int) int {
	if x.below(9) > 0 {
		return n
	}
	return n + x.below(3) - 1
}

// record is one that may be next in a book, or nearly so.
func (x *mixer) record(b *book.Book, margin int) api.Record {
	v := b.View()
	epoch := x.near(v.Epoch)
	switch x.below(12) {
	case 0, 1, 2:
		return lead(epoch, x.near(v.Leader), max(0, v.Until-1-x.below(9)), 1+x.below(20))
	case 3:
		return lead(epoch+1, x.below(4), x.near(v.Until+margin), 1+x.below(20))
	case 4, 5:
		return publish(epoch, 1+x.below(4), strings.Repeat("d", 1+x.below(20)))
	case 6:
		return begin(epoch, v.Until, [...]api.Spec{rolling(1 + x.below(4)), canary(1+x.below(4), 20, 40, 60, 80)}[x.below(2)])
	case 7:
		return [...]api.Record{move(epoch, api.Paused, "pause"), move(epoch, api.Running, "resume"), move(epoch, api.RollingBack, "abort"), move(epoch, api.Complete, "done"), move(epoch, api.RolledBack, "back")}[x.below(5)]
	case 8, 9:
		return intent(epoch, x.below(16), [...]int{0, v.Spec.Version, v.From}[x.below(3)], x.near(v.Seq+1))
	case 10:
		who := x.below(16)
		return ack(epoch, who, x.near(b.Units()[who].Seq))
	}
	return step(epoch, x.near(v.Step+1), v.Until, "passed")
}

// P13.1 to P13.3: long rows of calls of all kinds, told by numbers, in rooms that fill up.
func TestMixedRows(t *testing.T) {
	mix, did := &mixer{7}, map[string]int{}
	for i := range 60 {
		margin, room := i%4, [...]int{0, 40, 200, 500, 1500}[mix.below(5)]
		s, m := made(t, room, margin)
		for range 60 {
			r := mix.record(m.book(), margin)
			if m.book().View().Epoch == 0 {
				r = lead(1, mix.below(3), mix.below(9), 1+mix.below(30))
			}
			switch mix.below(12) {
			case 0:
				did["torn "+strconv.Itoa(int(tears(t, "mixed", s, m, r, mix.below(sizeTold(r)+4)-1)))]++
			case 1:
				did["left out"] += compacts(t, "mixed", s, m)
			case 2:
				s, m = opened(t, "mixed", s.Bytes(), room, margin)
			case 3:
				if b := s.Bytes(); mix.below(4) == 0 {
					s, m = opened(t, "mixed, cut", b[:mix.below(len(b)+1)], room, margin)
				}
			default:
				did["commit "+strconv.Itoa(int(commits(t, "mixed", s, m, r)))]++
			}
		}
		holds(t, "mixed", s, m)
	}
	for _, x := range []string{"torn 13", "torn 4", "torn 8", "left out", "commit 0", "commit 4", "commit 6", "commit 7", "commit 8", "commit 9", "commit 10"} {
		if did[x] < 5 {
			t.Errorf("%s: just %d", x, did[x])
		}
	}
}

// P13.1 to P13.3: all short rows of some calls, in a room of 60 bytes, of a store that is new, and of one with some records.
func TestShortRows(t *testing.T) {
	const room = 60
	type call func(s *Store, m *told) (*Store, *told)
	commit := func(r api.Record) call {
		return func(s *Store, m *told) (*Store, *told) { commits(t, "short", s, m, r); return s, m }
	}
	tear := func(r api.Record, keep int) call {
		return func(s *Store, m *told) (*Store, *told) { tears(t, "short", s, m, r, keep); return s, m }
	}
	cut := func(n int) call {
		return func(s *Store, m *told) (*Store, *told) {
			b := s.Bytes()
			return opened(t, "short", b[:max(0, len(b)-n)], room, 1)
		}
	}
	calls := []call{
		commit(lead(1, 3, 0, 6)), commit(lead(1, 3, 4, 6)), commit(lead(2, 4, 11, 6)), commit(publish(1, 1, "ten bytes.")),
		tear(lead(1, 3, 2, 9), 11), tear(lead(1, 3, 2, 9), 12), cut(0), cut(1),
		func(s *Store, m *told) (*Store, *told) { compacts(t, "short", s, m); return s, m },
	}
	for _, ahead := range [][]api.Record{nil, {lead(1, 3, 0, 6), publish(1, 2, "y")}} {
		for i := range len(calls) * len(calls) * len(calls) {
			s, m := made(t, room, 1, ahead...)
			for _, which := range []int{i, i / len(calls), i / len(calls) / len(calls)} {
				s, m = calls[which%len(calls)](s, m)
			}
		}
	}
}

// T0, P13.2: opened of any bytes, and of any frames.
func FuzzOpen(f *testing.F) {
	f.Add(bytesTold(story()...), 4000, slack)
	f.Add([]byte("others"), 5, -1)
	f.Add([]byte{}, -1, math.MaxInt)
	f.Fuzz(func(t *testing.T, b []byte, room, margin int) {
		for _, b := range [][]byte{b, frameTold(b), slices.Concat(bytesTold(story()[:3]...), frameTold(b), bytesTold(story()[3:]...))} {
			cut := max(0, min(room, top))
			if len(b) > cut {
				if s, n, e := Open(b, room, margin); s != nil || n != 0 || e != api.ErrFull {
					t.Fatal(n, e)
				}
				continue
			}
			s, n, e := Open(b, room, margin)
			m, out := openTold(b, cut, margin)
			if e != api.OK || n != out {
				t.Fatal(n, out, e)
			}
			holds(t, "any bytes", s, m)
			s.Torn(lead(s.Book().View().Epoch+1, 3, last, 9), len(b))
			s.Compact()
		}
	})
}
