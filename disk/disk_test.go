package disk

import (
	"bytes"
	"math"
	"slices"
	"testing"

	"pacesetter/api"
)

const top = 1 << 20

// filled is n bytes that differ from seed to seed and hold all values.
func filled(n int, seed uint32) []byte {
	b := make([]byte, n)
	word := seed*2654435761 + 1
	for i := range b {
		word = word*1664525 + 1013904223
		b[i] = byte(word >> 24)
	}
	return b
}

// told is a disk as the chapter's words tell it: its room, bytes that are safe, and behind them bytes that aren't yet.
type told struct {
	room        int
	safe, loose []byte
}

func (m *told) all() []byte { return slices.Concat(m.safe, m.loose) }

func (m *told) write(b []byte) api.Errno {
	if len(m.safe)+len(m.loose)+len(b) > m.room {
		return api.ErrFull
	}
	m.loose = slices.Concat(m.loose, b)
	return api.OK
}

func (m *told) sync() int {
	n := len(m.loose)
	m.safe, m.loose = m.all(), nil
	return n
}

func (m *told) crash(keep int) int {
	left := m.loose
	if keep <= 0 {
		left = nil
	} else if keep < len(m.loose) {
		left = m.loose[:keep]
	}
	lost := len(m.loose) - len(left)
	m.safe, m.loose = slices.Concat(m.safe, left), nil
	return lost
}

func (m *told) cut(n int) api.Errno {
	if n < 0 || n > len(m.safe)+len(m.loose) {
		return api.ErrArg
	}
	m.safe, m.loose = m.all()[:n], nil
	return api.OK
}

func (m *told) swap(b []byte) api.Errno {
	if len(b) > m.room {
		return api.ErrFull
	}
	m.safe, m.loose = bytes.Clone(b), nil
	return api.OK
}

// The kinds of steps.
const (
	doWrite = iota
	doSync
	doCrash
	doCut
	doSwap
	kinds
)

var names = [kinds]string{"Write", "Sync", "Crash", "Cut", "Swap"}

// step is a call: its kind, and its number, or how many bytes it is given.
type step struct{ kind, n int }

// both does a step on a disk, and on what is told of it; what each of them answers. The bytes that a step is given hang on its seed.
func both(d *Disk, m *told, s step, seed uint32) (int, int) {
	switch s.kind {
	case doWrite:
		b := filled(s.n, seed)
		return int(d.Write(b)), int(m.write(b))
	case doSync:
		return d.Sync(), m.sync()
	case doCrash:
		return d.Crash(s.n), m.crash(s.n)
	case doCut:
		return int(d.Cut(s.n)), int(m.cut(s.n))
	}
	b := filled(s.n, seed)
	return int(d.Swap(b)), int(m.swap(b))
}

// same tells whether all that is asked of a disk is as it is told.
func same(d *Disk, m *told) bool {
	all := m.all()
	return bytes.Equal(d.All(), all) && d.Len() == len(all) && d.Safe() == len(m.safe) && d.Room() == m.room-len(all)
}

// play does steps on a new disk of that room, and holds what each of them answers and leaves against what is told.
func play(t *testing.T, room int, row []step) {
	t.Helper()
	d, m := New(room), &told{room: room}
	if !same(d, m) {
		t.Fatalf("a new disk of room %d: %d bytes, %d safe, room %d", room, d.Len(), d.Safe(), d.Room())
	}
	for i, s := range row {
		got, want := both(d, m, s, uint32(i))
		if got != want || !same(d, m) {
			t.Fatalf("room %d, %v, step %d (%s of %d): %d, want %d; %d bytes, %d safe, room %d, want %d, %d, %d",
				room, row, i, names[s.kind], s.n, got, want, d.Len(), d.Safe(), d.Room(), len(m.all()), len(m.safe), m.room-len(m.all()))
		}
	}
}

// written is a disk of that room, with bytes that are safe, and others that aren't.
func written(t *testing.T, room int, safe, loose []byte) *Disk {
	t.Helper()
	d := New(room)
	if e := d.Write(safe); e != api.OK {
		t.Fatalf("Write of %d bytes, room %d: %d", len(safe), room, e)
	}
	if n := d.Sync(); n != len(safe) {
		t.Fatalf("Sync: %d, want %d", n, len(safe))
	}
	if e := d.Write(loose); e != api.OK {
		t.Fatalf("Write of %d bytes behind %d, room %d: %d", len(loose), len(safe), room, e)
	}
	return d
}

// check holds a disk against what must be there.
func check(t *testing.T, name string, d *Disk, all []byte, safe, room int) {
	t.Helper()
	if !bytes.Equal(d.All(), all) || d.Len() != len(all) || d.Safe() != safe || d.Room() != room {
		t.Errorf("%s: %q, Len %d, Safe %d, Room %d, want %q, %d safe, room %d", name, d.All(), d.Len(), d.Safe(), d.Room(), all, safe, room)
	}
}

// P5.1: the chapter's example.
func TestExample(t *testing.T) {
	d := New(10)
	if e := d.Write([]byte("ab")); e != api.OK {
		t.Errorf("Write ab: %d", e)
	}
	check(t, "written ab", d, []byte("ab"), 0, 8)
	if n := d.Sync(); n != 2 {
		t.Errorf("Sync: %d", n)
	}
	check(t, "safe", d, []byte("ab"), 2, 8)
	if e := d.Write([]byte("cd")); e != api.OK {
		t.Errorf("Write cd: %d", e)
	}
	check(t, "written cd", d, []byte("abcd"), 2, 6)
	if n := d.Crash(1); n != 1 {
		t.Errorf("Crash: %d are lost", n)
	}
	check(t, "crashed", d, []byte("abc"), 3, 7)
}

// P5.1: the room of a new disk, also of numbers out of what may be, and that just so much is written to it, or swapped.
func TestRoom(t *testing.T) {
	for _, c := range []struct{ room, want int }{
		{0, 0}, {1, 1}, {2, 2}, {1000, 1000}, {top - 1, top - 1}, {top, top},
		{-1, 0}, {-2, 0}, {-top, 0}, {math.MinInt, 0}, {math.MinInt + 1, 0},
		{top + 1, top}, {2 * top, top}, {1 << 32, top}, {1<<32 + 1, top}, {math.MaxInt, top}, {math.MaxInt - 1, top},
	} {
		d := New(c.room)
		check(t, "new", d, nil, 0, c.want)
		fits, long := filled(c.want, 1), filled(c.want+1, 2)
		if e := d.Write(long); e != api.ErrFull {
			t.Errorf("room %d: Write of %d bytes: %d", c.room, len(long), e)
		}
		if e := d.Swap(long); e != api.ErrFull {
			t.Errorf("room %d: Swap of %d bytes: %d", c.room, len(long), e)
		}
		check(t, "refused", d, nil, 0, c.want)
		if e := d.Write(fits); e != api.OK || !bytes.Equal(d.All(), fits) || d.Room() != 0 || d.Safe() != 0 {
			t.Errorf("room %d: Write of %d bytes: %d, Room %d, Safe %d", c.room, len(fits), e, d.Room(), d.Safe())
		}
		swapped := filled(c.want, 3)
		if e := d.Swap(swapped); e != api.OK || !bytes.Equal(d.All(), swapped) || d.Room() != 0 || d.Safe() != c.want {
			t.Errorf("room %d: Swap of %d bytes: %d, Room %d, Safe %d", c.room, len(swapped), e, d.Room(), d.Safe())
		}
	}
}

// P5.1: a write behind others: one that just fits, and one that is a byte too long, of which none is written.
func TestWriteFull(t *testing.T) {
	for room := range 12 {
		for safe := range room + 1 {
			for loose := range room - safe + 1 {
				s, l := filled(safe, 1), filled(loose, 2)
				all, left := slices.Concat(s, l), room-safe-loose
				for more := range left + 4 {
					d := written(t, room, s, l)
					b := filled(more, 3)
					e := d.Write(b)
					if more > left {
						if e != api.ErrFull {
							t.Errorf("Write of %d, room %d: %d", more, left, e)
						}
						check(t, "Write refused", d, all, safe, left)
						continue
					}
					if e != api.OK {
						t.Errorf("Write of %d, room %d: %d", more, left, e)
					}
					check(t, "Write", d, slices.Concat(all, b), safe, left-more)
				}
			}
		}
	}
}

// P5.1: to a full disk none is written, but of no bytes all are; behind what was refused, less fits.
func TestFull(t *testing.T) {
	d := written(t, 4, []byte("ab"), []byte("cd"))
	for _, b := range [][]byte{nil, {}} {
		if e := d.Write(b); e != api.OK {
			t.Errorf("Write of none: %d", e)
		}
	}
	if e := d.Write([]byte("e")); e != api.ErrFull {
		t.Errorf("Write: %d", e)
	}
	check(t, "full", d, []byte("abcd"), 2, 0)
	if n := d.Crash(1); n != 1 {
		t.Errorf("Crash: %d", n)
	}
	if e := d.Write([]byte("ef")); e != api.ErrFull {
		t.Errorf("Write of 2, room 1: %d", e)
	}
	if e := d.Write([]byte("e")); e != api.OK {
		t.Errorf("Write of 1, room 1: %d", e)
	}
	check(t, "full again", d, []byte("abce"), 3, 0)
}

// P5.1: Sync tells how many weren't safe, once.
func TestSync(t *testing.T) {
	for loose := range 10 {
		d := written(t, 20, []byte("head"), filled(loose, 1))
		for i, want := range []int{loose, 0, 0} {
			if n := d.Sync(); n != want {
				t.Errorf("%d bytes, Sync %d: %d", loose, i, n)
			}
			check(t, "Sync", d, slices.Concat([]byte("head"), filled(loose, 1)), 4+loose, 16-loose)
		}
	}
	if n := New(5).Sync(); n != 0 {
		t.Errorf("Sync of a new disk: %d", n)
	}
}

// P5.2: of any bytes that are safe, and others behind them, a crash leaves the first ones and all first so many of the others; these are safe then, and no crash takes any of them.
func TestCrash(t *testing.T) {
	for safe := range 8 {
		for loose := range 8 {
			s, l := filled(safe, 1), filled(loose, 2)
			keeps := []int{math.MinInt, math.MinInt + 1, -1 << 32, -loose - 1, -2, -1, loose + 1, loose + safe, 100, top, top + 1, 1 << 32, math.MaxInt - 1, math.MaxInt}
			for keep := range loose + 1 {
				keeps = append(keeps, keep)
			}
			for _, keep := range keeps {
				kept := max(0, min(keep, loose))
				d := written(t, 20, s, l)
				if lost := d.Crash(keep); lost != loose-kept {
					t.Errorf("%d safe, %d aren't, Crash(%d): %d, want %d", safe, loose, keep, lost, loose-kept)
				}
				left := slices.Concat(s, l[:kept])
				check(t, "crashed", d, left, len(left), 20-len(left))
				for _, again := range []int{0, -1, math.MinInt, 3, math.MaxInt} {
					if lost := d.Crash(again); lost != 0 {
						t.Errorf("crashed again, Crash(%d): %d", again, lost)
					}
					check(t, "crashed again", d, left, len(left), 20-len(left))
				}
			}
		}
	}
}

// P5.2: what was written one behind the other is lost from the end of all that, not of each write.
func TestCrashOfWrites(t *testing.T) {
	for keep := range 10 {
		d := written(t, 100, []byte("ab"), []byte("cd"))
		d.Write([]byte("e"))
		d.Write([]byte("fgh"))
		if lost := d.Crash(keep); lost != max(0, 6-keep) {
			t.Errorf("Crash(%d): %d", keep, lost)
		}
		left := []byte("abcdefgh")[:min(8, 2+keep)]
		check(t, "crashed", d, left, len(left), 100-len(left))
	}
}

// P5.2: what was lost doesn't come back: what is written next stands in its place, and is not safe, either.
func TestWrittenBehindCrash(t *testing.T) {
	for next := range 7 {
		d := written(t, 20, []byte("ab"), []byte("cdefg"))
		d.Crash(2)
		b := filled(next, 3)
		if e := d.Write(b); e != api.OK {
			t.Errorf("Write: %d", e)
		}
		check(t, "written behind a crash", d, slices.Concat([]byte("abcd"), b), 4, 16-next)
		if lost := d.Crash(0); lost != next {
			t.Errorf("crashed again: %d, want %d", lost, next)
		}
		check(t, "crashed again", d, []byte("abcd"), 4, 16)
	}
}

// P5.2: what is safe by a Cut or a Swap is lost by no crash, either.
func TestCrashBehindCutAndSwap(t *testing.T) {
	d := written(t, 20, []byte("ab"), []byte("cdef"))
	d.Cut(4)
	d.Write([]byte("x"))
	if lost := d.Crash(0); lost != 1 {
		t.Errorf("behind a Cut: %d", lost)
	}
	check(t, "behind a Cut", d, []byte("abcd"), 4, 16)
	d.Write([]byte("yz"))
	d.Swap([]byte("new"))
	if lost := d.Crash(0); lost != 0 {
		t.Errorf("behind a Swap: %d", lost)
	}
	check(t, "behind a Swap", d, []byte("new"), 3, 17)
}

// P5.1: cut to each number that may be, and to others; all that is left is safe, and what is refused leaves all as it was.
func TestCut(t *testing.T) {
	for safe := range 8 {
		for loose := range 8 {
			s, l := filled(safe, 1), filled(loose, 2)
			all := slices.Concat(s, l)
			for n := range len(all) + 1 {
				d := written(t, 20, s, l)
				if e := d.Cut(n); e != api.OK {
					t.Errorf("%d bytes, Cut(%d): %d", len(all), n, e)
				}
				check(t, "cut", d, all[:n], n, 20-n)
				if n < len(all) {
					if e := d.Cut(n + 1); e != api.ErrArg {
						t.Errorf("%d bytes are left, Cut(%d): %d", n, n+1, e)
					}
				}
				check(t, "cut, then refused", d, all[:n], n, 20-n)
			}
			for _, n := range []int{-1, -2, -len(all) - 1, -1 << 32, math.MinInt, math.MinInt + 1, len(all) + 1, len(all) + 2, 20, 21, top, 1 << 32, math.MaxInt - 1, math.MaxInt} {
				d := written(t, 20, s, l)
				if e := d.Cut(n); e != api.ErrArg {
					t.Errorf("%d bytes, Cut(%d): %d", len(all), n, e)
				}
				check(t, "Cut refused", d, all, safe, 20-len(all))
			}
		}
	}
}

// P5.1: what was cut off doesn't come back: what is written next stands in its place, not safe.
func TestWrittenBehindCut(t *testing.T) {
	for n := range 7 {
		d := written(t, 20, []byte("ab"), []byte("cdef"))
		d.Cut(n)
		d.Write([]byte("xy"))
		check(t, "written behind a Cut", d, slices.Concat([]byte("abcdef")[:n], []byte("xy")), n, 18-n)
	}
}

// P5.1: a swap that fits, of more bytes than were there, or less, or none; and one that doesn't, which leaves all. What there is room for is all the room, not what is left of it.
func TestSwap(t *testing.T) {
	for _, was := range []int{0, 1, 4, 8} {
		for safe := range was + 1 {
			s, l := filled(safe, 1), filled(was-safe, 2)
			for n := range 8 + 5 {
				d := written(t, 8, s, l)
				b := filled(n, 3)
				e := d.Swap(b)
				if n > 8 {
					if e != api.ErrFull {
						t.Errorf("Swap of %d: %d", n, e)
					}
					check(t, "Swap refused", d, slices.Concat(s, l), safe, 8-was)
					continue
				}
				if e != api.OK {
					t.Errorf("Swap of %d: %d", n, e)
				}
				check(t, "swapped", d, b, n, 8-n)
				if m := d.Sync(); m != 0 {
					t.Errorf("swapped, Sync: %d", m)
				}
			}
		}
	}
	d := written(t, 8, []byte("ab"), []byte("c"))
	if e := d.Swap(nil); e != api.OK {
		t.Errorf("Swap of nil: %d", e)
	}
	check(t, "Swap of nil", d, nil, 0, 8)
}

// alphabet is steps that may follow one another: each call, with numbers within, at, and out of what may be.
func alphabet() []step {
	l := []step{{doSync, 0}}
	for _, n := range []int{0, 1, 2, 4} {
		l = append(l, step{doWrite, n}, step{doSwap, n})
	}
	for _, n := range []int{-1, 0, 1, 3} {
		l = append(l, step{doCrash, n}, step{doCut, n})
	}
	return l
}

// P5.1: all rows of four steps, on disks of little room.
func TestAllRows(t *testing.T) {
	l := alphabet()
	row := make([]step, 4)
	for room := range 5 {
		for i := range len(l) * len(l) * len(l) * len(l) {
			for at, rest := 0, i; at < len(row); at, rest = at+1, rest/len(l) {
				row[at] = l[rest%len(l)]
			}
			play(t, room, row)
		}
	}
}

// row is many steps that hang on a seed, with numbers about what there is room for.
func row(count, room int, seed uint32) []step {
	l := make([]step, count)
	b := filled(5*count, seed)
	for i := range l {
		c := b[5*i : 5*i+5]
		n := (int(c[1])<<8 | int(c[2])) % (room + 8)
		if c[3] < 128 {
			n /= 1 + room/16
		}
		l[i] = step{int(c[0]) % (kinds + 2) % kinds, n}
		if k := l[i].kind; c[4] < 16 && (k == doCrash || k == doCut) {
			l[i].n = -n
		}
	}
	return l
}

// P5.1: long rows, on disks of little and of much room.
func TestLongRows(t *testing.T) {
	for _, room := range []int{0, 1, 2, 3, 7, 8, 16, 63, 64, 100, 1000, 5000} {
		for seed := range uint32(40) {
			play(t, room, row(150, room, seed))
		}
	}
	play(t, top, row(60, top, 1))
	play(t, top, []step{{doWrite, top}, {doWrite, 1}, {doCrash, top - 1}, {doWrite, 1}, {doSync, 0}, {doCut, top}, {doCut, top + 1}, {doSwap, top}, {doSwap, top + 1}, {doWrite, 0}, {doWrite, 1}, {doCut, 0}, {doWrite, top}})
}

// T0: very many small writes, each made safe, come to their end.
func TestManyWrites(t *testing.T) {
	d := New(top)
	b := filled(top, 4)
	for i := range b {
		if d.Write(b[i:i+1]) != api.OK || d.Sync() != 1 {
			t.Fatalf("write %d", i)
		}
	}
	if !bytes.Equal(d.All(), b) || d.Safe() != top || d.Room() != 0 || d.Write([]byte{0}) != api.ErrFull {
		t.Errorf("%d bytes, %d safe, room %d", d.Len(), d.Safe(), d.Room())
	}
}

// P5.1, R7: of nil.
func TestNil(t *testing.T) {
	var d *Disk
	for _, b := range [][]byte{nil, {}, []byte("ab"), filled(top+1, 1)} {
		if e := d.Write(b); e != api.ErrArg {
			t.Errorf("Write of %d: %d", len(b), e)
		}
		if e := d.Swap(b); e != api.ErrArg {
			t.Errorf("Swap of %d: %d", len(b), e)
		}
	}
	for _, n := range []int{math.MinInt, -1, 0, 1, top, math.MaxInt} {
		if e := d.Cut(n); e != api.ErrArg {
			t.Errorf("Cut(%d): %d", n, e)
		}
		if lost := d.Crash(n); lost != 0 {
			t.Errorf("Crash(%d): %d", n, lost)
		}
	}
	if n := d.Sync(); n != 0 {
		t.Errorf("Sync: %d", n)
	}
	if len(d.All()) != 0 || d.Len() != 0 || d.Safe() != 0 || d.Room() != 0 {
		t.Errorf("%q, Len %d, Safe %d, Room %d", d.All(), d.Len(), d.Safe(), d.Room())
	}
}

// T0: a disk that New didn't make is one without room.
func TestNotMade(t *testing.T) {
	d := new(Disk)
	if d.Write(nil) != api.OK || d.Write([]byte{1}) != api.ErrFull || d.Swap([]byte{1}) != api.ErrFull || d.Cut(1) != api.ErrArg || d.Cut(0) != api.OK || d.Swap(nil) != api.OK || d.Sync() != 0 || d.Crash(1) != 0 {
		t.Error("it answers otherwise than a disk without room")
	}
	check(t, "not made", d, nil, 0, 0)
}

// giving are the calls that are given bytes.
func giving() map[string]func(*Disk, []byte) api.Errno {
	return map[string]func(*Disk, []byte) api.Errno{"Write": (*Disk).Write, "Swap": (*Disk).Swap}
}

// R4: what is handed in isn't changed, nor is the room behind it, and the disk doesn't hang on it, whether it was refused or not.
func TestHandedIn(t *testing.T) {
	for name, give := range giving() {
		for _, room := range []int{0, 3, 4, 5, 100} {
			d := New(room)
			behind := bytes.Repeat([]byte{'r'}, 64)
			b := behind[:4]
			copy(b, "abcd")
			was := bytes.Clone(behind)
			var want []byte
			if give(d, b) == api.OK {
				want = []byte("abcd")
			}
			d.Write([]byte("e"))
			all := d.All()
			if !bytes.HasPrefix(all, want) || !bytes.Equal(behind, was) {
				t.Errorf("%s, room %d: %q, handed in is %q", name, room, all, behind)
			}
			for i := range behind {
				behind[i] = 'z'
			}
			if !bytes.Equal(d.All(), all) {
				t.Errorf("%s, room %d: the disk hangs on what was handed in: %q", name, room, d.All())
			}
			d.Cut(0)
			d.Write(filled(room, 1))
			if !bytes.Equal(behind, bytes.Repeat([]byte{'z'}, 64)) {
				t.Errorf("%s, room %d: what was handed in hangs on the disk", name, room)
			}
		}
	}
}

// R4: what was answered hangs on no later call, and the disk on nothing that is done to an answer, as far as its room goes.
func TestAnswered(t *testing.T) {
	later := []func(*Disk){
		func(d *Disk) { d.Write([]byte("xyz")) },
		func(d *Disk) { d.Crash(1); d.Write([]byte("xyz")) },
		func(d *Disk) { d.Cut(0); d.Write([]byte("xyzxyz")) },
		func(d *Disk) { d.Swap([]byte("xyzxyz")) },
		func(d *Disk) { d.Sync(); d.Write([]byte("xyz")) },
	}
	for i, do := range later {
		d := written(t, 20, []byte("ab"), []byte("cd"))
		first, second := d.All(), d.All()
		do(d)
		if string(first) != "abcd" || string(second) != "abcd" {
			t.Errorf("call %d: an answer hangs on the disk: %q, %q", i, first, second)
		}
		was, safe := d.All(), d.Safe()
		for _, b := range [][]byte{first, d.All()} {
			whole := b[:cap(b)]
			for j := range whole {
				whole[j] = 'q'
			}
		}
		if string(second) != "abcd" {
			t.Errorf("call %d: an answer hangs on another: %q", i, second)
		}
		check(t, "what is answered was changed", d, was, safe, 20-len(was))
	}
}

// R6: a disk hangs on no other one, and asking changes nothing.
func TestTwoDisks(t *testing.T) {
	one, other := New(8), New(8)
	b := []byte("abcd")
	one.Swap(b)
	other.Swap(one.All())
	one.Cut(2)
	one.Write([]byte("xy"))
	other.Write([]byte("ef"))
	for range 3 {
		check(t, "one", one, []byte("abxy"), 2, 4)
		check(t, "other", other, []byte("abcdef"), 4, 2)
	}
	if lost := one.Crash(1); lost != 1 {
		t.Errorf("one, crashed: %d", lost)
	}
	check(t, "one, crashed", one, []byte("abx"), 3, 5)
	check(t, "other, of which none crashed", other, []byte("abcdef"), 4, 2)
}

func FuzzRow(f *testing.F) {
	f.Add(10, []byte{0, 2, 1, 0, 0, 2, 2, 1})
	f.Add(3, []byte{0, 3, 0, 1, 3, 2, 4, 3, 4, 4, 3, 5})
	f.Add(-1, []byte{0, 0, 0, 1})
	f.Fuzz(func(t *testing.T, room int, b []byte) {
		var l []step
		for ; len(b) > 1; b = b[2:] {
			s := step{int(b[0]) % kinds, int(b[1])}
			if b[0] >= 128 && (s.kind == doCrash || s.kind == doCut) {
				s.n = -s.n
			}
			l = append(l, s)
		}
		play(t, int(uint(room)%512), l)
	})
}
