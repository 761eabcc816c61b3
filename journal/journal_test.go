package journal

import (
	"bytes"
	"encoding/binary"
	"hash/crc32"
	"math"
	"slices"
	"testing"

	"pacesetter/api"
	"pacesetter/disk"
)

const top = 1 << 20

// filled is n bytes that differ from seed to seed and hold all values.
func filled(n int, seed uint32) []byte {
	b := make([]byte, n)
	word := seed*2654435761 + 1
	for i := range b {
		word = word*1664525 + 1013904223
		b[i] = byte(word >> 24)
	}
	return b
}

// frameTold is a frame as layer 4's chapter tells it, by the library's own check.
func frameTold(payload []byte) []byte {
	b := binary.BigEndian.AppendUint16(nil, uint16(len(payload)))
	b = append(b, payload...)
	return binary.BigEndian.AppendUint32(b, crc32.ChecksumIEEE(b))
}

// framesTold are the frames of payloads, one behind the other.
func framesTold(l [][]byte) []byte {
	var b []byte
	for _, p := range l {
		b = append(b, frameTold(p)...)
	}
	return b
}

// scanTold are the payloads of the frames at the beginning that can be got, and how many bytes these frames have: what is there is a frame just if it is its payload's one.
func scanTold(b []byte) ([][]byte, int) {
	var l [][]byte
	at := 0
	for len(b[at:]) > 6 {
		n := int(binary.BigEndian.Uint16(b[at:]))
		if n < 1 || n > 1000 || len(b[at:]) < n+6 {
			break
		}
		p := b[at+2 : at+2+n]
		if !bytes.HasPrefix(b[at:], frameTold(p)) {
			break
		}
		l, at = append(l, p), at+n+6
	}
	return l, at
}

// told is a journal as the chapter's words tell it: its disk's room, entries that are safe, and behind them entries that aren't yet.
type told struct {
	room        int
	safe, loose [][]byte
}

func (m *told) all() [][]byte { return slices.Concat(m.safe, m.loose) }

func (m *told) left() int { return m.room - len(framesTold(m.all())) }

// refused is Put's error of a payload.
func refused(p []byte) api.Errno {
	if len(p) == 0 {
		return api.ErrArg
	}
	if len(p) > 1000 {
		return api.ErrOver
	}
	return api.OK
}

func (m *told) append(p []byte) api.Errno {
	if e := refused(p); e != api.OK {
		return e
	}
	if len(p)+6 > m.left() {
		return api.ErrFull
	}
	m.loose = append(m.loose, p)
	return api.OK
}

func (m *told) torn(p []byte, keep int) api.Errno {
	if e := m.append(p); e != api.OK {
		return e
	}
	if keep < len(p)+6 {
		m.loose = m.loose[:len(m.loose)-1]
	}
	m.sync()
	return api.ErrLost
}

func (m *told) sync() int {
	n := len(m.loose)
	m.safe, m.loose = m.all(), nil
	return n
}

func (m *told) crash(keep int) int {
	n := 0
	for n < len(m.loose) && keep >= len(m.loose[n])+6 {
		keep -= len(m.loose[n]) + 6
		n++
	}
	lost := len(m.loose) - n
	m.loose = m.loose[:n]
	m.sync()
	return lost
}

func (m *told) swap(l [][]byte) api.Errno {
	size := 0
	for _, p := range l {
		if e := refused(p); e != api.OK {
			return e
		}
		size += len(p) + 6
	}
	if size > m.room {
		return api.ErrFull
	}
	m.safe, m.loose = l, nil
	return api.OK
}

// The kinds of steps.
const (
	doAppend = iota
	doTorn
	doSync
	doCrash
	doSwap
	doOpen
	kinds
)

var names = [kinds]string{"Append", "Torn", "Sync", "Crash", "Swap", "Open"}

// step is a call: its kind; how long the payloads are that it is given; and how many bytes it keeps.
type step struct {
	kind int
	n    []int
	keep int
}

// one is the length of the payload of a step that is given just one.
func (s step) one() int {
	if len(s.n) == 0 {
		return 0
	}
	return s.n[0]
}

// pair is a journal, the disk on which it lies, and what is told of it.
type pair struct {
	d *disk.Disk
	j *Journal
	m *told
}

func newPair(room int) *pair {
	d := disk.New(room)
	j, _ := Open(d)
	return &pair{d, j, &told{room: room}}
}

// do does a step on both; what each of them answers. The payloads that a step is given hang on its seed.
func (a *pair) do(s step, seed uint32) (int, int) {
	switch s.kind {
	case doAppend:
		p := filled(s.one(), seed)
		return int(a.j.Append(p)), int(a.m.append(p))
	case doTorn:
		p := filled(s.one(), seed)
		return int(a.j.Torn(p, s.keep)), int(a.m.torn(p, s.keep))
	case doSync:
		return a.j.Sync(), a.m.sync()
	case doCrash:
		return a.j.Crash(s.keep), a.m.crash(s.keep)
	case doSwap:
		l := [][]byte{}
		for i, n := range s.n {
			l = append(l, filled(n, seed+uint32(i)*77))
		}
		return int(a.j.Swap(l)), int(a.m.swap(l))
	}
	a.m.sync()
	var cut int
	a.j, cut = Open(a.d)
	return cut, 0
}

// same tells whether all that is asked of a journal, and of its disk, is as it is told.
func (a *pair) same() bool {
	all := a.m.all()
	return slices.EqualFunc(a.j.All(), all, bytes.Equal) && a.j.Len() == len(all) && a.j.Safe() == len(a.m.safe) && a.j.Room() == a.m.left() &&
		bytes.Equal(a.d.All(), framesTold(all)) && a.d.Safe() == len(framesTold(a.m.safe))
}

// sameOpened tells whether a journal of which all is safe is the same when its disk is opened again.
func (a *pair) sameOpened() bool {
	j, cut := Open(a.d)
	return cut == 0 && slices.EqualFunc(j.All(), a.m.safe, bytes.Equal) && j.Safe() == len(a.m.safe) && a.same()
}

// play does steps on a new journal on a disk of that room, and holds what each of them answers and leaves against what is told; of what a crash or a torn entry left, also what it is when it is opened again.
func play(t *testing.T, room int, row []step) {
	t.Helper()
	a := newPair(room)
	if !a.same() {
		t.Fatalf("a new journal, room %d: %d entries, %d safe, room %d", room, a.j.Len(), a.j.Safe(), a.j.Room())
	}
	for i, s := range row {
		got, want := a.do(s, uint32(i))
		if got != want || !a.same() {
			t.Fatalf("room %d, %v, step %d (%s): %d, want %d; %d entries, %d safe, room %d, want %d, %d, %d",
				room, row, i, names[s.kind], got, want, a.j.Len(), a.j.Safe(), a.j.Room(), len(a.m.all()), len(a.m.safe), a.m.left())
		}
		if lost := s.kind == doTorn && got == int(api.ErrLost); (lost || s.kind == doCrash) && !a.sameOpened() {
			t.Fatalf("room %d, %v, step %d (%s): it is another when it is opened again", room, row, i, names[s.kind])
		}
	}
}

// written is a journal with entries that are safe, and others that aren't.
func written(t *testing.T, room int, safe, loose [][]byte) *pair {
	t.Helper()
	a := newPair(room)
	for _, p := range safe {
		if e := a.j.Append(p); e != api.OK {
			t.Fatalf("Append of %d bytes, room %d: %d", len(p), room, e)
		}
	}
	if n := a.j.Sync(); n != len(safe) {
		t.Fatalf("Sync: %d, want %d", n, len(safe))
	}
	for _, p := range loose {
		if e := a.j.Append(p); e != api.OK {
			t.Fatalf("Append of %d bytes behind %d entries, room %d: %d", len(p), len(safe), room, e)
		}
	}
	a.m.safe, a.m.loose = slices.Clone(safe), slices.Clone(loose)
	a.check(t, "written")
	return a
}

// check holds a journal against what is told of it.
func (a *pair) check(t *testing.T, name string) {
	t.Helper()
	if !a.same() {
		t.Errorf("%s: %q, Len %d, Safe %d, Room %d, on %d bytes, %d of them safe; want %q, %d safe, room %d",
			name, a.j.All(), a.j.Len(), a.j.Safe(), a.j.Room(), a.d.Len(), a.d.Safe(), a.m.all(), len(a.m.safe), a.m.left())
	}
}

// texts are payloads of texts.
func texts(l ...string) [][]byte {
	var out [][]byte
	for _, s := range l {
		out = append(out, []byte(s))
	}
	return out
}

// P6.1: the chapter's example.
func TestExample(t *testing.T) {
	d := disk.New(100)
	j, cut := Open(d)
	if cut != 0 {
		t.Errorf("Open: %d", cut)
	}
	if e := j.Append([]byte("a")); e != api.OK {
		t.Errorf("Append a: %d", e)
	}
	if n := j.Sync(); n != 1 {
		t.Errorf("Sync: %d", n)
	}
	if e := j.Append([]byte("b")); e != api.OK {
		t.Errorf("Append b: %d", e)
	}
	if l := j.All(); len(l) != 2 || string(l[0]) != "a" || string(l[1]) != "b" || j.Len() != 2 || j.Safe() != 1 || j.Room() != 86 {
		t.Errorf("%q, Len %d, Safe %d, Room %d", l, j.Len(), j.Safe(), j.Room())
	}
	if n := j.Crash(6); n != 1 {
		t.Errorf("Crash: %d are lost", n)
	}
	if l := j.All(); len(l) != 1 || string(l[0]) != "a" || j.Len() != 1 || j.Safe() != 1 || j.Room() != 93 {
		t.Errorf("crashed: %q, Len %d, Safe %d, Room %d", l, j.Len(), j.Safe(), j.Room())
	}
}

// opened opens a disk of these bytes, of which the first so many are safe, and holds the journal against the frames that can be got of them.
func opened(t *testing.T, name string, b []byte, safe int) {
	t.Helper()
	d := disk.New(len(b) + 20)
	d.Write(b[:safe])
	d.Sync()
	d.Write(b[safe:])
	l, size := scanTold(b)
	j, cut := Open(d)
	if cut != len(b)-size {
		t.Errorf("%s: %d bytes are cut off, want %d", name, cut, len(b)-size)
	}
	a := &pair{d, j, &told{room: len(b) + 20, safe: l}}
	a.check(t, name)
	if !a.sameOpened() {
		t.Errorf("%s: it is another when it is opened again", name)
	}
	a.do(step{kind: doAppend, n: []int{3}}, 5)
	a.check(t, name+", and an entry more")
}

// somePayloads are payloads of which frames lie on a disk.
func somePayloads() [][]byte {
	return [][]byte{{7}, []byte("ab"), {0}, filled(20, 1), frameTold([]byte("x"))}
}

// P6.1: opened of whole frames, none of which is cut off, and all of which are safe then.
func TestOpenWhole(t *testing.T) {
	l := [][]byte{{7}, []byte("ab"), filled(1000, 2), {0}, filled(999, 3), frameTold([]byte("x"))}
	for n := range len(l) + 1 {
		b := framesTold(l[:n])
		for _, safe := range []int{0, 1, 7, 9, len(b) / 2, len(b) - 1, len(b)} {
			if safe < 0 || safe > len(b) {
				continue
			}
			opened(t, "whole frames", b, safe)
			if _, size := scanTold(b); size != len(b) {
				t.Errorf("%d frames: just %d bytes of %d can be got", n, size, len(b))
			}
		}
	}
}

// P6.1, P6.2: opened of frames cut off anywhere, of which any bytes were safe.
func TestOpenCutAnywhere(t *testing.T) {
	b := framesTold(somePayloads())
	for n := range len(b) + 1 {
		for _, safe := range []int{0, n / 3, n} {
			opened(t, "frames cut off", b[:n], safe)
		}
	}
	long := framesTold([][]byte{{7}, filled(1000, 2), {8}})
	for n := range len(long) + 1 {
		opened(t, "a long frame cut off", long[:n], n)
	}
}

// P6.1: opened of frames of which a bit of any byte was turned: that frame, and all behind it, are cut off.
func TestOpenTurned(t *testing.T) {
	b := framesTold(somePayloads())
	for i := range b {
		for bit := range 8 {
			turned := bytes.Clone(b)
			turned[i] ^= 1 << bit
			opened(t, "a byte was turned", turned, len(turned))
		}
	}
	turned := framesTold(texts("a", "b", "c"))
	turned[9] ^= 1
	d := disk.New(100)
	d.Swap(turned)
	if j, cut := Open(d); cut != 14 || j.Len() != 1 || string(j.All()[0]) != "a" || j.Room() != 93 {
		t.Errorf("of three, the second one turned: %q, %d are cut off", j.All(), cut)
	}
}

// P6.1: opened of bytes that are no frames, alone, or behind frames, also if frames stand behind them.
func TestOpenOthers(t *testing.T) {
	others := [][]byte{nil, {0}, {0, 1}, {0, 0}, {0, 1, 7}, {3, 233}, {255, 255, 255}, []byte("others"), make([]byte, 40), bytes.Repeat([]byte{255}, 40), {0, 1, 7, 0, 0, 0, 0},
		append([]byte{0, 0}, binary.BigEndian.AppendUint32(nil, crc32.ChecksumIEEE([]byte{0, 0}))...), frameTold(filled(1001, 3)), frameTold(filled(1000, 3))[:1005], frameTold(nil)}
	for seed := range uint32(100) {
		others = append(others, filled(int(seed)*7, seed))
	}
	for _, o := range others {
		for n := range 4 {
			b := framesTold(somePayloads()[:n])
			opened(t, "others", slices.Concat(b, o), len(b))
			opened(t, "others, then frames", slices.Concat(b, o, b, frameTold([]byte{1})), len(b)+len(o))
		}
	}
}

// P6.1: payloads of each length that matters, on a disk with room enough: one without bytes, and one of 1001 bytes, are refused.
func TestAppendLengths(t *testing.T) {
	for _, c := range []struct {
		n    int
		want api.Errno
	}{
		{0, api.ErrArg}, {1, api.OK}, {2, api.OK}, {255, api.OK}, {256, api.OK}, {257, api.OK}, {999, api.OK}, {1000, api.OK}, {1001, api.ErrOver}, {1002, api.ErrOver}, {65536, api.ErrOver}, {65537, api.ErrOver}, {top, api.ErrOver},
	} {
		a := written(t, 5000, texts("a"), texts("b"))
		p := filled(c.n, 4)
		if e := a.j.Append(p); e != c.want {
			t.Errorf("Append of %d bytes: %d", c.n, e)
		}
		if c.want == api.OK {
			a.m.loose = append(a.m.loose, p)
		}
		a.check(t, "appended")
		if c.want == api.OK {
			if n := a.j.Sync(); n != 2 {
				t.Errorf("Sync: %d", n)
			}
			a.m.sync()
			a.check(t, "safe")
		}
	}
	a := written(t, 5000, texts("a"), texts("b"))
	if e := a.j.Append(nil); e != api.ErrArg {
		t.Errorf("Append of nil: %d", e)
	}
	a.check(t, "Append of nil")
}

// P6.1: an entry whose frame just fits, and one whose frame is a byte too long; where nothing fits, either, what Put refuses is refused as there.
func TestAppendFits(t *testing.T) {
	for _, left := range []int{0, 1, 6, 7, 8, 9, 50, 500, 1005, 1006, 1007} {
		for _, n := range []int{0, 1, 2, left - 7, left - 6, left - 5, 999, 1000, 1001} {
			if n < 0 {
				continue
			}
			a := written(t, left+15, texts("a"), texts("bc"))
			p := filled(n, 4)
			want := refused(p)
			if want == api.OK && n+6 > left {
				want = api.ErrFull
			}
			if want == api.OK {
				a.m.loose = append(a.m.loose, p)
			}
			if e := a.j.Append(p); e != want {
				t.Errorf("Append of %d bytes, room %d: %d, want %d", n, left, e, want)
			}
			a.check(t, "appended")
			if n == left-6 && want == api.OK && a.j.Room() != 0 {
				t.Errorf("Append of %d bytes, room %d: room %d is left", n, left, a.j.Room())
			}
		}
	}
}

// keepsOf are numbers of bytes to be kept out of so many: within, at, and out of what may be.
func keepsOf(n int) []int {
	l := []int{math.MinInt, math.MinInt + 1, -1 << 32, -n - 1, -n, -2, -1, n + 1, n + 2, 2 * n, top, 1 << 32, math.MaxInt - n, math.MaxInt - 1, math.MaxInt}
	for keep := range n + 1 {
		l = append(l, keep)
	}
	return l
}

// P6.1, P6.2: a torn entry of which each number of bytes is written, behind entries that are safe, and others that aren't: all those are safe then, and it is there just if all its bytes are; always ErrLost.
func TestTorn(t *testing.T) {
	for _, safe := range [][][]byte{nil, texts("s"), texts("s", "tt")} {
		for _, loose := range [][][]byte{nil, texts("l"), texts("l", "mm", "nnn")} {
			for _, n := range []int{1, 2, 13} {
				p := filled(n, 4)
				for _, keep := range keepsOf(n + 6) {
					a := written(t, 100, safe, loose)
					if e := a.j.Torn(p, keep); e != api.ErrLost {
						t.Errorf("Torn of %d bytes, %d are written: %d", n, keep, e)
					}
					a.m.safe, a.m.loose = slices.Concat(safe, loose), nil
					if keep >= n+6 {
						a.m.safe = append(a.m.safe, p)
					}
					a.check(t, "torn")
					if lost := a.j.Crash(0); lost != 0 || a.j.Sync() != 0 || !a.sameOpened() {
						t.Errorf("Torn of %d bytes, %d are written: not safe, %d are lost", n, keep, lost)
					}
					if e := a.j.Append([]byte("z")); e != api.OK {
						t.Errorf("Append behind Torn: %d", e)
					}
					a.m.loose = texts("z")
					a.check(t, "appended behind a torn one")
				}
			}
		}
	}
}

// P6.1: the longest entry, torn.
func TestTornLongest(t *testing.T) {
	p := filled(1000, 4)
	for _, c := range []struct{ keep, want int }{{0, 1}, {1, 1}, {2, 1}, {1000, 1}, {1002, 1}, {1005, 1}, {1006, 2}, {1007, 2}, {-1006, 1}} {
		a := written(t, 1013, nil, texts("a"))
		if e := a.j.Torn(p, c.keep); e != api.ErrLost {
			t.Errorf("Torn, %d are written: %d", c.keep, e)
		}
		a.m.safe, a.m.loose = [][]byte{[]byte("a"), p}[:c.want], nil
		a.check(t, "torn")
	}
}

// P6.1: a torn entry that Append would refuse is refused as there, and nothing is done, whatever is to be kept: no crash, either.
func TestTornRefused(t *testing.T) {
	for _, c := range []struct {
		left, n int
		want    api.Errno
	}{
		{50, 0, api.ErrArg}, {0, 0, api.ErrArg}, {2000, 1001, api.ErrOver}, {0, 1001, api.ErrOver}, {2000, 70000, api.ErrOver},
		{0, 1, api.ErrFull}, {6, 1, api.ErrFull}, {7, 2, api.ErrFull}, {50, 45, api.ErrFull}, {1005, 1000, api.ErrFull},
	} {
		for _, keep := range []int{math.MinInt, -1, 0, 1, 6, c.n, c.n + 5, c.n + 6, math.MaxInt} {
			a := written(t, c.left+15, texts("a"), texts("bc"))
			if e := a.j.Torn(filled(c.n, 4), keep); e != c.want {
				t.Errorf("Torn of %d bytes, room %d, %d to be written: %d, want %d", c.n, c.left, keep, e, c.want)
			}
			a.check(t, "Torn refused")
		}
	}
}

// P6.1: Sync tells how many entries weren't safe, once.
func TestSync(t *testing.T) {
	for n := range 6 {
		loose := somePayloads()[:min(n, 5)]
		a := written(t, 200, texts("head", "er"), loose)
		for i, want := range []int{len(loose), 0, 0} {
			if m := a.j.Sync(); m != want {
				t.Errorf("%d entries, Sync %d: %d", n, i, m)
			}
			a.m.sync()
			a.check(t, "Sync")
		}
	}
}

// P6.1, P6.2: of any entries that are safe, and others behind them, a crash leaves the first ones, and of the others the first ones that are kept as a whole; these are safe then, are lost by no crash, and are the same when the disk is opened again.
func TestCrash(t *testing.T) {
	l := texts("l", "mm", "nnn", "o")
	for _, safe := range [][][]byte{nil, texts("s"), texts("s", "tt")} {
		for n := range len(l) + 1 {
			loose := l[:n]
			for _, keep := range keepsOf(len(framesTold(loose))) {
				kept, _ := scanTold(framesTold(loose)[:max(0, min(keep, len(framesTold(loose))))])
				a := written(t, 100, safe, loose)
				if lost := a.j.Crash(keep); lost != n-len(kept) {
					t.Errorf("%d safe, %d aren't, Crash(%d): %d, want %d", len(safe), n, keep, lost, n-len(kept))
				}
				a.m.safe, a.m.loose = slices.Concat(safe, kept), nil
				a.check(t, "crashed")
				for _, again := range []int{0, -1, math.MinInt, 3, math.MaxInt} {
					if lost := a.j.Crash(again); lost != 0 || !a.sameOpened() {
						t.Errorf("crashed again, Crash(%d): %d", again, lost)
					}
				}
				if e := a.j.Append([]byte("z")); e != api.OK {
					t.Errorf("Append behind a crash: %d", e)
				}
				a.m.loose = texts("z")
				a.check(t, "appended behind a crash")
			}
		}
	}
}

// P6.1: a swap for none, its own, others; all are safe then, and lost by no crash. What there is room for is all the room.
func TestSwap(t *testing.T) {
	for _, safe := range [][][]byte{nil, texts("s"), texts("s", "tt")} {
		for _, loose := range [][][]byte{nil, texts("l"), texts("l", "mm")} {
			own := slices.Concat(safe, loose)
			for _, l := range [][][]byte{nil, {}, own, texts("s"), texts("l", "s"), texts("x", "x", "x"), {filled(44, 1)}, {filled(18, 2), filled(20, 3)}, texts("1", "2", "3", "4", "5", "66", "7")} {
				a := written(t, 50, safe, loose)
				if e := a.j.Swap(l); e != api.OK {
					t.Errorf("Swap for %q: %d", l, e)
				}
				a.m.safe, a.m.loose = slices.Clone(l), nil
				a.check(t, "swapped")
				if a.j.Sync() != 0 || a.j.Crash(0) != 0 || !a.sameOpened() {
					t.Errorf("swapped for %q: not safe", l)
				}
			}
			a := written(t, 50, safe, loose)
			if e := a.j.Swap(a.j.All()); e != api.OK {
				t.Errorf("Swap for its own: %d", e)
			}
			a.m.sync()
			a.check(t, "swapped for its own")
		}
	}
}

// P6.1: a swap that is refused: the first of Put's errors in their row, also where there isn't room; else ErrFull. It leaves all as it was.
func TestSwapRefused(t *testing.T) {
	none, long := []byte{}, filled(1001, 1)
	for _, c := range []struct {
		name string
		l    [][]byte
		want api.Errno
	}{
		{"none", [][]byte{none}, api.ErrArg},
		{"nil", [][]byte{nil}, api.ErrArg},
		{"too long", [][]byte{long}, api.ErrOver},
		{"none behind some", [][]byte{{1}, {2}, none}, api.ErrArg},
		{"too long behind some", [][]byte{{1}, {2}, long}, api.ErrOver},
		{"none, ahead of some", [][]byte{none, {1}, {2}}, api.ErrArg},
		{"none, then too long", [][]byte{{1}, none, long}, api.ErrArg},
		{"too long, then none", [][]byte{{1}, long, none}, api.ErrOver},
		{"no room, then none", [][]byte{filled(1000, 1), none}, api.ErrArg},
		{"no room, then too long", [][]byte{filled(45, 1), long, none}, api.ErrOver},
		{"no room for one", [][]byte{filled(45, 1)}, api.ErrFull},
		{"no room for two", [][]byte{filled(19, 1), filled(20, 2)}, api.ErrFull},
		{"no room for eight", texts("1", "2", "3", "4", "5", "66", "7", "8"), api.ErrFull},
		{"no room for the longest", [][]byte{filled(1000, 1)}, api.ErrFull},
	} {
		a := written(t, 50, texts("a", "bb"), texts("c"))
		if e := a.j.Swap(c.l); e != c.want {
			t.Errorf("%s: %d, want %d", c.name, e, c.want)
		}
		a.check(t, c.name)
	}
}

// P6.1: entries of the longest payload, swapped, on a disk where they just fit.
func TestSwapLongest(t *testing.T) {
	a := newPair(3018)
	l := [][]byte{filled(1000, 1), filled(1000, 2), filled(1000, 3)}
	if e := a.j.Swap(l); e != api.OK || a.j.Room() != 0 {
		t.Errorf("Swap: %d, room %d", e, a.j.Room())
	}
	a.m.safe = l
	a.check(t, "swapped")
	if e := a.j.Swap(append(l, []byte{1})); e != api.ErrFull {
		t.Errorf("Swap for one more: %d", e)
	}
	a.check(t, "Swap refused")
}

// alphabet is steps that may follow one another: each call, with numbers within, at, and out of what may be.
func alphabet() []step {
	l := []step{{kind: doSync}, {kind: doOpen}, {kind: doSwap, n: []int{1, 1}}, {kind: doSwap}, {kind: doSwap, n: []int{2, 0}}}
	for _, n := range []int{0, 1, 2, 1001} {
		l = append(l, step{kind: doAppend, n: []int{n}})
	}
	for _, keep := range []int{-1, 6, 7, 13, 14} {
		l = append(l, step{kind: doCrash, keep: keep})
	}
	for _, keep := range []int{0, 6, 7, 8} {
		l = append(l, step{kind: doTorn, n: []int{1}, keep: keep})
	}
	return l
}

// P6.1, P6.2: all rows of four steps, on disks of little room.
func TestAllRows(t *testing.T) {
	l := alphabet()
	row := make([]step, 4)
	for _, room := range []int{0, 6, 14, 22, 40} {
		for i := range len(l) * len(l) * len(l) * len(l) {
			for at, rest := 0, i; at < len(row); at, rest = at+1, rest/len(l) {
				row[at] = l[rest%len(l)]
			}
			play(t, room, row)
		}
	}
}

// row is many steps that hang on a seed, with lengths about what there is room for.
func row(count, room int, seed uint32) []step {
	l := make([]step, count)
	b := filled(8*count, seed)
	for i := range l {
		c := b[8*i : 8*i+8]
		s := step{kind: int(c[0]) % (2 * kinds), keep: (int(c[1])<<8 | int(c[2])) % (room/4 + 20)}
		if s.kind >= kinds { // most steps are entries
			s.kind = doAppend
		}
		if c[3] < 32 {
			s.keep = -s.keep
		}
		for range 1 + int(c[4])%4 {
			n := (int(c[5])<<8 | int(c[6])) % (room/3 + 3)
			if c[7] >= 16 {
				n = 1 + n%(room/16+2)
			}
			s.n = append(s.n, n)
			c = slices.Concat(c[:5], c[6:], c[5:6])
		}
		l[i] = s
	}
	return l
}

// P6.1, P6.2: long rows, on disks of little and of much room.
func TestLongRows(t *testing.T) {
	for _, room := range []int{0, 1, 6, 7, 8, 14, 20, 30, 64, 100, 333, 1000, 5000, 20000} {
		for seed := range uint32(30) {
			play(t, room, row(120, room, seed))
		}
	}
}

// T0: very many small entries, on a disk of all the room there may be, come to their end, each of them made safe while there are few.
func TestManyEntries(t *testing.T) {
	d := disk.New(top)
	j, _ := Open(d)
	n := 0
	for ; j.Append([]byte{byte(n)}) == api.OK; n++ {
		if n < 3000 && j.Sync() != 1 {
			t.Fatalf("entry %d", n)
		}
	}
	if n != top/7 || j.Len() != n || j.Safe() != 3000 || j.Room() != top%7 || j.Sync() != n-3000 || j.Safe() != n {
		t.Errorf("%d entries: Len %d, Safe %d, Room %d", n, j.Len(), j.Safe(), j.Room())
	}
	l := j.All()
	for i, p := range l {
		if len(p) != 1 || p[0] != byte(i) {
			t.Fatalf("entry %d: %x", i, p)
		}
	}
	other, _ := Open(disk.New(top))
	if e := other.Swap(l); e != api.OK || other.Len() != n {
		t.Errorf("swapped for all of them: %d, Len %d", e, other.Len())
	}
	if e := other.Swap(append(l, []byte{1})); e != api.ErrFull {
		t.Errorf("swapped for one more: %d", e)
	}
}

// P6.1: entries told one by one may be left off, and told again.
func TestEntriesLeftOff(t *testing.T) {
	told := entries(framesTold(texts("a", "b", "c")))
	for range 2 {
		var got []string
		for p := range told {
			if got = append(got, string(p)); len(got) == 2 {
				break
			}
		}
		if !slices.Equal(got, []string{"a", "b"}) {
			t.Errorf("%q", got)
		}
	}
}

// P6.1, R7: of nil.
func TestNil(t *testing.T) {
	var j *Journal
	for _, p := range [][]byte{nil, {}, []byte("ab"), filled(1000, 1), filled(1001, 1)} {
		if e := j.Append(p); e != api.ErrArg {
			t.Errorf("Append of %d: %d", len(p), e)
		}
		for _, l := range [][][]byte{{p}, {p, p}, {[]byte("a"), p}} {
			if e := j.Swap(l); e != api.ErrArg {
				t.Errorf("Swap for %d: %d", len(l), e)
			}
		}
		for _, keep := range []int{math.MinInt, -1, 0, 1, math.MaxInt} {
			if e := j.Torn(p, keep); e != api.ErrArg {
				t.Errorf("Torn of %d, %d: %d", len(p), keep, e)
			}
			if n := j.Crash(keep); n != 0 {
				t.Errorf("Crash(%d): %d", keep, n)
			}
		}
	}
	if e := j.Swap(nil); e != api.ErrArg {
		t.Errorf("Swap for none: %d", e)
	}
	if n := j.Sync(); n != 0 {
		t.Errorf("Sync: %d", n)
	}
	if len(j.All()) != 0 || j.Len() != 0 || j.Safe() != 0 || j.Room() != 0 {
		t.Errorf("%q, Len %d, Safe %d, Room %d", j.All(), j.Len(), j.Safe(), j.Room())
	}
}

// P6.1: opened of nil it is a journal, on a disk without room; and so is one on a disk that has none.
func TestOpenNil(t *testing.T) {
	for _, d := range []*disk.Disk{nil, disk.New(0), new(disk.Disk)} {
		j, cut := Open(d)
		if j == nil || cut != 0 {
			t.Fatalf("Open: %v, %d", j, cut)
		}
		for _, c := range []struct {
			n    int
			want api.Errno
		}{{0, api.ErrArg}, {1, api.ErrFull}, {1000, api.ErrFull}, {1001, api.ErrOver}} {
			p := filled(c.n, 1)
			if e := j.Append(p); e != c.want {
				t.Errorf("Append of %d: %d", c.n, e)
			}
			if e := j.Torn(p, 3); e != c.want {
				t.Errorf("Torn of %d: %d", c.n, e)
			}
			if e := j.Swap([][]byte{p}); e != c.want {
				t.Errorf("Swap for one of %d: %d", c.n, e)
			}
		}
		if e := j.Swap(nil); e != api.OK {
			t.Errorf("Swap for none: %d", e)
		}
		if j.Sync() != 0 || j.Crash(1) != 0 || j.Crash(-1) != 0 || len(j.All()) != 0 || j.Len() != 0 || j.Safe() != 0 || j.Room() != 0 {
			t.Errorf("%q, Len %d, Safe %d, Room %d", j.All(), j.Len(), j.Safe(), j.Room())
		}
	}
	one, _ := Open(nil)
	other, _ := Open(nil)
	if one == other {
		t.Error("two journals that are opened of nil are one")
	}
}

// T0: a journal that Open didn't make answers as a nil one.
func TestNotMade(t *testing.T) {
	j := new(Journal)
	if j.Append([]byte("a")) != api.ErrArg || j.Torn([]byte("a"), 1) != api.ErrArg || j.Swap(nil) != api.ErrArg || j.Sync() != 0 || j.Crash(1) != 0 {
		t.Error("it answers otherwise than a nil one")
	}
	if len(j.All()) != 0 || j.Len() != 0 || j.Safe() != 0 || j.Room() != 0 {
		t.Errorf("%q, Len %d, Safe %d, Room %d", j.All(), j.Len(), j.Safe(), j.Room())
	}
}

// giving are the calls that are given a payload.
func giving() map[string]func(*Journal, []byte) api.Errno {
	return map[string]func(*Journal, []byte) api.Errno{
		"Append": (*Journal).Append,
		"Torn":   func(j *Journal, p []byte) api.Errno { return j.Torn(p, 100) },
		"Swap":   func(j *Journal, p []byte) api.Errno { return j.Swap([][]byte{p}) },
	}
}

// R4: what is handed in isn't changed, nor is the room behind it, and the journal doesn't hang on it, whether it was refused or not.
func TestHandedIn(t *testing.T) {
	for name, give := range giving() {
		for _, room := range []int{0, 9, 10, 11, 100} {
			j, _ := Open(disk.New(room))
			behind := bytes.Repeat([]byte{'r'}, 64)
			p := behind[:4]
			copy(p, "abcd")
			was := bytes.Clone(behind)
			want := 0
			if e := give(j, p); e == api.OK || e == api.ErrLost {
				want = 1
			}
			all := j.All()
			if len(all) != want || want == 1 && string(all[0]) != "abcd" || !bytes.Equal(behind, was) {
				t.Errorf("%s, room %d: %q, handed in is %q", name, room, all, behind)
			}
			for i := range behind {
				behind[i] = 'z'
			}
			if got := j.All(); !slices.EqualFunc(got, all, bytes.Equal) {
				t.Errorf("%s, room %d: the journal hangs on what was handed in: %q", name, room, got)
			}
			j.Swap(nil)
			j.Append([]byte("q"))
			if !bytes.Equal(behind, bytes.Repeat([]byte{'z'}, 64)) {
				t.Errorf("%s, room %d: what was handed in hangs on the journal", name, room)
			}
		}
	}
}

// R4: a list that is handed in isn't changed, nor kept, nor is the room behind it.
func TestHandedInList(t *testing.T) {
	for _, bad := range [][]byte{[]byte("c"), nil} {
		behind := texts("a", "b", "c", "d", "e")
		behind[2] = bad
		was := slices.Clone(behind)
		j, _ := Open(disk.New(100))
		j.Swap(behind[:3])
		all := j.All()
		j.Append([]byte("f"))
		if !slices.EqualFunc(behind, was, bytes.Equal) {
			t.Errorf("handed in is %q", behind)
		}
		for i := range behind {
			behind[i] = []byte("zz")
		}
		if got := j.All(); !slices.EqualFunc(got[:len(all)], all, bytes.Equal) {
			t.Errorf("the journal hangs on the list: %q", got)
		}
	}
}

// R4: what was answered hangs on no later call, and the journal on nothing that is done to an answer, as far as its room goes.
func TestAnswered(t *testing.T) {
	want := texts("ab", "cd", "e")
	later := []func(*Journal){
		func(j *Journal) { j.Append([]byte("xyz")) },
		func(j *Journal) { j.Crash(1); j.Append([]byte("xyz")) },
		func(j *Journal) { j.Torn([]byte("xyz"), 4) },
		func(j *Journal) { j.Swap(texts("xy", "xy", "x")) },
		func(j *Journal) { j.Sync(); j.Append([]byte("xyz")) },
	}
	for i, do := range later {
		a := written(t, 100, want[:1], want[1:])
		first, second := a.j.All(), a.j.All()
		do(a.j)
		if !slices.EqualFunc(first, want, bytes.Equal) || !slices.EqualFunc(second, want, bytes.Equal) {
			t.Errorf("call %d: an answer hangs on the journal: %q, %q", i, first, second)
		}
		was := a.j.All()
		for _, l := range [][][]byte{first, a.j.All()} {
			for at, p := range l {
				whole := p[:cap(p)]
				for j := range whole {
					whole[j] = 'q'
				}
				for _, other := range l[at+1:] {
					if bytes.ContainsRune(other, 'q') {
						t.Errorf("call %d: two entries of an answer share memory: %q", i, l)
					}
				}
			}
			clear(l[:cap(l)])
		}
		if !slices.EqualFunc(second, want, bytes.Equal) || !slices.EqualFunc(a.j.All(), was, bytes.Equal) {
			t.Errorf("call %d: what was answered was changed: %q, %q", i, second, a.j.All())
		}
	}
}

// R6: a journal hangs on its disk, and on nothing else: two on one disk are alike, and two on disks of their own aren't; asking changes nothing.
func TestTwoJournals(t *testing.T) {
	a := written(t, 100, texts("a"), texts("b"))
	again, cut := Open(a.d)
	a.m.sync()
	a.check(t, "opened again")
	if cut != 0 || again.Append([]byte("c")) != api.OK {
		t.Errorf("opened again: %d are cut off", cut)
	}
	a.m.loose = texts("c")
	a.check(t, "appended by the other")
	other := written(t, 100, texts("x"), nil)
	other.j.Append([]byte("y"))
	other.m.loose = texts("y")
	for range 3 {
		a.check(t, "one")
		other.check(t, "other")
	}
	if lost := again.Crash(0); lost != 1 {
		t.Errorf("crashed: %d", lost)
	}
	a.m.loose = nil
	a.check(t, "crashed by the other")
	other.check(t, "other, of which none crashed")
}

func FuzzRow(f *testing.F) {
	f.Add(30, []byte{0, 2, 1, 2, 0, 0, 0, 1, 0, 3, 0, 6})
	f.Add(21, []byte{4, 3, 0, 1, 2, 9, 4, 3, 4, 0, 0, 5})
	f.Add(-1, []byte{0, 1, 0})
	f.Fuzz(func(t *testing.T, room int, b []byte) {
		var l []step
		for ; len(b) > 2; b = b[3:] {
			s := step{int(b[0]) % kinds, []int{int(b[1]) * 5}, int(b[2])}
			if s.kind == doSwap {
				s.n = []int{int(b[1]), int(b[2])}
			}
			if b[0] >= 128 {
				s.keep = -s.keep
			}
			l = append(l, s)
		}
		play(t, int(uint(room)%2048), l)
	})
}

func FuzzOpen(f *testing.F) {
	f.Add([]byte{0, 1, 7, 0x78, 0x3E, 0x7D, 0xF0, 0, 2, 'a'}, 3)
	f.Add(framesTold(somePayloads()), 40)
	f.Fuzz(func(t *testing.T, b []byte, safe int) {
		if len(b) < top-20 {
			opened(t, "any bytes", b, int(uint(safe)%uint(len(b)+1)))
		}
	})
}
