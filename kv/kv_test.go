package kv

import (
	"math"
	"slices"
	"strconv"
	"strings"
	"testing"

	"pacesetter/api"
)

// put is an op that puts a value, told that revision.
func put(key, value string, rev int) Op { return Op{Key: key, Value: value, Rev: rev} }

// drop is an op that drops a key, told that revision.
func drop(key string, rev int) Op { return Op{Key: key, Rev: rev, Drop: true} }

// kept is a key of a told store.
type kept struct {
	key, value string
	rev        int
}

// told is a store as the chapter's words tell it, its keys in the row in which they came.
type told struct {
	rev  int
	keys []kept
}

// place is where the key lies, or -1.
func (m *told) place(key string) int {
	return slices.IndexFunc(m.keys, func(k kept) bool { return k.key == key })
}

// get is the key's value and its revision.
func (m *told) get(key string) (string, int) {
	if i := m.place(key); i >= 0 {
		return m.keys[i].value, m.keys[i].rev
	}
	return "", 0
}

// since is the keys put at a revision above that, rising.
func (m *told) since(rev int) []string {
	var l []string
	for _, k := range m.keys {
		if k.rev > rev {
			l = append(l, k.key)
		}
	}
	slices.Sort(l)
	return l
}

// isArg, isRev, isNone and isFull tell whether that error holds of the change, whatever others do.
func (m *told) isArg(l []Op) bool {
	for i, op := range l {
		if len(op.Key) < 1 || len(op.Key) > 64 || len(op.Value) > 64 {
			return true
		}
		for _, other := range l[:i] {
			if other.Key == op.Key {
				return true
			}
		}
	}
	return len(l) == 0
}

func (m *told) isRev(l []Op) bool {
	for _, op := range l {
		if _, rev := m.get(op.Key); op.Rev >= 0 && op.Rev != rev {
			return true
		}
	}
	return false
}

func (m *told) isNone(l []Op) bool {
	for _, op := range l {
		if op.Drop && m.place(op.Key) < 0 {
			return true
		}
	}
	return false
}

func (m *told) isFull(l []Op) bool {
	return len(m.done(l)) > 64
}

// done is the keys behind the change.
func (m *told) done(l []Op) []kept {
	keys := slices.Clone(m.keys)
	for _, op := range l {
		keys = slices.DeleteFunc(keys, func(k kept) bool { return k.key == op.Key })
		if !op.Drop {
			keys = append(keys, kept{op.Key, op.Value, m.rev + 1})
		}
	}
	return keys
}

// do does the change, if no error holds of it.
func (m *told) do(l []Op) (int, api.Errno) {
	if m.isArg(l) {
		return 0, api.ErrArg
	}
	if m.isRev(l) {
		return 0, api.ErrRev
	}
	if m.isNone(l) {
		return 0, api.ErrNone
	}
	if m.isFull(l) {
		return 0, api.ErrFull
	}
	m.keys = m.done(l)
	m.rev++
	return m.rev, api.OK
}

// checkGet holds Get of a key against what it must be.
func checkGet(t *testing.T, s *Store, key, value string, rev int) {
	t.Helper()
	if v, r := s.Get(key); v != value || r != rev {
		t.Errorf("Get of %q: %q at %d, want %q at %d", key, v, r, value, rev)
	}
}

// checkAll holds all that a store answers against what is told, asked of these keys, too.
func checkAll(t *testing.T, s *Store, m *told, asked ...string) {
	t.Helper()
	if s.Rev() != m.rev || s.Len() != len(m.keys) {
		t.Errorf("Rev %d, Len %d, want %d, %d", s.Rev(), s.Len(), m.rev, len(m.keys))
	}
	all := m.since(0)
	if l := s.Keys(); !slices.Equal(l, all) {
		t.Errorf("Keys: %q, want %q", l, all)
	}
	for _, key := range slices.Concat(all, asked) {
		value, rev := m.get(key)
		checkGet(t, s, key, value, rev)
	}
	for _, rev := range []int{math.MinInt, -1, 0, 1, m.rev / 2, m.rev - 2, m.rev - 1, m.rev, m.rev + 1, math.MaxInt} {
		if l, want := s.Since(rev), m.since(rev); !slices.Equal(l, want) {
			t.Errorf("Since(%d): %q, want %q", rev, l, want)
		}
	}
}

// both does a change on a store and on what is told of it, and holds what the store answers, and what it leaves, against that.
func both(t *testing.T, s *Store, m *told, l []Op) api.Errno {
	t.Helper()
	handed := slices.Clone(l)
	rev, e := s.Do(handed)
	wantRev, want := m.do(l)
	if rev != wantRev || e != want {
		t.Errorf("Do of %#v: %d, %d, want %d, %d", l, rev, e, wantRev, want)
	}
	if !slices.Equal(handed, l) {
		t.Errorf("Do changed what it was handed: %#v, was %#v", handed, l)
	}
	keys := make([]string, 0, len(l))
	for _, op := range l {
		keys = append(keys, op.Key)
	}
	checkAll(t, s, m, keys...)
	return e
}

// refused does a change that must be refused with that error, whatever is told of it, and must leave all as it was.
func refused(t *testing.T, s *Store, m *told, want api.Errno, l ...Op) {
	t.Helper()
	rev := m.rev
	if e := both(t, s, m, l); e != want || m.rev != rev {
		t.Errorf("Do of %#v: %d, want %d", l, e, want)
	}
}

// accepted does a change that must be done, at one revision above the last.
func accepted(t *testing.T, s *Store, m *told, l ...Op) {
	t.Helper()
	rev := m.rev
	if e := both(t, s, m, l); e != api.OK || s.Rev() != rev+1 {
		t.Fatalf("Do of %#v: %d, revision %d behind %d", l, e, s.Rev(), rev)
	}
}

// name is a key of that number.
func name(n int) string { return "k" + strconv.Itoa(n) }

// filled is a store of n keys, name(0) and so on, each put by a change of its own: name(i) has the revision i + 1.
func filled(t *testing.T, n int) (*Store, *told) {
	t.Helper()
	s, m := New(), &told{}
	for i := range n {
		l := []Op{put(name(i), "v"+strconv.Itoa(i), 0)}
		m.do(l)
		if rev, e := s.Do(l); rev != i+1 || e != api.OK {
			t.Fatalf("Do of %#v: %d, %d", l, rev, e)
		}
	}
	return s, m
}

// P8.1: the chapter's example.
func TestExample(t *testing.T) {
	s := New()
	for i, c := range []struct {
		rev, want int
		e         api.Errno
	}{{0, 1, api.OK}, {0, 0, api.ErrRev}, {1, 2, api.OK}} {
		if rev, e := s.Do([]Op{put("a", name(i), c.rev)}); rev != c.want || e != c.e {
			t.Errorf("put a at %d: %d, %d, want %d, %d", c.rev, rev, e, c.want, c.e)
		}
	}
	checkGet(t, s, "a", name(2), 2)
}

// P8.1: a new store has nothing, and two of them share nothing.
func TestNew(t *testing.T) {
	s, other := New(), New()
	checkAll(t, s, &told{}, "", "a")
	accepted(t, s, &told{}, put("a", "x", 0))
	checkAll(t, other, &told{}, "", "a")
	refused(t, other, &told{}, api.ErrNone, drop("a", -1))
}

// P8.1: a store that New didn't make is one without keys.
func TestZeroStore(t *testing.T) {
	s, m := &Store{}, &told{}
	checkAll(t, s, m, "", "a")
	refused(t, s, m, api.ErrNone, drop("a", 0))
	accepted(t, s, m, put("a", "x", 0))
	accepted(t, s, m, drop("a", 1))
}

// P8.1: a change of no ops.
func TestNoOps(t *testing.T) {
	for n := range 3 {
		s, m := filled(t, n)
		for _, l := range [][]Op{nil, {}, make([]Op, 0, 4)} {
			refused(t, s, m, api.ErrArg, l...)
		}
	}
}

// P8.1: keys and values of each length, to be put and to be dropped. The length is told in bytes, not in signs.
func TestLengths(t *testing.T) {
	for keyLen := range 70 {
		for _, valueLen := range []int{0, 1, 63, 64, 65, 66, 128, 1 << 16} {
			key, value := strings.Repeat("k", keyLen), strings.Repeat("v", valueLen)
			s, m := filled(t, 2)
			if keyLen == 0 || keyLen > 64 || valueLen > 64 {
				refused(t, s, m, api.ErrArg, put(key, value, 0))
				refused(t, s, m, api.ErrArg, put(key, value, -1))
				refused(t, s, m, api.ErrArg, Op{Key: key, Value: value, Rev: -1, Drop: true})
				continue
			}
			accepted(t, s, m, put(key, value, 0))
			checkGet(t, s, key, value, 3)
			refused(t, s, m, api.ErrArg, put(key+strings.Repeat("k", 65-keyLen), value, -1))
			accepted(t, s, m, Op{Key: key, Value: value, Rev: 3, Drop: true})
			checkGet(t, s, key, "", 0)
		}
	}
	for _, sign := range []string{"\u00e9", "\u20ac", "\U0001f600"} {
		s, m := filled(t, 1)
		fits := strings.Repeat(sign, 64/len(sign))
		fits += strings.Repeat("x", 64-len(fits))
		accepted(t, s, m, put(fits, fits, 0))
		refused(t, s, m, api.ErrArg, put(fits+"x", "", -1))
		refused(t, s, m, api.ErrArg, put("a", fits+"x", -1))
	}
	s, m := filled(t, 1)
	refused(t, s, m, api.ErrArg, put(strings.Repeat("k", 1<<20), "", 0))
	refused(t, s, m, api.ErrArg, drop(strings.Repeat("k", 1<<20), -1))
}

// P8.1: a value that is too long may not be where its key is dropped, either; one that may be isn't looked at.
func TestValueOfDrop(t *testing.T) {
	s, m := filled(t, 2)
	refused(t, s, m, api.ErrArg, Op{Key: name(0), Value: strings.Repeat("v", 65), Rev: 1, Drop: true})
	accepted(t, s, m, Op{Key: name(0), Value: "other", Rev: 1, Drop: true})
	accepted(t, s, m, Op{Key: name(1), Value: strings.Repeat("v", 64), Rev: 2, Drop: true})
}

// P8.1: keys and values of any bytes; keys that differ by one byte, or by their length alone, are others.
func TestAnyBytes(t *testing.T) {
	for b := range 256 {
		one := string([]byte{byte(b)})
		s, m := New(), &told{}
		accepted(t, s, m, put(one, one, 0))
		accepted(t, s, m, put(one+one, strings.Repeat(one, 64), 0), put(strings.Repeat(one, 64), one+one, 0))
		checkGet(t, s, one, one, 1)
		for other := range 256 {
			if key := string([]byte{byte(other)}); other != b {
				checkGet(t, s, key, "", 0)
				refused(t, s, m, api.ErrNone, drop(key, 0))
			}
		}
		accepted(t, s, m, drop(one, 1))
		checkGet(t, s, one+one, strings.Repeat(one, 64), 2)
	}
	keys := []string{"a", "A", "a ", " a", "a\x00", "a\x00b", "\xff\xfe", "\u00e9", "e\u0301", "0", "00", "\n"}
	s, m := New(), &told{}
	for i, key := range keys {
		accepted(t, s, m, put(key, name(i), 0))
	}
	for i, key := range keys {
		checkGet(t, s, key, name(i), i+1)
	}
}

// P8.1: a key that stands twice, wherever it does, whatever is to be done with it.
func TestTwice(t *testing.T) {
	ops := []Op{put("a", "x", -1), put("a", "y", -1), put("a", "x", 1), drop("a", -1), drop("a", 1), put("a", "x", 0)}
	for n := 2; n <= 6; n++ {
		for i := range n {
			for k := range i {
				for _, first := range ops {
					for _, second := range ops {
						l := make([]Op, n)
						for at := range l {
							l[at] = put(name(at), "x", -1)
						}
						l[k], l[i] = first, second
						s, m := New(), &told{}
						refused(t, s, m, api.ErrArg, l...)
						accepted(t, s, m, put("a", "was", 0))
						refused(t, s, m, api.ErrArg, l...)
					}
				}
			}
		}
	}
}

// P8.1: the same key in two changes isn't twice in one.
func TestTwiceInARow(t *testing.T) {
	s, m := New(), &told{}
	for i := range 5 {
		accepted(t, s, m, put("a", "x", i), put("b", "y", -1))
	}
}

// P8.1: Rev told of a key that is there, and of one that isn't, to put it and to drop it.
func TestRev(t *testing.T) {
	for at := 1; at <= 5; at++ {
		for _, rev := range []int{math.MinInt, math.MinInt + 1, -1 << 32, -2, -1, 0, 1, 2, 3, 4, 5, 6, 7, 1 << 32, 1<<32 + 3, math.MaxInt - 1, math.MaxInt} {
			for _, isDrop := range []bool{false, true} {
				s, m := filled(t, 5)
				op := Op{Key: name(at - 1), Value: "new", Rev: rev, Drop: isDrop}
				if rev < 0 || rev == at {
					accepted(t, s, m, op)
				} else {
					refused(t, s, m, api.ErrRev, op)
				}
				s, m = filled(t, 5)
				op.Key = "none"
				switch {
				case rev > 0:
					refused(t, s, m, api.ErrRev, op)
				case isDrop:
					refused(t, s, m, api.ErrNone, op)
				default:
					accepted(t, s, m, op)
					checkGet(t, s, "none", "new", 6)
				}
			}
		}
	}
}

// P8.1: a key's revision is that at which it was put last, not the store's, nor how often it was put; a dropped one has none, and put again it has a new one.
func TestRevOfKey(t *testing.T) {
	s, m := New(), &told{}
	accepted(t, s, m, put("a", "1", 0))
	accepted(t, s, m, put("b", "2", 0))
	accepted(t, s, m, put("c", "3", 0))
	refused(t, s, m, api.ErrRev, put("a", "4", 3))
	refused(t, s, m, api.ErrRev, put("a", "4", 2))
	accepted(t, s, m, put("a", "4", 1))
	checkGet(t, s, "a", "4", 4)
	checkGet(t, s, "b", "2", 2)
	refused(t, s, m, api.ErrRev, drop("a", 1))
	refused(t, s, m, api.ErrRev, drop("a", 0))
	accepted(t, s, m, drop("a", 4))
	checkGet(t, s, "a", "", 0)
	refused(t, s, m, api.ErrRev, put("a", "5", 4))
	refused(t, s, m, api.ErrRev, put("a", "5", 5))
	accepted(t, s, m, put("a", "5", 0))
	checkGet(t, s, "a", "5", 6)
}

// P8.1: a key that is put with the value that it has is put all the same.
func TestSameValue(t *testing.T) {
	s, m := New(), &told{}
	for i := range 4 {
		accepted(t, s, m, put("a", "x", i))
		checkGet(t, s, "a", "x", i+1)
	}
}

// P8.1: a key whose value is empty is there.
func TestEmptyValue(t *testing.T) {
	s, m := New(), &told{}
	accepted(t, s, m, put("a", "", 0))
	checkGet(t, s, "a", "", 1)
	refused(t, s, m, api.ErrRev, put("a", "", 0))
	accepted(t, s, m, put("a", "x", 1))
	accepted(t, s, m, put("a", "", 2))
	accepted(t, s, m, drop("a", 3))
}

// P8.1: drops of keys that are there, all, and in a change of others; the last one leaves a store without keys, whose revision stays.
func TestDrop(t *testing.T) {
	s, m := filled(t, 4)
	accepted(t, s, m, drop(name(1), 2))
	refused(t, s, m, api.ErrNone, drop(name(1), 0))
	refused(t, s, m, api.ErrNone, drop(name(1), -1))
	refused(t, s, m, api.ErrRev, drop(name(1), 2))
	accepted(t, s, m, drop(name(0), -1), put("new", "x", 0), drop(name(3), 4))
	accepted(t, s, m, drop("new", 6), drop(name(2), 3))
	if s.Rev() != 7 || s.Len() != 0 {
		t.Errorf("Rev %d, Len %d", s.Rev(), s.Len())
	}
	accepted(t, s, m, put(name(1), "again", 0))
}

// P8.1: 64 keys and no more, put one by one and at once.
func TestFull(t *testing.T) {
	s, m := filled(t, 64)
	refused(t, s, m, api.ErrFull, put("new", "x", 0))
	refused(t, s, m, api.ErrFull, put("new", "x", -1))
	accepted(t, s, m, put(name(5), "x", 6))
	accepted(t, s, m, drop(name(5), 65))
	refused(t, s, m, api.ErrFull, put("new", "x", 0), put("newer", "x", 0))
	accepted(t, s, m, put("new", "x", 0))
	refused(t, s, m, api.ErrFull, put("newer", "x", 0))
	for n := 60; n < 70; n++ {
		l := make([]Op, n)
		for i := range l {
			l[i] = put(name(i), "x", 0)
		}
		s, m := New(), &told{}
		if n > 64 {
			refused(t, s, m, api.ErrFull, l...)
			continue
		}
		accepted(t, s, m, l...)
	}
}

// P8.1: how many there would be is told of the whole change: what it drops makes room, ahead of what it puts and behind it; what was there makes none.
func TestFullOfWhole(t *testing.T) {
	for _, were := range []int{60, 63, 64} {
		for drops := range 5 {
			for puts := range 8 {
				for again := range 3 {
					var l []Op
					for i := range puts {
						l = append(l, put("new"+strconv.Itoa(i), "x", 0))
					}
					for i := range drops {
						l = append(l, drop(name(i), i+1))
					}
					for i := range again {
						l = append(l, put(name(10+i), "x", 11+i))
					}
					if len(l) == 0 {
						continue
					}
					s, m := filled(t, were)
					want := api.OK
					if were-drops+puts > 64 {
						want = api.ErrFull
					}
					if e := both(t, s, m, l); e != want {
						t.Errorf("of %d keys, %d dropped, %d put: %d, want %d", were, drops, puts, e, want)
					}
					s, m = filled(t, were)
					slices.Reverse(l)
					if e := both(t, s, m, l); e != want {
						t.Errorf("of %d keys, %d dropped, %d put, turned round: %d, want %d", were, drops, puts, e, want)
					}
				}
			}
		}
	}
	s, m := filled(t, 64)
	var l []Op
	for i := range 64 {
		l = append(l, drop(name(i), i+1), put("new"+strconv.Itoa(i), "x", 0))
	}
	refused(t, s, m, api.ErrFull, append(slices.Clone(l), put("more", "x", 0))...)
	accepted(t, s, m, l...)
}

// P8.1: where several errors hold, the one told is the first of the row, wherever its op stands; and revision 0 beside.
func TestFirstError(t *testing.T) {
	wrong := [][]Op{
		{{Key: "", Rev: -1}},
		{{Key: strings.Repeat("k", 65), Rev: -1}},
		{{Key: "v", Value: strings.Repeat("v", 65), Rev: -1}},
		{put("twice", "x", -1), put("twice", "x", -1)},
		{put(name(0), "x", 7)},
		{drop("other", 3)},
		{put(name(2), "x", 0)},
		{drop("none", -1)},
		{drop("gone", 0)},
		{put("new1", "x", 0), put("new2", "x", -1), put("new3", "x", 0), put("new4", "x", 0), put("new5", "x", 0)},
	}
	errors := []api.Errno{api.ErrArg, api.ErrArg, api.ErrArg, api.ErrArg, api.ErrRev, api.ErrRev, api.ErrRev, api.ErrNone, api.ErrNone, api.ErrFull}
	for mask := 1; mask < 1<<len(wrong); mask++ {
		l, want := []Op{put(name(1), "x", 2)}, api.OK
		for i := range wrong {
			if mask>>i&1 == 1 {
				l = append(l, wrong[i]...)
				if want == api.OK {
					want = errors[i]
				}
			}
		}
		s, m := filled(t, 62)
		accepted(t, s, m, drop(name(61), -1), put("gone", "x", -1))
		accepted(t, s, m, drop("gone", -1))
		refused(t, s, m, want, l...)
		slices.Reverse(l)
		refused(t, s, m, want, l...)
	}
}

// P8.2: of a change with one op that may not be done, at any place, none is done.
func TestAllOrNone(t *testing.T) {
	wrong := []struct {
		op Op
		e  api.Errno
	}{
		{put("", "x", -1), api.ErrArg}, {put(name(9), "x", -1), api.ErrArg}, {put("new", strings.Repeat("v", 65), 0), api.ErrArg},
		{put("new", "x", 1), api.ErrRev}, {put(name(1), "x", 0), api.ErrRev}, {drop(name(1), 3), api.ErrRev},
		{drop("new", -1), api.ErrNone}, {drop("new", 0), api.ErrNone},
		{put("new", "x", 0), api.ErrFull}, {put("new", "x", -1), api.ErrFull},
	}
	for _, c := range wrong {
		good := []Op{put(name(9), "x", 10), drop(name(8), 9), put("more", "y", 0), put(name(7), "z", -1)}
		for at := range len(good) + 1 {
			s, m := filled(t, 64)
			refused(t, s, m, c.e, slices.Insert(slices.Clone(good), at, c.op)...)
			accepted(t, s, m, good...)
		}
	}
}

// P8.2: all ops are asked of the store as it was, and done at one revision, in whatever row they stand.
func TestAsItWas(t *testing.T) {
	ops := []Op{put(name(0), "x", 1), put(name(1), "y", 2), drop(name(2), 3), put("new", "z", 0)}
	for i := range ops {
		for k := range ops {
			l := slices.Clone(ops)
			l[0], l[i] = l[i], l[0]
			l[1], l[k] = l[k], l[1]
			s, m := filled(t, 3)
			accepted(t, s, m, l...)
			for key, value := range map[string]string{name(0): "x", name(1): "y", "new": "z"} {
				checkGet(t, s, key, value, 4)
			}
			checkGet(t, s, name(2), "", 0)
			if l := s.Since(3); !slices.Equal(l, []string{name(0), name(1), "new"}) {
				t.Errorf("Since(3): %q", l)
			}
			refused(t, s, m, api.ErrRev, put("a", "x", 0), put(name(0), "x", 5))
		}
	}
	s, m := filled(t, 1)
	refused(t, s, m, api.ErrRev, put("a", "x", 0), put("b", "x", 2))
	refused(t, s, m, api.ErrRev, put(name(0), "x", 1), put("b", "x", 2))
}

// P8.2: revisions rise by one with each change that is done, of however many ops, and by none with one that is refused.
func TestRevisionsRise(t *testing.T) {
	s, rev := New(), 0
	for i := range 3000 {
		l := []Op{put(name(i%7), "x", -1), put("a"+name(i%5), "y", -1), put("b", "z", -1)}[:1+i%3]
		if i%4 == 3 {
			l = append(l, put("b"+name(i), "x", rev+1))
		}
		got, e := s.Do(l)
		if i%4 == 3 {
			if got != 0 || e != api.ErrRev || s.Rev() != rev {
				t.Fatalf("change %d, refused: %d, %d, revision %d behind %d", i, got, e, s.Rev(), rev)
			}
			continue
		}
		rev++
		if got != rev || e != api.OK || s.Rev() != rev {
			t.Fatalf("change %d: %d, %d, revision %d, want %d", i, got, e, s.Rev(), rev)
		}
	}
}

// P8.2: of two that were told the same revision of a key, and both put it, just the first one is done, whatever either puts beside it.
func TestTwoTold(t *testing.T) {
	besides := [][]Op{nil, {put("b", "beside", -1)}, {put("c", "beside", -1), drop(name(3), -1)}}
	for _, key := range []string{name(0), name(1), name(2), "none"} {
		for i, first := range besides {
			for _, second := range besides {
				s, m := filled(t, 4)
				was, rev := s.Get(key)
				accepted(t, s, m, append([]Op{put(key, "first", rev)}, first...)...)
				refused(t, s, m, api.ErrRev, append([]Op{put(key, "second", rev)}, second...)...)
				refused(t, s, m, api.ErrRev, append(slices.Clone(second), put(key, was, rev))...)
				checkGet(t, s, key, "first", 5)
				if i == 0 {
					accepted(t, s, m, append([]Op{put(key, "second", 5)}, second...)...)
				}
			}
		}
	}
}

// P8.2: one that was told a revision isn't done behind another that put the key and dropped it, or dropped it and put it back.
func TestToldOfAnother(t *testing.T) {
	s, m := filled(t, 1)
	accepted(t, s, m, drop(name(0), 1))
	accepted(t, s, m, put(name(0), "v0", 0))
	refused(t, s, m, api.ErrRev, put(name(0), "x", 1))
	refused(t, s, m, api.ErrRev, drop(name(0), 1))
	refused(t, s, m, api.ErrRev, put(name(0), "x", 0))
	accepted(t, s, m, put(name(0), "x", 3))
}

// P8.1: keys rise by their bytes, in whatever row they were put.
func TestRising(t *testing.T) {
	rising := []string{"\x00", "\x00\x00", "\n", " ", "!", "0", "1", "10", "2", "A", "Z", "_", "a", "a\x00", "aa", "ab", "b", "k\xff", "z", "\x7f", "\x80", "\u00e9", "\u20ac", "\U0001f600", "\xff", "\xff\x00", "\xff\xff"}
	for start := range rising {
		for _, by := range []int{1, 2, 4, 5, 7, 26} {
			s, m := New(), &told{}
			for i := range rising {
				accepted(t, s, m, put(rising[(start+i*by)%len(rising)], "x", 0))
			}
			if l := s.Keys(); !slices.Equal(l, rising) {
				t.Fatalf("Keys: %q, want %q", l, rising)
			}
			if l := s.Since(0); !slices.Equal(l, rising) {
				t.Fatalf("Since(0): %q, want %q", l, rising)
			}
		}
	}
}

// P8.1: Since of revisions below 0, of the store's own, and of those above it; a dropped key isn't told.
func TestSince(t *testing.T) {
	s, m := filled(t, 6)
	accepted(t, s, m, put(name(1), "x", 2), put(name(4), "x", 5))
	accepted(t, s, m, drop(name(5), 6))
	for _, c := range []struct {
		rev  int
		want []string
	}{
		{math.MinInt, []string{"k0", "k1", "k2", "k3", "k4"}}, {-1, []string{"k0", "k1", "k2", "k3", "k4"}}, {0, []string{"k0", "k1", "k2", "k3", "k4"}},
		{1, []string{"k1", "k2", "k3", "k4"}}, {2, []string{"k1", "k2", "k3", "k4"}}, {3, []string{"k1", "k3", "k4"}}, {4, []string{"k1", "k4"}}, {5, []string{"k1", "k4"}}, {6, []string{"k1", "k4"}},
		{7, nil}, {8, nil}, {9, nil}, {1 << 32, nil}, {math.MaxInt, nil},
	} {
		if l := s.Since(c.rev); !slices.Equal(l, c.want) {
			t.Errorf("Since(%d): %q, want %q", c.rev, l, c.want)
		}
	}
	if l := New().Since(-1); len(l) != 0 {
		t.Errorf("Since(-1) of a new store: %q", l)
	}
}

// alphabet is changes that may follow one another: each op of two keys, some two at once, and changes that may not be.
func alphabet() [][]Op {
	l := [][]Op{nil, {put("", "x", -1)}, {put("a", "x", -1), put("a", "y", -1)}}
	for _, rev := range []int{-1, 0, 1, 2} {
		for _, a := range []Op{put("a", "x"+strconv.Itoa(rev), rev), drop("a", rev)} {
			l = append(l, []Op{a}, []Op{a, put("b", "z", 0)}, []Op{drop("b", -1), a}, []Op{a, put("b", "z", 1)})
		}
		l = append(l, []Op{put("b", "y", rev)}, []Op{drop("b", rev)})
	}
	return l
}

// P8.1 and P8.2: all rows of three changes.
func TestAllRows(t *testing.T) {
	l := alphabet()
	for i := range len(l) * len(l) * len(l) {
		s, m := New(), &told{}
		for at, rest := 0, i; at < 3; at, rest = at+1, rest/len(l) {
			both(t, s, m, l[rest%len(l)])
		}
		if t.Failed() {
			t.Fatalf("in row %d", i)
		}
	}
}

// numbers is a row of numbers that hang on a seed.
func numbers(seed uint64) func(below int) int {
	word := seed*2654435761 + 1
	return func(below int) int {
		word = word*6364136223846793005 + 1442695040888963407
		return int(word>>33) % below
	}
}

// mixed is a change of some ops, of as many keys as given, most of which may be done as the store is now.
func mixed(m *told, next func(int) int, keys int) []Op {
	var l []Op
	for range 1 + next(4)*next(4) {
		key := name(next(keys))
		if slices.ContainsFunc(l, func(op Op) bool { return op.Key == key }) && next(20) > 0 {
			continue
		}
		_, rev := m.get(key)
		op := put(key, "v"+strconv.Itoa(next(1000)), rev)
		if rev > 0 && next(5) == 0 || next(40) == 0 {
			op.Drop = true
		}
		switch next(50) {
		case 0, 1, 2:
			op.Rev = -1 - next(3)
		case 3:
			op.Rev = next(m.rev + 2)
		case 4:
			op.Rev = rev + next(3) - 1
		case 5:
			op.Value = strings.Repeat("v", 62+next(5))
		}
		l = append(l, op)
	}
	return l
}

// P8.1 and P8.2: long rows of changes, of few keys and of more than there may be.
func TestLongRows(t *testing.T) {
	count := map[api.Errno]int{}
	for _, keys := range []int{1, 2, 5, 30, 64, 65, 70, 90, 200} {
		for seed := range uint64(8) {
			s, m, next := New(), &told{}, numbers(seed)
			for range 200 {
				count[both(t, s, m, mixed(m, next, keys))]++
			}
			if t.Failed() {
				t.Fatalf("%d keys, seed %d", keys, seed)
			}
		}
	}
	for _, e := range []api.Errno{api.OK, api.ErrArg, api.ErrRev, api.ErrNone, api.ErrFull} {
		if count[e] < 200 {
			t.Errorf("just %d changes were answered with %d", count[e], e)
		}
	}
}

// T0: a change of very many ops ends; it is refused by the same row of errors.
func TestManyOps(t *testing.T) {
	s, m := filled(t, 3)
	l := make([]Op, 1<<18)
	for i := range l {
		l[i] = put("m"+strconv.Itoa(i), "x", 0)
	}
	for _, c := range []struct {
		last Op
		want api.Errno
	}{{put("last", "x", 0), api.ErrFull}, {drop("last", 0), api.ErrNone}, {put("last", "x", 1), api.ErrRev}, {put("m0", "x", 0), api.ErrArg}} {
		l[len(l)-1] = c.last
		if rev, e := s.Do(l); rev != 0 || e != c.want {
			t.Errorf("%d ops: %d, %d, want %d", len(l), rev, e, c.want)
		}
		checkAll(t, s, m, "m0", "m1", "last")
	}
}

// R4 and R6: what is handed in is neither changed nor kept, and lists that are answered are new memory.
func TestMemory(t *testing.T) {
	s, m := New(), &told{}
	room := append(make([]Op, 0, 8), put("a", "x", 0), put("b", "y", 0), put("c", "z", 0), put("d", "behind", 0))
	was := slices.Clone(room)
	if rev, e := s.Do(room[:3]); rev != 1 || e != api.OK || !slices.Equal(room, was) {
		t.Errorf("Do: %d, %d, %v", rev, e, room)
	}
	m.do(was[:3])
	for i := range room {
		room[i] = Op{Key: "other", Value: "other", Rev: 9, Drop: true}
	}
	checkAll(t, s, m, "d", "other")
	for name, call := range map[string]func() []string{"Keys": s.Keys, "Since": func() []string { return s.Since(0) }} {
		first, second := call(), call()
		for i := range first {
			first[i] = "turned"
		}
		_ = append(first, "more")
		if want := []string{"a", "b", "c"}; !slices.Equal(second, want) || !slices.Equal(call(), want) {
			t.Errorf("%s shares memory: %q", name, second)
		}
	}
	checkAll(t, s, m, "turned", "more")
	keys := s.Keys()
	accepted(t, s, m, drop("a", 1), put("e", "x", 0))
	if !slices.Equal(keys, []string{"a", "b", "c"}) {
		t.Errorf("Keys changed behind a change: %q", keys)
	}
}

// R6: asking changes nothing, and tells the same each time.
func TestAskedAgain(t *testing.T) {
	s, m := filled(t, 64)
	for range 20 {
		checkAll(t, s, m, "", "none", strings.Repeat("k", 65), strings.Repeat("k", 1<<16))
	}
}

// P8.1, R7: of nil.
func TestNil(t *testing.T) {
	var s *Store
	for _, l := range [][]Op{nil, {}, {put("a", "x", 0)}, {put("a", "x", -1), drop("b", 1)}, {put("a", "x", 1)}, {drop("a", 0)}, {put("", "x", 0)}} {
		if rev, e := s.Do(l); rev != 0 || e != api.ErrArg {
			t.Errorf("Do of %#v: %d, %d", l, rev, e)
		}
	}
	checkAll(t, s, &told{}, "", "a", "b")
}

func FuzzStore(f *testing.F) {
	f.Add([]byte{}, 3)
	f.Add([]byte{0, 0, 1, 1, 2, 0, 1, 3, 4, 9}, 2)
	f.Add([]byte("put a, drop b, put them again, and so on"), 70)
	f.Fuzz(func(t *testing.T, b []byte, keys int) {
		s, m := New(), &told{}
		for len(b) > 0 && keys > 0 {
			word := uint64(b[0])
			if len(b) > 1 {
				word |= uint64(b[1]) << 8
			}
			both(t, s, m, mixed(m, numbers(word), keys))
			b = b[min(2, len(b)):]
		}
	})
}
