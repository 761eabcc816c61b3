package record

import (
	"bytes"
	"encoding/binary"
	"fmt"
	"math"
	"slices"
	"strings"
	"testing"

	"pacesetter/api"
	"pacesetter/codec"
	"pacesetter/spec"
)

// ends is what a number may be, by the chapter's table; a number that isn't named has the zero ends.
type ends struct{ low, high int }

// shape is a row of the chapter's table, in numbers of the tests' own.
type shape struct {
	kind        int
	name        string
	who, n, seq ends
	text, spec  bool
}

// shapes is the chapter's table.
func shapes() []shape {
	return []shape{
		{1, "lead", ends{0, 63}, ends{0, 1099511627776}, ends{1, 1048576}, false, false},
		{2, "publish", ends{}, ends{1, 1048576}, ends{}, true, false},
		{3, "begin", ends{}, ends{0, 1099511627776}, ends{}, false, true},
		{4, "move", ends{}, ends{1, 5}, ends{}, true, false},
		{5, "intent", ends{0, 15}, ends{0, 1048576}, ends{1, 1099511627776}, false, false},
		{6, "ack", ends{0, 15}, ends{}, ends{1, 1099511627776}, false, false},
		{7, "step", ends{1, 4}, ends{0, 1099511627776}, ends{}, true, false},
	}
}

// lastTick is 2^40.
const lastTick = 1099511627776

// far is numbers far out, some of which would be small if they were wrapped round.
func far() []int {
	return []int{math.MinInt, math.MinInt + 1, -1 << 62, -1<<32 + 1, -1 << 32, math.MinInt32, -lastTick, -64, -2, -1, lastTick + 1, lastTick + 2, 1<<41 + 1, 1<<48 + 1, 1<<62 - 1, 1 << 62, 1<<62 + 1, math.MaxInt - 1, math.MaxInt}
}

// wrapped is numbers that would be from 1 to 5 if they were wrapped round to 32, 16 or 8 bits.
func wrapped() []int {
	return []int{1<<32 + 1, 1<<32 + 3, 1<<16 + 1, 1<<16 + 3, 256 + 1, 256 + 3, -1<<32 + 1, -1<<16 + 3, -256 + 1, math.MinInt + 3}
}

// texts is texts that may be.
func texts() []string {
	return []string{"a", "ab", " ", "  ", "\x00", "\n", "\xff", "\x80\x80", "0", "1 2", " a ", "a\nb", "passed", "ünïcödé", strings.Repeat("x", 63), strings.Repeat("y", 64), strings.Repeat("\xff", 64), strings.Repeat("ä", 32), strings.Repeat("\x00", 64)}
}

// longTexts is texts that are too long, some of which have 64 runes at most.
func longTexts() []string {
	return []string{strings.Repeat("x", 65), strings.Repeat("\x00", 65), strings.Repeat("ä", 33), strings.Repeat("ä", 64), strings.Repeat("x", 128), strings.Repeat("x", 256+1), strings.Repeat("x", 1<<20)}
}

// specTexts is texts of specs that may be.
func specTexts() []string {
	return []string{
		"1 4 1 0 1 0 0 0 0 5 0 50", "1 1 0 1 0 1 0 0 0 1 0 1", "7 10 3 2 0 10 50 0 0 20 1 100", "2 16 0 16 0 1 2 3 4 6 7 8", "300 8 8 8 0 97 98 99 100 128 129 130",
		"1048576 8 8 0 2 0 0 0 0 1048576 1048576 1048576", "128 1 15 0 2 0 0 0 0 1 0 1", "127 16 0 1 1 0 0 0 0 127 128 16384",
	}
}

// badSpecs is rows of 12 numbers that may not be a spec, each for one number alone.
func badSpecs() [][]int {
	l := [][]int{make([]int, 12)}
	add := func(row ...int) { l = append(l, row) }
	for _, version := range []int{0, -1, 1048577, math.MinInt, 1<<32 + 1} {
		add(version, 4, 1, 0, 1, 0, 0, 0, 0, 5, 0, 50)
	}
	for _, desired := range []int{0, -1, 17, math.MaxInt} {
		add(1, desired, 0, 1, 1, 0, 0, 0, 0, 5, 0, 50)
	}
	for _, surge := range []int{-1, 13, 16, math.MaxInt} {
		add(1, 4, surge, 1, 1, 0, 0, 0, 0, 5, 0, 50)
	}
	add(1, 4, 0, 0, 1, 0, 0, 0, 0, 5, 0, 50)
	add(1, 4, 1, -1, 1, 0, 0, 0, 0, 5, 0, 50)
	add(1, 4, 1, 5, 1, 0, 0, 0, 0, 5, 0, 50)
	add(1, 4, 3, 1, 2, 0, 0, 0, 0, 5, 0, 50)
	add(1, 4, 1, 1, 3, 0, 0, 0, 0, 5, 0, 50)
	add(1, 4, 1, 1, -1, 0, 0, 0, 0, 5, 0, 50)
	for _, steps := range [][]int{{0, 0, 0, 0}, {101, 0, 0, 0}, {-1, 0, 0, 0}, {10, 10, 0, 0}, {10, 9, 0, 0}, {10, 20, 20, 0}, {10, 0, 20, 0}, {10, 20, 30, 101}, {10, 20, 0, 30}} {
		add(slices.Concat([]int{1, 4, 1, 1, 0}, steps, []int{5, 0, 50})...)
	}
	add(1, 4, 1, 0, 1, 10, 0, 0, 0, 5, 0, 50)
	add(1, 4, 1, 0, 1, 0, 0, 0, 10, 5, 0, 50)
	for _, window := range []int{0, -1, 1048577} {
		add(1, 4, 1, 0, 1, 0, 0, 0, 0, window, 0, 50)
		add(1, 4, 1, 0, 1, 0, 0, 0, 0, 5, 0, window)
	}
	add(1, 4, 1, 0, 1, 0, 0, 0, 0, 5, -1, 50)
	add(1, 4, 1, 0, 1, 0, 0, 0, 0, 5, 1048577, 50)
	return l
}

// specOf is the spec of 12 numbers, each put to its field by the field's name.
func specOf(l ...int) api.Spec {
	return api.Spec{
		Version: l[0], Desired: l[1], Surge: l[2], Unavailable: l[3], Strategy: l[4],
		Steps:  [4]int{l[5], l[6], l[7], l[8]},
		Window: l[9], MaxBad: l[10], Deadline: l[11],
	}
}

// rowOf is the 12 numbers of a spec, by the fields' names.
func rowOf(s api.Spec) []int {
	return []int{s.Version, s.Desired, s.Surge, s.Unavailable, s.Strategy, s.Steps[0], s.Steps[1], s.Steps[2], s.Steps[3], s.Window, s.MaxBad, s.Deadline}
}

// specs is the specs of specTexts.
func specs() []api.Spec {
	var l []api.Spec
	for _, text := range specTexts() {
		row := make([]int, 12)
		for i, word := range strings.Fields(text) {
			fmt.Sscan(word, &row[i])
		}
		l = append(l, specOf(row...))
	}
	return l
}

// plain is an ordinary record of that shape.
func plain(s shape) api.Record {
	r := api.Record{Kind: s.kind, Epoch: 3, Who: (s.who.low + s.who.high) / 2, N: (s.n.low + s.n.high) / 2, Seq: (s.seq.low + s.seq.high) / 2}
	if s.text {
		r.Text = "text"
	}
	if s.spec {
		r.Spec = specs()[2]
	}
	return r
}

// within is numbers that may be: the ends, those beside them, and some between.
func within(e ends) []int {
	var l []int
	for _, n := range []int{e.low, e.low + 1, 7, 127, 128, 300, 1 << 14, e.high - 1, e.high} {
		if e.low <= n && n <= e.high && !slices.Contains(l, n) {
			l = append(l, n)
		}
	}
	return l
}

// beyond is numbers that may not be: those just past the ends, and far ones.
func beyond(e ends) []int {
	l := []int{e.low - 1, e.high + 1}
	for _, n := range slices.Concat(far(), wrapped()) {
		if n < e.low || n > e.high {
			l = append(l, n)
		}
	}
	return l
}

// varied is the record, one time for each value, each put there.
func varied[T any](r api.Record, field func(*api.Record) *T, values ...T) []api.Record {
	var l []api.Record
	for _, v := range values {
		turned := r
		*field(&turned) = v
		l = append(l, turned)
	}
	return l
}

func epochOf(r *api.Record) *int     { return &r.Epoch }
func whoOf(r *api.Record) *int       { return &r.Who }
func nOf(r *api.Record) *int         { return &r.N }
func seqOf(r *api.Record) *int       { return &r.Seq }
func textOf(r *api.Record) *string   { return &r.Text }
func specIn(r *api.Record) *api.Spec { return &r.Spec }

// rightOf is records of that shape that may be: each field over all it may be, one at a time, and all at their ends.
func rightOf(s shape) []api.Record {
	r := plain(s)
	l := slices.Concat([]api.Record{r},
		varied(r, epochOf, within(ends{1, lastTick})...), varied(r, whoOf, within(s.who)...),
		varied(r, nOf, within(s.n)...), varied(r, seqOf, within(s.seq)...))
	if s.text {
		l = append(l, varied(r, textOf, texts()...)...)
	}
	if s.spec {
		l = append(l, varied(r, specIn, specs()...)...)
	}
	for mask := range 16 {
		end := r
		for bit, at := range []*int{&end.Epoch, &end.Who, &end.N, &end.Seq} {
			*at = []ends{{1, lastTick}, s.who, s.n, s.seq}[bit].low
			if mask>>bit&1 == 1 {
				*at = []ends{{1, lastTick}, s.who, s.n, s.seq}[bit].high
			}
		}
		l = append(l, end)
	}
	return l
}

// wrongOf is records of that shape that may not be, each for one field alone.
func wrongOf(s shape) []api.Record {
	r := plain(s)
	l := slices.Concat(varied(r, epochOf, beyond(ends{1, lastTick})...), varied(r, whoOf, beyond(s.who)...),
		varied(r, nOf, beyond(s.n)...), varied(r, seqOf, beyond(s.seq)...), varied(r, textOf, longTexts()...))
	if s.text {
		l = append(l, varied(r, textOf, "")...)
	} else {
		l = append(l, varied(r, textOf, texts()...)...)
	}
	if s.spec {
		for _, row := range badSpecs() {
			l = append(l, varied(r, specIn, specOf(row...))...)
		}
		return l
	}
	l = append(l, varied(r, specIn, specs()...)...)
	for place := range 12 {
		for _, n := range append([]int{1, -1}, far()...) {
			row := make([]int, 12)
			row[place] = n
			l = append(l, varied(r, specIn, specOf(row...))...)
		}
	}
	return l
}

// noKinds is numbers that are no kind's.
func noKinds() []int {
	return slices.Concat([]int{0, 8, -1, -2, -7, 9, 16, 64, 128}, far(), wrapped())
}

// noKind is records of kinds that there aren't: zero but for that, and as those of each kind.
func noKind() []api.Record {
	var l []api.Record
	for _, kind := range noKinds() {
		l = append(l, api.Record{Kind: kind}, api.Record{Kind: kind, Epoch: 1}, api.Record{Kind: kind, Epoch: lastTick, Text: "a"})
		for _, s := range shapes() {
			r := plain(s)
			r.Kind = kind
			l = append(l, r)
		}
	}
	return l
}

// rightTold tells whether the record may be, by the chapter's words; which specs may be layer 7 tells.
func rightTold(r api.Record) bool {
	in := func(e ends, n int) bool { return n >= e.low && n <= e.high }
	for _, s := range shapes() {
		if s.kind != r.Kind {
			continue
		}
		_, e := spec.Check(r.Spec)
		textOK := s.text && len(r.Text) >= 1 && len(r.Text) <= 64 || !s.text && r.Text == ""
		specOK := s.spec && e == api.OK || !s.spec && r.Spec == (api.Spec{})
		return r.Epoch >= 1 && r.Epoch <= lastTick && in(s.who, r.Who) && in(s.n, r.N) && in(s.seq, r.Seq) && textOK && specOK
	}
	return false
}

// bytesTold is the bytes of a record whose numbers aren't below 0, which may be or not, worked out by another's hand: the library's uvarint is the same row of digits.
func bytesTold(r api.Record) []byte {
	var b []byte
	for _, n := range []int{r.Kind, r.Epoch, r.Who, r.N, r.Seq, len(r.Text)} {
		b = binary.AppendUvarint(b, uint64(n))
	}
	b = append(b, r.Text...)
	if r.Kind == 3 {
		b = append(b, listTold(rowOf(r.Spec))...)
	}
	return b
}

// listTold is the bytes of a list.
func listTold(l []int) []byte {
	b := binary.AppendUvarint(nil, uint64(len(l)))
	for _, n := range l {
		b = binary.AppendUvarint(b, uint64(n))
	}
	return b
}

// wordsTold is the words of a record that may be.
func wordsTold(r api.Record) string {
	s := fmt.Sprintf("%s %d %d %d %d", []string{"", "lead", "publish", "begin", "move", "intent", "ack", "step"}[r.Kind], r.Epoch, r.Who, r.N, r.Seq)
	if r.Text != "" {
		s += " " + r.Text
	}
	if r.Kind == 3 {
		for _, n := range rowOf(r.Spec) {
			s += fmt.Sprintf(" %d", n)
		}
	}
	return s
}

// readTold is the record of these bytes, if there is one: what lies there, if it may be and would be written just so.
func readTold(b []byte) (api.Record, bool) {
	rest := b
	next := func() int {
		n, size := binary.Uvarint(rest)
		if size <= 0 {
			rest = nil
			return -1
		}
		rest = rest[size:]
		return int(n)
	}
	r := api.Record{Kind: next(), Epoch: next(), Who: next(), N: next(), Seq: next()}
	n := next()
	if n < 0 || n > len(rest) {
		return api.Record{}, false
	}
	r.Text, rest = string(rest[:n]), rest[n:]
	if r.Kind == 3 {
		next()
		row := make([]int, 12)
		for i := range row {
			row[i] = next()
		}
		r.Spec = specOf(row...)
	}
	if !rightTold(r) || !bytes.Equal(bytesTold(r), b) {
		return api.Record{}, false
	}
	return r, true
}

// checkRight holds all that is answered of a record that may be against the chapter: P10.1, and P10.2.
func checkRight(t *testing.T, r api.Record) {
	t.Helper()
	if !Right(r) {
		t.Fatalf("%+v: may not be", r)
	}
	b, e := Bytes(r)
	if want := bytesTold(r); e != api.OK || !bytes.Equal(b, want) {
		t.Fatalf("Bytes of %+v: %x, %d, want %x", r, b, e, want)
	}
	if got, e := Read(b); e != api.OK || got != r {
		t.Fatalf("%+v is read as %+v, %d", r, got, e)
	}
	if got, want := Words(r), wordsTold(r); got != want {
		t.Fatalf("Words of %+v: %q, want %q", r, got, want)
	}
}

// checkWrong holds all that is answered of a record that may not be against the chapter.
func checkWrong(t *testing.T, r api.Record) {
	t.Helper()
	if Right(r) {
		t.Fatalf("%.200q: may be", fmt.Sprint(r))
	}
	if b, e := Bytes(r); len(b) != 0 || e != api.ErrArg {
		t.Fatalf("Bytes of %.200q: %x, %d", fmt.Sprint(r), b, e)
	}
	if s := Words(r); s != "" {
		t.Fatalf("Words of %.200q: %q", fmt.Sprint(r), s)
	}
}

// checkRead holds Read of any bytes against the chapter, and what is read against what is written of it (P10.2).
func checkRead(t *testing.T, b []byte) {
	t.Helper()
	want, ok := readTold(b)
	if !ok {
		checkForm(t, b)
		return
	}
	got, e := Read(b)
	if got != want || e != api.OK {
		t.Fatalf("Read of %x: %+v, %d, want %+v", b, got, e, want)
	}
	if again, e := Bytes(got); e != api.OK || !bytes.Equal(again, b) {
		t.Fatalf("%+v is read of %x and written %x, %d", got, b, again, e)
	}
}

// checkForm holds Read of bytes that are no record's against the chapter.
func checkForm(t *testing.T, b []byte) {
	t.Helper()
	if r, e := Read(b); r != (api.Record{}) || e != api.ErrForm {
		t.Fatalf("Read of %.200x (%d bytes): %+v, %d", b, len(b), r, e)
	}
}

// P10.1, and the stage's way: what fields may be is told by the functions of the kind's rule, of which there are seven, and by all of them.
func TestRules(t *testing.T) {
	if n := len(rules()); n != 7 {
		t.Fatalf("%d rules", n)
	}
	for _, s := range shapes() {
		may := rules()[s.kind]
		for _, c := range []struct {
			ends ends
			may  func(int) bool
		}{{s.who, may.who}, {s.n, may.n}, {s.seq, may.seq}} {
			for _, n := range within(c.ends) {
				if !c.may(n) {
					t.Errorf("%s: %d of %v may not be", s.name, n, c.ends)
				}
			}
			for _, n := range beyond(c.ends) {
				if c.may(n) {
					t.Errorf("%s: %d of %v may be", s.name, n, c.ends)
				}
			}
		}
		if may.name != s.name || may.text("") == s.text || may.text("a") != s.text || may.spec(api.Spec{}) == s.spec || may.spec(specs()[0]) != s.spec {
			t.Errorf("%s: name %q, a text, or a spec isn't as told", s.name, may.name)
		}
	}
}

// P10.1: each kind's rows by hand, bytes and words; the chapter's example is the first one.
func TestByHand(t *testing.T) {
	for _, c := range []struct {
		r     api.Record
		b     []byte
		words string
	}{
		{api.Record{Kind: api.Lead, Epoch: 1, N: 5, Seq: 10}, []byte{1, 1, 0, 5, 10, 0}, "lead 1 0 5 10"},
		{api.Record{Kind: api.Lead, Epoch: 300, Who: 63, N: 0, Seq: 1 << 20}, []byte{1, 172, 2, 63, 0, 128, 128, 64, 0}, "lead 300 63 0 1048576"},
		{api.Record{Kind: api.Publish, Epoch: 2, N: 7, Text: "ab"}, []byte{2, 2, 0, 7, 0, 2, 'a', 'b'}, "publish 2 0 7 0 ab"},
		{api.Record{Kind: api.Publish, Epoch: 1 << 40, N: 128, Text: " "}, []byte{2, 128, 128, 128, 128, 128, 32, 0, 128, 1, 0, 1, ' '}, "publish 1099511627776 0 128 0  "},
		{api.Record{Kind: api.Begin, Epoch: 4, N: 9, Spec: specs()[0]}, []byte{3, 4, 0, 9, 0, 0, 12, 1, 4, 1, 0, 1, 0, 0, 0, 0, 5, 0, 50}, "begin 4 0 9 0 1 4 1 0 1 0 0 0 0 5 0 50"},
		{api.Record{Kind: api.Begin, Epoch: 4, Spec: specs()[4]}, []byte{3, 4, 0, 0, 0, 0, 12, 172, 2, 8, 8, 8, 0, 97, 98, 99, 100, 128, 1, 129, 1, 130, 1}, "begin 4 0 0 0 300 8 8 8 0 97 98 99 100 128 129 130"},
		{api.Record{Kind: api.Move, Epoch: 5, N: api.RolledBack, Text: "back"}, []byte{4, 5, 0, 5, 0, 4, 'b', 'a', 'c', 'k'}, "move 5 0 5 0 back"},
		{api.Record{Kind: api.Intent, Epoch: 6, Who: 15, N: 0, Seq: 200}, []byte{5, 6, 15, 0, 200, 1, 0}, "intent 6 15 0 200"},
		{api.Record{Kind: api.Ack, Epoch: 1, Who: 0, Seq: 1}, []byte{6, 1, 0, 0, 1, 0}, "ack 1 0 0 1"},
		{api.Record{Kind: api.Step, Epoch: 8, Who: 4, N: 127, Text: "passed"}, []byte{7, 8, 4, 127, 0, 6, 'p', 'a', 's', 's', 'e', 'd'}, "step 8 4 127 0 passed"},
		{api.Record{Kind: api.Step, Epoch: 8, Who: 1, N: 0, Text: "a\nb\x00"}, []byte{7, 8, 1, 0, 0, 4, 'a', '\n', 'b', 0}, "step 8 1 0 0 a\nb\x00"},
	} {
		if b, e := Bytes(c.r); e != api.OK || !bytes.Equal(b, c.b) {
			t.Errorf("Bytes of %+v: %v, %d, want %v", c.r, b, e, c.b)
		}
		if r, e := Read(c.b); e != api.OK || r != c.r {
			t.Errorf("Read of %v: %+v, %d, want %+v", c.b, r, e, c.r)
		}
		if s := Words(c.r); s != c.words {
			t.Errorf("Words of %+v: %q, want %q", c.r, s, c.words)
		}
		if !Right(c.r) {
			t.Errorf("%+v: may not be", c.r)
		}
	}
}

// P10.1 and P10.2: of each kind each field over all it may be, to its ends.
func TestMayBe(t *testing.T) {
	for _, s := range shapes() {
		for _, r := range rightOf(s) {
			if !rightTold(r) {
				t.Fatalf("the tests' own words: %+v", r)
			}
			checkRight(t, r)
		}
	}
}

// P10.1: of each kind each field past its ends, and each field that isn't named, not zero; and records of no kind.
func TestMayNotBe(t *testing.T) {
	for _, s := range shapes() {
		for _, r := range wrongOf(s) {
			if rightTold(r) {
				t.Fatalf("the tests' own words: %.200q", fmt.Sprint(r))
			}
			checkWrong(t, r)
		}
	}
	for _, r := range noKind() {
		checkWrong(t, r)
	}
	checkWrong(t, api.Record{})
}

// P10.1: epochs of each kind.
func TestEpochs(t *testing.T) {
	for _, s := range shapes() {
		r := plain(s)
		for _, epoch := range []int{1, 2, 1 << 20, 1<<20 + 1, 1<<32 + 1, 1<<40 - 1, 1 << 40} {
			r.Epoch = epoch
			checkRight(t, r)
		}
		for _, epoch := range []int{0, -1, -2, 1<<40 + 1, 1<<40 + 2, 1 << 41, 1 << 62, math.MinInt, math.MaxInt} {
			r.Epoch = epoch
			checkWrong(t, r)
		}
	}
}

// P10.1: texts of each length, and of any byte, in each kind.
func TestTexts(t *testing.T) {
	for _, s := range shapes() {
		r := plain(s)
		for length := range 70 {
			r.Text = strings.Repeat("t", length)
			if s.text == (length > 0) && length <= 64 {
				checkRight(t, r)
			} else {
				checkWrong(t, r)
			}
		}
		for b := range 256 {
			for _, text := range []string{string([]byte{byte(b)}), "a" + string([]byte{byte(b), byte(b)}), string([]byte{byte(b)}) + strings.Repeat("z", 63)} {
				r.Text = text
				if s.text {
					checkRight(t, r)
				} else {
					checkWrong(t, r)
				}
			}
		}
	}
}

// P10.1: specs that may be and that may not be, in each kind.
func TestSpecs(t *testing.T) {
	for _, s := range shapes() {
		r := plain(s)
		for _, r.Spec = range specs() {
			if s.kind == 3 {
				checkRight(t, r)
			} else {
				checkWrong(t, r)
			}
		}
		for _, row := range badSpecs() {
			r.Spec = specOf(row...)
			if s.kind == 3 || r.Spec != (api.Spec{}) {
				checkWrong(t, r)
			} else {
				checkRight(t, r)
			}
		}
	}
}

// P10.1: a record of one kind with the kind of each other one: what may be of both, or of one alone.
func TestOtherKinds(t *testing.T) {
	same := 0
	for _, s := range shapes() {
		for _, r := range rightOf(s) {
			for _, other := range shapes() {
				r.Kind = other.kind
				if rightTold(r) {
					same++
					checkRight(t, r)
				} else {
					checkWrong(t, r)
				}
			}
		}
	}
	if same < 200 {
		t.Errorf("just %d of them may be", same)
	}
}

// P10.1: all rows of small numbers, of all kinds, with and without a text and a spec.
func TestSmall(t *testing.T) {
	for i := range 10 * 3 * 7 * 7 * 3 * 4 {
		at := i
		next := func(n int) int {
			digit := at % n
			at /= n
			return digit - 1
		}
		r := api.Record{Kind: next(10), Epoch: next(3), Who: next(7), N: next(7), Seq: next(3)}
		with := next(4) + 1
		if with&1 == 1 {
			r.Text = "a"
		}
		if with&2 == 2 {
			r.Spec = specs()[0]
		}
		if rightTold(r) {
			checkRight(t, r)
		} else {
			checkWrong(t, r)
		}
	}
}

// P10.2: Bytes is those of layer 3, one behind the other.
func TestBytesOfCodec(t *testing.T) {
	for _, s := range shapes() {
		for _, r := range rightOf(s) {
			var want []byte
			for _, n := range []int{r.Kind, r.Epoch, r.Who, r.N, r.Seq} {
				want, _ = codec.Number(want, n)
			}
			want, _ = codec.Text(want, r.Text)
			if s.kind == 3 {
				want, _ = codec.List(want, spec.Fields(r.Spec))
			}
			if b, e := Bytes(r); e != api.OK || !bytes.Equal(b, want) {
				t.Errorf("Bytes of %+v: %x, %d, want %x", r, b, e, want)
			}
		}
	}
}

// P10.1: bytes that are none, that are cut anywhere, and that have others behind.
func TestReadCut(t *testing.T) {
	checkForm(t, nil)
	checkForm(t, []byte{})
	for _, s := range shapes() {
		for _, r := range rightOf(s) {
			b := bytesTold(r)
			for i := range b {
				checkForm(t, b[:i])
				checkRead(t, b[i:])
			}
			for _, tail := range [][]byte{{0}, {1}, {12}, {128}, {255}, {0, 0}, b, listTold(rowOf(specs()[0])), make([]byte, 1000)} {
				checkForm(t, slices.Concat(b, tail))
			}
		}
	}
}

// P10.1 and P10.2: bytes with any one byte another, taken out, or put in.
func TestReadTurned(t *testing.T) {
	read := 0
	for _, s := range shapes() {
		for _, r := range rightOf(s)[:12] {
			b := bytesTold(r)
			for i := range len(b) + 1 {
				for x := range 256 {
					in := slices.Insert(slices.Clone(b), i, byte(x))
					checkRead(t, in)
					if i < len(b) {
						turned := slices.Clone(b)
						turned[i] = byte(x)
						checkRead(t, turned)
						if _, ok := readTold(turned); ok {
							read++
						}
					}
				}
				if i < len(b) {
					checkRead(t, slices.Delete(slices.Clone(b), i, i+1))
				}
			}
		}
	}
	if read < 5000 {
		t.Errorf("just %d of them are records", read)
	}
}

// numbersAt is where each number begins in the bytes of a record, and where the last one is over.
func numbersAt(r api.Record) []int {
	b := bytesTold(r)
	at := []int{0}
	skip := func(n int) {
		for range n {
			_, size := binary.Uvarint(b[at[len(at)-1]:])
			at = append(at, at[len(at)-1]+size)
		}
	}
	skip(6)
	if r.Kind == 3 {
		skip(13)
	}
	return at
}

// P10.2: each number written longer than it need be, or too great for one: no record's bytes.
func TestReadLonger(t *testing.T) {
	for _, s := range shapes() {
		for _, r := range rightOf(s) {
			b, at := bytesTold(r), numbersAt(r)
			for i := range len(at) - 1 {
				longer := slices.Clone(b[at[i]:at[i+1]])
				for range 11 {
					longer[len(longer)-1] |= 128
					longer = append(longer, 0)
					checkForm(t, slices.Concat(b[:at[i]], longer, b[at[i+1]:]))
				}
				first := b[at[i]]
				for _, great := range [][]byte{
					{first | 128, 128, 128, 128, 128, 128, 128, 128, 128, 1},
					{first | 128, 128, 128, 128, 128, 128, 128, 128, 128, 2},
					{first | 128, 128, 128, 128, 128, 128, 128, 128, 64},
					slices.Repeat([]byte{255}, 9), slices.Repeat([]byte{128}, 1000), append(slices.Repeat([]byte{255}, 8), 127),
				} {
					checkForm(t, slices.Concat(b[:at[i]], great, b[at[i+1]:]))
				}
			}
		}
	}
}

// P10.1: bytes of texts that are too long, or longer than what is there, and of lists that aren't of 12.
func TestReadTextsAndLists(t *testing.T) {
	for _, s := range shapes() {
		r := plain(s)
		for _, text := range append(longTexts(), "") {
			turned := r
			turned.Text = text
			checkRead(t, bytesTold(turned))
		}
		if s.text {
			b, at := bytesTold(r), numbersAt(r)[5]
			for n := range 256 {
				turned := slices.Clone(b)
				turned[at] = byte(n)
				if n == len(r.Text) {
					checkRead(t, turned)
				} else {
					checkForm(t, turned)
				}
			}
			checkForm(t, slices.Concat(b[:at], binary.AppendUvarint(nil, 1<<40), b[at+1:]))
		}
	}
	begin := plain(shapes()[2])
	head := bytesTold(begin)[:numbersAt(begin)[6]]
	row := rowOf(begin.Spec)
	checkForm(t, head)
	for n := range 70 {
		l := append(slices.Clone(row), make([]int, 70)...)[:n]
		b := slices.Concat(head, listTold(l))
		if n == 12 {
			checkRead(t, b)
		} else {
			checkForm(t, b)
		}
		checkForm(t, slices.Concat(head, binary.AppendUvarint(nil, uint64(n))))
	}
	checkForm(t, slices.Concat(head, listTold(make([]int, 12))))
	checkForm(t, slices.Concat(head, binary.AppendUvarint(nil, 1<<40), listTold(row)[1:]))
	for _, s := range shapes() {
		if s.kind != 3 {
			r := plain(s)
			checkForm(t, append(bytesTold(r), listTold(row)...))
			checkForm(t, append(bytesTold(r), listTold(nil)...))
		}
	}
}

// P10.1: bytes of records that may not be, whole.
func TestReadWrong(t *testing.T) {
	for _, s := range shapes() {
		for _, r := range append(wrongOf(s), noKind()...) {
			b := bytesTold(r)
			if r.Spec == (api.Spec{}) || r.Kind == 3 {
				checkForm(t, b)
			} else {
				checkForm(t, append(b, listTold(rowOf(r.Spec))...))
			}
		}
	}
	for _, b := range [][]byte{{0}, {0, 0, 0, 0, 0, 0}, {0, 1, 0, 5, 10, 0}, {8, 1, 0, 5, 10, 0}, {1, 0, 0, 5, 10, 0}, {1, 1, 64, 5, 10, 0}, {1, 1, 0, 5, 0, 0}, {4, 1, 0, 0, 0, 1, 'a'}, {4, 1, 0, 6, 0, 1, 'a'}, {7, 1, 0, 0, 0, 1, 'a'}, {7, 1, 5, 0, 0, 1, 'a'}, {2, 1, 0, 1, 0, 0}, {6, 1, 0, 1, 1, 0}} {
		checkForm(t, b)
	}
	checkForm(t, make([]byte, 1<<20))
	checkForm(t, bytes.Repeat([]byte{1, 1, 0, 5, 10, 0}, 1<<16))
	checkForm(t, bytes.Repeat([]byte{255}, 1<<20))
}

// P10.1: names of the kinds, and of others.
func TestName(t *testing.T) {
	for kind, name := range map[int]string{api.Lead: "lead", api.Publish: "publish", api.Begin: "begin", api.Move: "move", api.Intent: "intent", api.Ack: "ack", api.Step: "step"} {
		if got := Name(kind); got != name {
			t.Errorf("Name of %d: %q, want %q", kind, got, name)
		}
	}
	for _, kind := range noKinds() {
		if got := Name(kind); got != "" {
			t.Errorf("Name of %d: %q", kind, got)
		}
	}
}

// P10.2: no two records have the same bytes.
func TestApart(t *testing.T) {
	of := map[string]api.Record{}
	for _, s := range shapes() {
		for _, r := range rightOf(s) {
			b, _ := Bytes(r)
			if other, ok := of[string(b)]; ok && other != r {
				t.Errorf("%+v and %+v are both %x", r, other, b)
			}
			of[string(b)] = r
		}
	}
}

// R4: what is handed in is neither changed nor kept, and bytes that are answered are new memory.
func TestMemory(t *testing.T) {
	for _, s := range shapes() {
		r := plain(s)
		want := bytesTold(r)
		first, _ := Bytes(r)
		second, _ := Bytes(r)
		for i := range first {
			first[i] ^= 255
		}
		_ = append(first, 1, 2, 3)
		if third, _ := Bytes(r); !bytes.Equal(second, want) || !bytes.Equal(third, want) {
			t.Errorf("Bytes shares memory: %x, %x, want %x", second, third, want)
		}
		room := append(slices.Clone(want), 9, 9, 9)
		got, e := Read(room[:len(want)])
		if e != api.OK || !bytes.Equal(room, append(slices.Clone(want), 9, 9, 9)) {
			t.Errorf("Read changed its bytes: %x, %d", room, e)
		}
		for i := range room {
			room[i] = 'z'
		}
		if got != r || Words(got) != wordsTold(r) {
			t.Errorf("Read kept its bytes: %+v, want %+v", got, r)
		}
	}
}

// R6: what is answered hangs on what is asked alone, whatever was asked ahead.
func TestAskedAgain(t *testing.T) {
	for range 3 {
		for _, s := range shapes() {
			r := plain(s)
			checkRight(t, r)
			checkForm(t, append(bytesTold(r), 0))
			checkWrong(t, wrongOf(s)[0])
			checkRight(t, r)
		}
	}
}

func FuzzRead(f *testing.F) {
	f.Add([]byte{})
	for _, s := range shapes() {
		for _, r := range rightOf(s) {
			f.Add(bytesTold(r))
		}
	}
	f.Fuzz(checkRead)
}

func FuzzRecord(f *testing.F) {
	for _, s := range shapes() {
		for _, r := range rightOf(s) {
			f.Add(r.Kind, r.Epoch, r.Who, r.N, r.Seq, r.Text, 0, 0)
			f.Add(r.Kind, r.Epoch, r.Who, r.N, r.Seq, r.Text, 1, 0)
		}
	}
	f.Fuzz(func(t *testing.T, kind, epoch, who, n, seq int, text string, of, turn int) {
		r := api.Record{Kind: kind, Epoch: epoch, Who: who, N: n, Seq: seq, Text: text}
		if of > 0 {
			row := rowOf(specs()[of%len(specs())])
			row[of%12] += turn
			r.Spec = specOf(row...)
		}
		if rightTold(r) {
			checkRight(t, r)
		} else {
			checkWrong(t, r)
		}
	})
}
