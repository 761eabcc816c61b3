package codec

import (
	"bytes"
	"encoding/binary"
	"math"
	"slices"
	"strings"
	"testing"

	"pacesetter/api"
)

const top = 1<<62 - 1

// goodNumbers are numbers that may be: ordinary ones, the ends, and both sides of each place where one more digit is needed.
func goodNumbers() []int {
	l := []int{0, 1, 2, 5, 64, 100, 126, 127, 128, 129, 255, 256, 300, 1000, 12345, api.MaxCount, api.MaxTick, 1 << 31, 1 << 32, 1<<61 - 1, 1 << 61, top - 1, top}
	for i := 1; i < 62; i++ {
		l = append(l, 1<<i-1, 1<<i, 1<<i+1)
	}
	return l
}

// badNumbers are numbers that may not be.
func badNumbers() []int {
	return []int{-1, -2, -127, -128, -129, math.MinInt32, -top, -top - 1, math.MinInt + 1, math.MinInt, top + 1, top + 2, 1<<62 + 128, math.MaxInt - 1, math.MaxInt}
}

// heads are bytes for others to be put behind.
func heads() [][]byte {
	return [][]byte{nil, {}, {0}, {7}, {128}, {255, 255}, []byte("head"), bytes.Repeat([]byte{172, 2}, 500)}
}

// texts are texts that may be.
func texts() []string {
	return []string{"", "a", "ab", "\x00", "\xff\xfe", "\x80\x80", "ünïcödé", "one two", strings.Repeat("x", 63), strings.Repeat("y", 64), strings.Repeat("\xff", 64), strings.Repeat("ä", 32)}
}

// lists are lists that may be.
func lists() [][]int {
	l := [][]int{nil, {}, {0}, {0, 0}, {1}, {300}, {127, 128}, {top}, {3, 1, 2}, {top, 0, top}, make([]int, 63), make([]int, 64), slices.Repeat([]int{top}, 64), slices.Repeat([]int{127, 128}, 32)}
	return append(l, goodNumbers()[:23])
}

// numberTold is a number's bytes, worked out by another's hand: the library's uvarint is the same row of digits.
func numberTold(n int) []byte { return binary.AppendUvarint(nil, uint64(n)) }

// textTold is a text's bytes.
func textTold(s string) []byte { return append(numberTold(len(s)), s...) }

// listTold is a list's bytes.
func listTold(l []int) []byte {
	b := numberTold(len(l))
	for _, n := range l {
		b = append(b, numberTold(n)...)
	}
	return b
}

// readNumberTold is the number at the beginning of the bytes, how many bytes it has, and whether there is one.
func readNumberTold(b []byte) (int, int, bool) {
	n, size := binary.Uvarint(b)
	if size <= 0 || n > top || !bytes.Equal(numberTold(int(n)), b[:size]) {
		return 0, 0, false
	}
	return int(n), size, true
}

// readTextTold is the same of a text.
func readTextTold(b []byte) (string, int, bool) {
	n, size, ok := readNumberTold(b)
	if !ok || n > 64 || size+n > len(b) {
		return "", 0, false
	}
	return string(b[size : size+n]), size + n, true
}

// readListTold is the same of a list.
func readListTold(b []byte) ([]int, int, bool) {
	n, at, ok := readNumberTold(b)
	if !ok || n > 64 {
		return nil, 0, false
	}
	var l []int
	for range n {
		x, size, ok := readNumberTold(b[at:])
		if !ok {
			return nil, 0, false
		}
		l, at = append(l, x), at+size
	}
	return l, at, true
}

// checkTaken holds what a reader is, behind one call, against what was to be taken of b: so many bytes, or an error.
func checkTaken(t *testing.T, r *Reader, b []byte, size int, ok bool) {
	t.Helper()
	wantErr, wantLeft, wantEnd := api.OK, len(b)-size, api.OK
	if wantLeft > 0 {
		wantEnd = api.ErrForm
	}
	if !ok {
		wantErr, wantLeft, wantEnd = api.ErrForm, 0, api.ErrForm
	}
	if r.Err() != wantErr || r.Left() != wantLeft || r.End() != wantEnd {
		t.Errorf("of %x: Err %d, Left %d, End %d, want %d, %d, %d", b, r.Err(), r.Left(), r.End(), wantErr, wantLeft, wantEnd)
	}
}

// checkRead holds what is read at the beginning of b, in all three ways, against what is told (P3.1), and what is written of it against what was read (P3.2).
func checkRead(t *testing.T, b []byte) {
	t.Helper()
	n, size, ok := readNumberTold(b)
	r := Read(b)
	if got := r.Number(); got != n {
		t.Errorf("Number of %x: %d, want %d", b, got, n)
	} else if again, e := Number(nil, got); ok && (e != api.OK || !bytes.Equal(again, b[:size])) {
		t.Errorf("%d is read of %x and written %x", got, b, again)
	}
	checkTaken(t, r, b, size, ok)

	s, size, ok := readTextTold(b)
	r = Read(b)
	if got := r.Text(); got != s {
		t.Errorf("Text of %x: %q, want %q", b, got, s)
	} else if again, e := Text(nil, got); ok && (e != api.OK || !bytes.Equal(again, b[:size])) {
		t.Errorf("%q is read of %x and written %x", got, b, again)
	}
	checkTaken(t, r, b, size, ok)

	l, size, ok := readListTold(b)
	r = Read(b)
	if got := r.List(); !slices.Equal(got, l) {
		t.Errorf("List of %x: %v, want %v", b, got, l)
	} else if again, e := List(nil, got); ok && (e != api.OK || !bytes.Equal(again, b[:size])) {
		t.Errorf("%v is read of %x and written %x", got, b, again)
	}
	checkTaken(t, r, b, size, ok)
}

// checkSilent holds a reader behind an error against the chapter: all calls tell nothing, and the error stays.
func checkSilent(t *testing.T, r *Reader) {
	t.Helper()
	for range 2 {
		if n, s, l := r.Number(), r.Text(), r.List(); n != 0 || s != "" || len(l) != 0 {
			t.Errorf("behind an error: %d, %q, %v", n, s, l)
		}
		if r.Err() != api.ErrForm || r.Left() != 0 || r.End() != api.ErrForm {
			t.Errorf("behind an error: Err %d, Left %d, End %d", r.Err(), r.Left(), r.End())
		}
	}
}

// P3.1: a number's bytes and how many they are, at each end that the chapter names.
func TestNumber(t *testing.T) {
	for _, c := range []struct {
		n    int
		want []byte
	}{
		{0, []byte{0}}, {1, []byte{1}}, {127, []byte{127}}, {128, []byte{128, 1}}, {129, []byte{129, 1}}, {255, []byte{255, 1}}, {256, []byte{128, 2}},
		{300, []byte{172, 2}}, {16383, []byte{255, 127}}, {16384, []byte{128, 128, 1}},
		{1<<56 - 1, []byte{255, 255, 255, 255, 255, 255, 255, 127}}, {1 << 56, []byte{128, 128, 128, 128, 128, 128, 128, 128, 1}},
		{1 << 61, []byte{128, 128, 128, 128, 128, 128, 128, 128, 32}}, {top, []byte{255, 255, 255, 255, 255, 255, 255, 255, 63}},
	} {
		if b, e := Number(nil, c.n); !bytes.Equal(b, c.want) || e != api.OK {
			t.Errorf("Number(%d) = %v, %d, want %v", c.n, b, e, c.want)
		}
		if n := Size(c.n); n != len(c.want) {
			t.Errorf("Size(%d) = %d, want %d", c.n, n, len(c.want))
		}
		r := Read(c.want)
		if n := r.Number(); n != c.n || r.End() != api.OK {
			t.Errorf("read of %v: %d, %d", c.want, n, r.End())
		}
	}
}

// P3.1: any number, behind any bytes.
func TestNumberAsTold(t *testing.T) {
	for _, head := range heads() {
		for _, n := range goodNumbers() {
			want := append(bytes.Clone(head), numberTold(n)...)
			if b, e := Number(head, n); !bytes.Equal(b, want) || e != api.OK {
				t.Errorf("Number(%x, %d) = %x, %d", head, n, b, e)
			}
			if Size(n) != len(numberTold(n)) {
				t.Errorf("Size(%d) = %d", n, Size(n))
			}
		}
		for _, n := range badNumbers() {
			if b, e := Number(head, n); !bytes.Equal(b, head) || e != api.ErrArg {
				t.Errorf("Number(%x, %d) = %x, %d", head, n, b, e)
			}
			if Size(n) != 0 {
				t.Errorf("Size(%d) = %d", n, Size(n))
			}
		}
	}
}

// P3.1: a text's bytes, of the chapter's example, at 64 bytes (not runes) and past them.
func TestText(t *testing.T) {
	if b, e := Text(nil, "ab"); !bytes.Equal(b, []byte{2, 'a', 'b'}) || e != api.OK {
		t.Errorf("Text(ab) = %v, %d", b, e)
	}
	if b, e := Text(nil, ""); !bytes.Equal(b, []byte{0}) || e != api.OK {
		t.Errorf("Text of none = %v, %d", b, e)
	}
	for _, head := range heads() {
		for _, s := range texts() {
			want := append(bytes.Clone(head), textTold(s)...)
			if b, e := Text(head, s); !bytes.Equal(b, want) || e != api.OK {
				t.Errorf("Text(%x, %q) = %x, %d", head, s, b, e)
			}
		}
		for _, s := range []string{strings.Repeat("x", 65), strings.Repeat("ä", 33), strings.Repeat("\x00", 128), strings.Repeat("z", 1<<16)} {
			if b, e := Text(head, s); !bytes.Equal(b, head) || e != api.ErrOver {
				t.Errorf("Text(%x) of %d bytes: %x, %d", head, len(s), b, e)
			}
		}
	}
}

// P3.1: a list's bytes, at 64 numbers and past them.
func TestList(t *testing.T) {
	if b, e := List(nil, []int{5, 300}); !bytes.Equal(b, []byte{2, 5, 172, 2}) || e != api.OK {
		t.Errorf("List(5, 300) = %v, %d", b, e)
	}
	for _, head := range heads() {
		for _, l := range lists() {
			want := append(bytes.Clone(head), listTold(l)...)
			if b, e := List(head, l); !bytes.Equal(b, want) || e != api.OK {
				t.Errorf("List(%x, %v) = %x, %d", head, l, b, e)
			}
		}
	}
}

// P3.1: a list that is too long is told ahead of its numbers, and a number that may not be wherever it stands; b alone is beside.
func TestListRefused(t *testing.T) {
	for _, head := range heads() {
		for _, size := range []int{1, 2, 63, 64, 65, 66, 1000} {
			l := slices.Repeat([]int{7}, size)
			if b, e := List(head, l); size > 64 && (!bytes.Equal(b, head) || e != api.ErrOver) {
				t.Errorf("List(%x) of %d: %x, %d", head, size, b, e)
			}
			want := api.ErrArg
			if size > 64 {
				want = api.ErrOver
			}
			for _, at := range []int{0, size / 2, size - 1} {
				for _, n := range badNumbers() {
					l := slices.Repeat([]int{7}, size)
					l[at] = n
					if b, e := List(head, l); !bytes.Equal(b, head) || e != want {
						t.Errorf("List(%x) of %d, %d at %d: %x, %d", head, size, n, at, b, e)
					}
				}
			}
		}
	}
}

// P3.1 and P3.2: all rows of up to two bytes, and all of three behind each other by their highest bits and ends.
func TestReadShort(t *testing.T) {
	checkRead(t, nil)
	for a := range 256 {
		checkRead(t, []byte{byte(a)})
		for b := range 256 {
			checkRead(t, []byte{byte(a), byte(b)})
		}
	}
	some := []byte{0, 1, 2, 3, 4, 63, 64, 65, 127, 128, 129, 130, 192, 254, 255}
	for _, a := range some {
		for _, b := range some {
			for _, c := range some {
				checkRead(t, []byte{a, b, c})
				for _, d := range some {
					checkRead(t, []byte{a, b, c, d})
				}
			}
		}
	}
}

// P3.1 and P3.2: numbers of up to twelve digits: at each length those whose last one is 0, 1, the greatest that may be and one past it, and more of them than a number may have.
func TestReadLongNumbers(t *testing.T) {
	for size := 1; size <= 12; size++ {
		for _, low := range []byte{128, 129, 255} {
			for _, last := range []byte{0, 1, 31, 32, 63, 64, 65, 127, 128, 255} {
				b := append(bytes.Repeat([]byte{low}, size-1), last)
				checkRead(t, b)
				checkRead(t, append(b, 0))
				checkRead(t, append(b, 1))
				checkRead(t, append([]byte{1}, b...)) // as a list's only number
			}
		}
	}
}

// P3.1: bytes that are no number, each one named.
func TestNoNumber(t *testing.T) {
	for name, b := range map[string][]byte{
		"none":                      {},
		"cut":                       {172},
		"cut behind many":           {128, 128, 128},
		"0 in two digits":           {128, 0},
		"1 in two digits":           {129, 0},
		"300 in three digits":       {172, 130, 0},
		"0 in nine digits":          {128, 128, 128, 128, 128, 128, 128, 128, 0},
		"2^62":                      {128, 128, 128, 128, 128, 128, 128, 128, 64},
		"2^63 - 1":                  {255, 255, 255, 255, 255, 255, 255, 255, 127},
		"2^63":                      {128, 128, 128, 128, 128, 128, 128, 128, 128, 1},
		"2^64":                      {128, 128, 128, 128, 128, 128, 128, 128, 128, 2},
		"2^70":                      {128, 128, 128, 128, 128, 128, 128, 128, 128, 128, 1},
		"ten digits, the last is 0": {255, 255, 255, 255, 255, 255, 255, 255, 191, 0},
		"no end":                    bytes.Repeat([]byte{255}, 1000),
	} {
		r := Read(b)
		if n := r.Number(); n != 0 || r.Err() != api.ErrForm {
			t.Errorf("%s: %d, %d", name, n, r.Err())
		}
		checkSilent(t, r)
		r = Read(append([]byte{1}, b...))
		if l := r.List(); len(l) != 0 || r.Err() != api.ErrForm {
			t.Errorf("%s, in a list: %v, %d", name, l, r.Err())
		}
		checkSilent(t, r)
	}
}

// P3.1: bytes that are no text, or no list: of 64 there is one, of 65 there is none, whatever follows.
func TestNoTextNoList(t *testing.T) {
	for _, count := range []int{0, 1, 63, 64, 65, 66, 127, 128, 300, api.MaxCount, top} {
		for _, follow := range []int{0, 1, 62, 63, 64, 65, 66, 300, 400} {
			b := append(numberTold(count), bytes.Repeat([]byte{1}, follow)...)
			checkRead(t, b)
			whole := count <= 64 && count <= follow
			r := Read(b)
			if s := r.Text(); (r.Err() == api.OK) != whole || whole && len(s) != count {
				t.Errorf("text of %d, %d bytes follow: %q, %d", count, follow, s, r.Err())
			}
			r = Read(b)
			if l := r.List(); (r.Err() == api.OK) != whole || whole && len(l) != count {
				t.Errorf("list of %d, %d bytes follow: %v, %d", count, follow, l, r.Err())
			}
		}
	}
	for _, b := range [][]byte{{130, 0, 'a', 'b'}, {192, 0}, {128}, {2, 'a'}, {1}, {2, 5, 128}, {2, 5, 128, 0}, {2, 128, 0, 5}, {1, 172}} {
		r := Read(b)
		if l := r.List(); len(l) != 0 || r.Err() != api.ErrForm {
			t.Errorf("list of %v: %v, %d", b, l, r.Err())
		}
		checkSilent(t, r)
	}
	for _, b := range [][]byte{{130, 0, 'a', 'b'}, {192, 0}, {128}, {2, 'a'}, {1}, {64}} {
		r := Read(b)
		if s := r.Text(); s != "" || r.Err() != api.ErrForm {
			t.Errorf("text of %v: %q, %d", b, s, r.Err())
		}
		checkSilent(t, r)
	}
}

// row is numbers, texts and lists, one behind the other, and the bytes at which each one ends.
type row struct {
	bytes []byte
	ends  []int
}

// add puts one more behind.
func (w *row) add(t *testing.T, b []byte, e api.Errno) {
	t.Helper()
	if e != api.OK {
		t.Fatalf("refused: %d", e)
	}
	w.bytes, w.ends = b, append(w.ends, len(b))
}

// writeRow writes all that may be: a number, a text, a list, and so on.
func writeRow(t *testing.T) *row {
	t.Helper()
	w := &row{}
	for i := range 25 {
		b, e := Number(w.bytes, goodNumbers()[i*7%len(goodNumbers())])
		w.add(t, b, e)
		b, e = Text(w.bytes, texts()[i%len(texts())])
		w.add(t, b, e)
		b, e = List(w.bytes, lists()[i%len(lists())])
		w.add(t, b, e)
	}
	return w
}

// readRow reads back what writeRow wrote, of the first cut bytes: just what ended ahead of the cut is read as it was, then there is an error.
func readRow(t *testing.T, w *row, cut int) {
	t.Helper()
	r := Read(w.bytes[:cut])
	for at, end := range w.ends {
		i := at / 3
		n, s, l := goodNumbers()[i*7%len(goodNumbers())], texts()[i%len(texts())], lists()[i%len(lists())]
		if end > cut {
			n, s, l = 0, "", nil
		}
		same := false
		switch at % 3 {
		case 0:
			same = r.Number() == n
		case 1:
			same = r.Text() == s
		case 2:
			same = slices.Equal(r.List(), l)
		}
		if !same {
			t.Fatalf("cut at %d: the one at place %d isn't as it was", cut, at)
		}
		if end > cut {
			if r.Err() != api.ErrForm {
				t.Fatalf("cut at %d: Err %d at place %d", cut, r.Err(), at)
			}
			checkSilent(t, r)
			return
		}
		checkTaken(t, r, w.bytes[:cut], end, true)
	}
	if cut == len(w.bytes) && (r.End() != api.OK || r.Left() != 0) {
		t.Errorf("at the end: %d, %d left", r.End(), r.Left())
	}
}

// P3.2: what is written is read as it was, one behind the other, and of a row that is cut anywhere what is whole.
func TestOneBehindTheOther(t *testing.T) {
	w := writeRow(t)
	for cut := 0; cut <= len(w.bytes); cut++ {
		readRow(t, w, cut)
	}
}

// P3.2: two that are unlike are written unlike.
func TestWrittenUnlike(t *testing.T) {
	seen := map[string]int{}
	for n := range 70000 {
		b, _ := Number(nil, n)
		if was, ok := seen[string(b)]; ok {
			t.Fatalf("%d and %d: %x", was, n, b)
		}
		seen[string(b)] = n
	}
}

// P3.1: Left and End at bytes that are left don't end a reader: it reads on.
func TestLeftAndEnd(t *testing.T) {
	r := Read([]byte{172, 2, 2, 'a', 'b', 1, 9})
	if r.Err() != api.OK || r.Left() != 7 || r.End() != api.ErrForm {
		t.Errorf("at first: %d, %d, %d", r.Err(), r.Left(), r.End())
	}
	if n := r.Number(); n != 300 || r.Err() != api.OK || r.Left() != 5 || r.End() != api.ErrForm {
		t.Errorf("number %d: %d, %d, %d", n, r.Err(), r.Left(), r.End())
	}
	if s := r.Text(); s != "ab" || r.Err() != api.OK || r.Left() != 2 || r.End() != api.ErrForm {
		t.Errorf("text %q: %d, %d, %d", s, r.Err(), r.Left(), r.End())
	}
	if l := r.List(); !slices.Equal(l, []int{9}) || r.Err() != api.OK || r.Left() != 0 || r.End() != api.OK {
		t.Errorf("list %v: %d, %d, %d", l, r.Err(), r.Left(), r.End())
	}
	if n := r.Number(); n != 0 || r.Err() != api.ErrForm || r.End() != api.ErrForm {
		t.Errorf("past the end: %d, %d, %d", n, r.Err(), r.End())
	}
	for _, b := range [][]byte{nil, {}} {
		if r := Read(b); r.Err() != api.OK || r.Left() != 0 || r.End() != api.OK {
			t.Errorf("of no bytes: %d, %d, %d", r.Err(), r.Left(), r.End())
		}
	}
}

// P3.1: behind an error a reader tells nothing, though bytes that could be read stood behind it.
func TestBehindAnError(t *testing.T) {
	for name, fail := range map[string]func(r *Reader){
		"number": func(r *Reader) { r.Number() },
		"text":   func(r *Reader) { r.Text() },
		"list":   func(r *Reader) { r.List() },
	} {
		r := Read([]byte{128, 0, 1, 1, 1, 1})
		fail(r)
		if r.Err() != api.ErrForm {
			t.Errorf("%s: %d", name, r.Err())
		}
		checkSilent(t, r)
	}
	r := Read([]byte{2, 128, 0, 1, 1}) // the list's first number is no number, though two are told
	if l := r.List(); len(l) != 0 {
		t.Errorf("%v", l)
	}
	checkSilent(t, r)
	r = Read([]byte{65, 1, 1, 1})
	if s := r.Text(); s != "" {
		t.Errorf("%q", s)
	}
	checkSilent(t, r)
}

// P3.1 and R7: a reader that is nil.
func TestNilReader(t *testing.T) {
	var r *Reader
	for range 2 {
		if n, s, l := r.Number(), r.Text(), r.List(); n != 0 || s != "" || len(l) != 0 {
			t.Errorf("of nil: %d, %q, %v", n, s, l)
		}
		if r.Err() != api.ErrArg || r.Left() != 0 || r.End() != api.ErrArg {
			t.Errorf("of nil: %d, %d, %d", r.Err(), r.Left(), r.End())
		}
	}
}

// written is each writing call, of bytes, that puts some behind them or is refused.
func written() map[string]func(b []byte) []byte {
	return map[string]func(b []byte) []byte{
		"Number":           func(b []byte) []byte { b, _ = Number(b, 300); return b },
		"Number, refused":  func(b []byte) []byte { b, _ = Number(b, -1); return b },
		"Text":             func(b []byte) []byte { b, _ = Text(b, "ab"); return b },
		"Text, refused":    func(b []byte) []byte { b, _ = Text(b, strings.Repeat("x", 65)); return b },
		"List":             func(b []byte) []byte { b, _ = List(b, []int{1, 300}); return b },
		"List, refused":    func(b []byte) []byte { b, _ = List(b, []int{1, -1}); return b },
		"List, far longer": func(b []byte) []byte { b, _ = List(b, make([]int, 65)); return b },
	}
}

// R4: bytes that are handed in, and the room behind them, aren't written to, and an answer hangs on them no more.
func TestWrittenMemory(t *testing.T) {
	for name, write := range written() {
		room := bytes.Repeat([]byte{'r'}, 64)
		b := room[:4:64]
		copy(b, "head")
		out := write(b)
		if string(b) != "head" || !bytes.Equal(room[4:], bytes.Repeat([]byte{'r'}, 60)) {
			t.Errorf("%s wrote into what was handed in: %q", name, room)
		}
		was := bytes.Clone(out)
		for i := range room {
			room[i] = 'z'
		}
		if !bytes.Equal(out, was) || string(out[:4]) != "head" {
			t.Errorf("%s: the answer hangs on what was handed in: %q", name, out)
		}
		for i := range out {
			out[i] = 'q'
		}
		if !bytes.Equal(room, bytes.Repeat([]byte{'z'}, 64)) {
			t.Errorf("%s: what was handed in hangs on the answer", name)
		}
		head := []byte("head")
		first := write(head)
		first[0] = 'x'
		if second := write(head); second[0] != 'h' {
			t.Errorf("%s: two answers share memory", name)
		}
	}
	l := []int{3, 300, 5}
	List(nil, l)
	if !slices.Equal(l, []int{3, 300, 5}) {
		t.Errorf("List changed what was handed in: %v", l)
	}
}

// R4: a reader doesn't keep the bytes, nor change them; lists that it answers are new memory.
func TestReadMemory(t *testing.T) {
	b := []byte{172, 2, 2, 'a', 'b', 2, 8, 9, 2, 8, 9}
	was := bytes.Clone(b)
	r := Read(b)
	other := Read(b)
	for i := range b {
		b[i] = 128
	}
	n, s, l := r.Number(), r.Text(), r.List()
	if n != 300 || s != "ab" || !slices.Equal(l, []int{8, 9}) {
		t.Errorf("the reader hangs on what was handed in: %d, %q, %v", n, s, l)
	}
	l[0], l[1] = 7, 7
	if l := r.List(); !slices.Equal(l, []int{8, 9}) || r.End() != api.OK {
		t.Errorf("lists share memory: %v, %d", l, r.End())
	}
	if other.Left() != 11 || other.Number() != 300 {
		t.Error("two readers share what is left")
	}
	if !bytes.Equal(b, bytes.Repeat([]byte{128}, len(was))) {
		t.Error("a reader changed what was handed in")
	}
	copy(b, was)
	r = Read(b)
	r.Number()
	r.Text()
	r.List()
	if !bytes.Equal(b, was) {
		t.Error("a reader changed what was handed in")
	}
}

// R6: the same is answered the same, whatever was asked between.
func TestOneAnswer(t *testing.T) {
	for range 3 {
		Number([]byte{1}, -1)
		Read([]byte{128, 0}).List()
		if b, e := Number(nil, 300); !bytes.Equal(b, []byte{172, 2}) || e != api.OK {
			t.Fatalf("another answer: %v, %d", b, e)
		}
		if s := Read([]byte{2, 'a', 'b'}).Text(); s != "ab" {
			t.Fatalf("another answer: %q", s)
		}
	}
}

func FuzzRead(f *testing.F) {
	f.Add([]byte{172, 2})
	f.Add([]byte{2, 'a', 'b', 0})
	f.Add([]byte{255, 255, 255, 255, 255, 255, 255, 255, 63})
	f.Fuzz(func(t *testing.T, b []byte) { checkRead(t, b) })
}

func FuzzWrite(f *testing.F) {
	f.Add([]byte("head"), 300, "ab", 7)
	f.Add([]byte(nil), top+1, strings.Repeat("x", 65), -1)
	f.Fuzz(func(t *testing.T, head []byte, n int, s string, m int) {
		b, e := Number(head, n)
		if Size(n) == 0 != (n < 0 || n > top) || (e == api.OK) != (Size(n) > 0) || len(b) != len(head)+Size(n) {
			t.Fatalf("Number(%d): %x, %d, Size %d", n, b, e, Size(n))
		}
		b, textErr := Text(b, s)
		b, listErr := List(b, []int{n, m})
		if !bytes.HasPrefix(b, head) {
			t.Fatalf("%x isn't ahead of %x", head, b)
		}
		r := Read(b[len(head):])
		if e == api.OK && r.Number() != n || textErr == api.OK && r.Text() != s || listErr == api.OK && !slices.Equal(r.List(), []int{n, m}) || r.End() != api.OK {
			t.Fatalf("%x: %d", b, r.End())
		}
	})
}
