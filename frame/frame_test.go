package frame

import (
	"bytes"
	"encoding/binary"
	"hash/crc32"
	"math"
	"slices"
	"testing"

	"pacesetter/api"
)

const top = api.MaxPayload

// filled is n bytes that differ from seed to seed and hold all values.
func filled(n int, seed uint32) []byte {
	b := make([]byte, n)
	word := seed*2654435761 + 1
	for i := range b {
		word = word*1664525 + 1013904223
		b[i] = byte(word >> 24)
	}
	return b
}

// payloads are payloads that may be: ordinary ones, each single byte, all alike, mixed, at each length where something turns, and one that is a frame itself.
func payloads() [][]byte {
	l := [][]byte{[]byte("ab"), []byte("123456789"), frameTold([]byte{7}), frameTold([]byte("ab"))}
	for i := range 256 {
		l = append(l, []byte{byte(i)})
	}
	for _, n := range []int{2, 3, 4, 5, 6, 7, 63, 64, 127, 128, 254, 255, 256, 257, 511, 512, 513, 767, 768, 994, 995, 998, 999, 1000} {
		l = append(l, make([]byte, n), bytes.Repeat([]byte{0xFF}, n), filled(n, uint32(n)))
	}
	return l
}

// tooLong are payloads that are longer than may be, also those whose length's two bytes alone tell one that may be.
func tooLong() [][]byte {
	var l [][]byte
	for _, n := range []int{1001, 1002, 1023, 1024, 2000, 65535, 65536, 65537, 65536 + 1000, 1 << 20} {
		l = append(l, filled(n, uint32(n)))
	}
	return l
}

// heads are bytes for a frame to be put behind.
func heads() [][]byte {
	return [][]byte{nil, {}, {0}, {0, 1, 7}, {255, 255}, []byte("head"), frameTold([]byte{7}), filled(3000, 1)}
}

// tails are bytes that may stand behind a frame, and no frame that can be got is at their beginning.
func tails() [][]byte {
	return [][]byte{{0}, {0, 1}, {0, 0}, {0, 1, 7}, {3, 233}, {255, 255, 255}, []byte("tail"), make([]byte, 2000), bytes.Repeat([]byte{0xFF}, 2000), {0, 1, 7, 0, 0, 0, 0}}
}

// frameTold is a frame as the chapter's words tell it, by the library's own check.
func frameTold(payload []byte) []byte {
	b := binary.BigEndian.AppendUint16(nil, uint16(len(payload)))
	b = append(b, payload...)
	return binary.BigEndian.AppendUint32(b, crc32.ChecksumIEEE(b))
}

// getTold is what Get has to answer as the chapter's words tell it: that what is at the beginning is a frame just if its payload's frame is the same.
func getTold(b []byte) ([]byte, int, api.Errno) {
	if len(b) < 2 {
		return nil, 0, api.ErrForm
	}
	n := int(binary.BigEndian.Uint16(b))
	if n < 1 || n > 1000 || len(b) < n+6 {
		return nil, 0, api.ErrForm
	}
	if !bytes.Equal(frameTold(b[2:n+2]), b[:n+6]) {
		return nil, 0, api.ErrCrc
	}
	return b[2 : n+2], n + 6, api.OK
}

// scanTold is the same of Scan.
func scanTold(b []byte) ([][]byte, int, api.Errno) {
	var l [][]byte
	for at := 0; ; {
		if len(b[at:]) == 0 {
			return l, at, api.OK
		}
		p, size, e := getTold(b[at:])
		if e != api.OK {
			return l, at, e
		}
		l, at = append(l, p), at+size
	}
}

// checkAll holds what Get, Scan and Count answer of any bytes against what is told, and that none of them changes the bytes.
func checkAll(t *testing.T, b []byte) {
	t.Helper()
	was := bytes.Clone(b)
	want, wantSize, wantErr := getTold(b)
	if p, size, e := Get(b); !bytes.Equal(p, want) || size != wantSize || e != wantErr {
		t.Errorf("Get of %d bytes (%x..): %d bytes, %d, %d, want %d bytes, %d, %d", len(b), b[:min(len(b), 8)], len(p), size, e, len(want), wantSize, wantErr)
	}
	wants, wantSize, wantErr := scanTold(b)
	if l, size, e := Scan(b); !slices.EqualFunc(l, wants, bytes.Equal) || size != wantSize || e != wantErr {
		t.Errorf("Scan of %d bytes (%x..): %d frames, %d, %d, want %d frames, %d, %d", len(b), b[:min(len(b), 8)], len(l), size, e, len(wants), wantSize, wantErr)
	}
	if n := Count(b); n != len(wants) {
		t.Errorf("Count of %d bytes: %d, want %d", len(b), n, len(wants))
	}
	if !bytes.Equal(b, was) {
		t.Errorf("%d bytes were changed", len(b))
	}
}

// put puts the payloads one behind the other.
func put(t *testing.T, l [][]byte) []byte {
	t.Helper()
	var b []byte
	for _, p := range l {
		more, e := Put(b, p)
		if e != api.OK {
			t.Fatalf("Put of %d bytes: %d", len(p), e)
		}
		b = more
	}
	return b
}

// P4.1: frames that are written out here.
func TestPutKnown(t *testing.T) {
	for _, c := range []struct{ head, payload, want string }{
		{"", "\x07", "\x00\x01\x07\x78\x3E\x7D\xF0"},
		{"", "ab", "\x00\x02ab\xFD\x9A\x51\xE0"},
		{"head", "ab", "head\x00\x02ab\xFD\x9A\x51\xE0"},
		{"", string(bytes.Repeat([]byte{0x55}, 1000)), "\x03\xE8" + string(bytes.Repeat([]byte{0x55}, 1000)) + "\x42\x95\x29\xC9"},
	} {
		if b, e := Put([]byte(c.head), []byte(c.payload)); string(b) != c.want || e != api.OK {
			t.Errorf("Put(%q, %q) = %x, %d", c.head, c.payload, b, e)
		}
	}
	if b, e := Put(nil, []byte{7}); len(b) != 7 || b[0] != 0 || b[1] != 1 || b[2] != 7 || e != api.OK {
		t.Errorf("the frame of 7: %v, %d", b, e)
	}
}

// P4.1: Put is the bytes and the frame, of payloads and bytes of all kinds.
func TestPut(t *testing.T) {
	for _, head := range heads() {
		for _, p := range payloads() {
			want := slices.Concat(head, frameTold(p))
			if b, e := Put(head, p); !bytes.Equal(b, want) || e != api.OK {
				t.Errorf("Put behind %d of %d bytes: %d bytes, %d", len(head), len(p), len(b), e)
			}
		}
	}
}

// P4.1: every length that may be, and the first that may not.
func TestPutEachLength(t *testing.T) {
	for n := 1; n <= top+1; n++ {
		p := filled(n, uint32(n)+7)
		b, e := Put(nil, p)
		if n > top {
			if len(b) != 0 || e != api.ErrOver {
				t.Errorf("Put of %d bytes: %d bytes, %d", n, len(b), e)
			}
			continue
		}
		if !bytes.Equal(b, frameTold(p)) || e != api.OK || Size(n) != len(b) {
			t.Errorf("Put of %d bytes: %d bytes, %d, Size %d", n, len(b), e, Size(n))
		}
		checkAll(t, b)
	}
}

// P4.1: a payload that is empty, or too long, and the bytes as they were beside the error.
func TestPutRefused(t *testing.T) {
	for _, head := range heads() {
		for _, p := range [][]byte{nil, {}, make([]byte, 0, 7)} {
			if b, e := Put(head, p); !bytes.Equal(b, head) || e != api.ErrArg {
				t.Errorf("Put behind %d of none: %d bytes, %d", len(head), len(b), e)
			}
		}
		for _, p := range tooLong() {
			if b, e := Put(head, p); !bytes.Equal(b, head) || e != api.ErrOver {
				t.Errorf("Put behind %d of %d bytes: %d bytes, %d", len(head), len(p), len(b), e)
			}
		}
	}
}

// P4.1: Size at the ends, past them, and at the ends of int.
func TestSize(t *testing.T) {
	for _, c := range []struct{ n, want int }{
		{0, 0}, {1, 7}, {2, 8}, {255, 261}, {256, 262}, {999, 1005}, {1000, 1006}, {1001, 0}, {1002, 0}, {65536, 0}, {65537, 0},
		{-1, 0}, {-2, 0}, {-6, 0}, {-7, 0}, {-1000, 0}, {1 << 32, 0}, {1<<32 + 1, 0},
		{math.MinInt, 0}, {math.MinInt + 1, 0}, {math.MinInt + 1000, 0}, {math.MaxInt, 0}, {math.MaxInt - 1, 0}, {math.MaxInt - 5, 0},
	} {
		if n := Size(c.n); n != c.want {
			t.Errorf("Size(%d) = %d, want %d", c.n, n, c.want)
		}
	}
	for n := -3000; n <= 3000; n++ {
		want := 0
		if n >= 1 && n <= 1000 {
			want = 2 + n + 4
		}
		if Size(n) != want {
			t.Errorf("Size(%d) = %d, want %d", n, Size(n), want)
		}
	}
}

// P4.1: no bytes hold no frame: Get finds none, and to Scan they are all.
func TestNoBytes(t *testing.T) {
	for _, b := range [][]byte{nil, {}} {
		if p, n, e := Get(b); len(p) != 0 || n != 0 || e != api.ErrForm {
			t.Errorf("Get: %x, %d, %d", p, n, e)
		}
		if l, n, e := Scan(b); len(l) != 0 || n != 0 || e != api.OK {
			t.Errorf("Scan: %x, %d, %d", l, n, e)
		}
		if n := Count(b); n != 0 {
			t.Errorf("Count: %d", n)
		}
	}
}

// noFrames are bytes at whose beginning there is no frame, and why.
func noFrames() []struct {
	name string
	b    []byte
	want api.Errno
} {
	sealed := func(b []byte) []byte { return binary.BigEndian.AppendUint32(b, crc32.ChecksumIEEE(b)) }
	return []struct {
		name string
		b    []byte
		want api.Errno
	}{
		{"one byte", []byte{0}, api.ErrForm},
		{"a length alone", []byte{0, 1}, api.ErrForm},
		{"a check is missing", []byte{0, 1, 7}, api.ErrForm},
		{"half a check", []byte{0, 1, 7, 0x78, 0x3E}, api.ErrForm},
		{"a check without its last byte", []byte{0, 1, 7, 0x78, 0x3E, 0x7D}, api.ErrForm},
		{"the longest without its last byte", frameTold(filled(1000, 1))[:1005], api.ErrForm},
		{"length 0, its check good", sealed([]byte{0, 0}), api.ErrForm},
		{"length 0, its check not good", []byte{0, 0, 1, 2, 3, 4}, api.ErrForm},
		{"length 1001, its check good", sealed(append([]byte{3, 233}, make([]byte, 1001)...)), api.ErrForm},
		{"length 1001, its check not good", append([]byte{3, 233}, make([]byte, 2000)...), api.ErrForm},
		{"length 1001, cut", []byte{3, 233, 5}, api.ErrForm},
		{"length 65535, its check good", sealed(append([]byte{255, 255}, make([]byte, 65535)...)), api.ErrForm},
		{"the length's lower byte first", sealed([]byte{1, 0, 7}), api.ErrForm},
		{"cut, its check not good", []byte{0, 2, 7, 1, 2, 3, 4}, api.ErrForm},
		{"a check of 0", []byte{0, 1, 7, 0, 0, 0, 0}, api.ErrCrc},
		{"another check", []byte{0, 1, 8, 0x78, 0x3E, 0x7D, 0xF0}, api.ErrCrc},
		{"a check's lower byte first", []byte{0, 1, 7, 0xF0, 0x7D, 0x3E, 0x78}, api.ErrCrc},
		{"the payload's check alone", append([]byte{0, 1, 7}, binary.BigEndian.AppendUint32(nil, crc32.ChecksumIEEE([]byte{7}))...), api.ErrCrc},
		{"the length's check alone", append([]byte{0, 1, 7}, binary.BigEndian.AppendUint32(nil, crc32.ChecksumIEEE([]byte{0, 1}))...), api.ErrCrc},
		{"the longest, its check not good", append(frameTold(filled(1000, 1))[:1005], 0), api.ErrCrc},
	}
}

// P4.1: bytes that are no frame, at the beginning: nothing is got, and a good frame behind them isn't looked for.
func TestNoFrame(t *testing.T) {
	for _, c := range noFrames() {
		if p, n, e := Get(c.b); len(p) != 0 || n != 0 || e != c.want {
			t.Errorf("%s: Get %d bytes, %d, %d, want %d", c.name, len(p), n, e, c.want)
		}
		if l, n, e := Scan(c.b); len(l) != 0 || n != 0 || e != c.want {
			t.Errorf("%s: Scan %d frames, %d, %d, want %d", c.name, len(l), n, e, c.want)
		}
		if n := Count(c.b); n != 0 {
			t.Errorf("%s: Count %d", c.name, n)
		}
		checkAll(t, c.b)
		checkAll(t, slices.Concat(c.b, frameTold([]byte("ab")), frameTold(filled(1000, 2))))
	}
}

// P4.1: the same behind frames that are whole: these are told beside the error.
func TestNoFrameBehindFrames(t *testing.T) {
	for count := 1; count <= 4; count++ {
		l := [][]byte{{7}, []byte("ab"), filled(1000, 3), {0}}[:count]
		ahead := put(t, l)
		for _, c := range noFrames() {
			b := slices.Concat(ahead, c.b)
			got, n, e := Scan(b)
			if !slices.EqualFunc(got, l, bytes.Equal) || n != len(ahead) || e != c.want {
				t.Errorf("%s, behind %d: Scan %d frames, %d, %d", c.name, count, len(got), n, e)
			}
			if n := Count(b); n != count {
				t.Errorf("%s, behind %d: Count %d", c.name, count, n)
			}
			if p, n, e := Get(b); !bytes.Equal(p, l[0]) || n != 7 || e != api.OK {
				t.Errorf("%s, behind %d: Get %x, %d, %d", c.name, count, p, n, e)
			}
			checkAll(t, slices.Concat(b, frameTold([]byte{7})))
		}
	}
}

// P4.1: each length that two bytes can tell, with bytes enough behind, and with too few.
func TestEachLength(t *testing.T) {
	room := make([]byte, 2+65535+4)
	for n := range 65536 {
		binary.BigEndian.PutUint16(room, uint16(n))
		want := api.ErrForm
		if n >= 1 && n <= 1000 {
			want = api.ErrCrc
		}
		if p, size, e := Get(room); len(p) != 0 || size != 0 || e != want {
			t.Fatalf("length %d: %d bytes, %d, %d", n, len(p), size, e)
		}
		if p, size, e := Get(room[:n+5]); len(p) != 0 || size != 0 || e != api.ErrForm {
			t.Fatalf("length %d, one byte too few: %d bytes, %d, %d", n, len(p), size, e)
		}
	}
}

// P4.1: all rows of up to two bytes, and rows of edges that are longer.
func TestAnyBytes(t *testing.T) {
	for a := range 256 {
		checkAll(t, []byte{byte(a)})
		for b := range 256 {
			checkAll(t, []byte{byte(a), byte(b)})
		}
	}
	for seed := range 300 {
		b := filled(seed*13, uint32(seed))
		checkAll(t, b)
		if len(b) > 2 {
			b[0], b[1] = 0, byte(seed)
			checkAll(t, b)
		}
	}
}

// P4.2: what is put is got, alone and whatever stands behind, and the frames ahead of that are scanned.
func TestPutIsGot(t *testing.T) {
	for _, p := range payloads() {
		f := put(t, [][]byte{p})
		behind := append(tails(), nil, frameTold([]byte("ab")), f, filled(50, 4))
		for _, tail := range behind {
			b := slices.Concat(f, tail)
			if got, n, e := Get(b); !bytes.Equal(got, p) || n != len(f) || n != Size(len(p)) || e != api.OK {
				t.Errorf("of %d bytes, %d behind: %d bytes, %d, %d", len(p), len(tail), len(got), n, e)
			}
			checkAll(t, b)
		}
		for _, tail := range tails() {
			got, n, e := Scan(slices.Concat(f, tail))
			if len(got) != 1 || !bytes.Equal(got[0], p) || n != len(f) || e == api.OK {
				t.Errorf("of %d bytes, %d behind: %d frames, %d, %d", len(p), len(tail), len(got), n, e)
			}
		}
	}
}

// P4.2: payloads put one behind the other are scanned as they were.
func TestScan(t *testing.T) {
	l := payloads()
	for count := range len(l) + 1 {
		b := put(t, l[:count])
		got, n, e := Scan(b)
		if !slices.EqualFunc(got, l[:count], bytes.Equal) || n != len(b) || e != api.OK || Count(b) != count {
			t.Fatalf("%d frames: %d frames, %d of %d, %d, Count %d", count, len(got), n, len(b), e, Count(b))
		}
	}
}

// P4.2: very many frames are scanned, too.
func TestScanMany(t *testing.T) {
	const count = 200000
	b := bytes.Repeat(frameTold([]byte{7}), count)
	if l, n, e := Scan(b); len(l) != count || n != len(b) || e != api.OK {
		t.Errorf("%d frames, %d, %d", len(l), n, e)
	}
	if n := Count(b[:len(b)-1]); n != count-1 {
		t.Errorf("Count, one byte cut: %d", n)
	}
}

// P4.2: of frames cut anywhere just those that are whole are got; there is no error just where one of them ends.
func TestCutAnywhere(t *testing.T) {
	l := [][]byte{{7}, []byte("ab"), filled(300, 5), {0}, make([]byte, 1000), frameTold([]byte("ab")), filled(255, 6), {255}, filled(256, 7)}
	b := put(t, l)
	whole, end := 0, 0
	for cut := 0; cut <= len(b); cut++ {
		if whole < len(l) && cut == end+len(l[whole])+6 {
			whole, end = whole+1, cut
		}
		want := api.ErrForm
		if cut == end {
			want = api.OK
		}
		got, n, e := Scan(b[:cut])
		if !slices.EqualFunc(got, l[:whole], bytes.Equal) || n != end || e != want || Count(b[:cut]) != whole {
			t.Fatalf("cut at %d: %d frames, %d, %d, Count %d, want %d, %d, %d", cut, len(got), n, e, Count(b[:cut]), whole, end, want)
		}
		if p, n, e := Get(b[:cut]); cut < 7 && (len(p) != 0 || n != 0 || e != api.ErrForm) || cut >= 7 && (!bytes.Equal(p, l[0]) || n != 7 || e != api.OK) {
			t.Fatalf("cut at %d: Get %x, %d, %d", cut, p, n, e)
		}
	}
	if whole != len(l) {
		t.Errorf("%d are whole", whole)
	}
}

// P4.1: with one bit turned, anywhere, those ahead of it are got, and nothing from it on.
func TestOneBitTurned(t *testing.T) {
	l := [][]byte{[]byte("ab"), {7}, filled(40, 8), []byte("123456789")}
	b := put(t, l)
	at, end := 0, 0
	for i := range b {
		if i == end+len(l[at])+6 {
			at, end = at+1, i
		}
		for bit := range 8 {
			b[i] ^= 1 << bit
			if got, n, e := Scan(b); !slices.EqualFunc(got, l[:at], bytes.Equal) || n != end || e == api.OK || i >= end+2 && e != api.ErrCrc || Count(b) != at {
				t.Errorf("bit %d of byte %d turned: %d frames, %d, %d", bit, i, len(got), n, e)
			}
			checkAll(t, b)
			checkAll(t, b[end:])
			b[i] ^= 1 << bit
		}
	}
}

// R4: Put changes neither what is handed in nor the room behind it, and its answer hangs on neither, refused or not.
func TestPutMemory(t *testing.T) {
	for _, size := range []int{0, 1, 2, 1000, 1001} {
		room := bytes.Repeat([]byte{'r'}, 4096)
		b := room[:4:4096]
		copy(b, "head")
		p := make([]byte, size, 4096)
		copy(p, filled(size, 9))
		roomWas, payloadWas := bytes.Clone(room), bytes.Clone(p[:4096])
		out, _ := Put(b, p)
		if !bytes.Equal(room, roomWas) || !bytes.Equal(p[:4096], payloadWas) {
			t.Errorf("Put of %d bytes changed what was handed in", size)
		}
		was := bytes.Clone(out)
		again, _ := Put(b, p)
		for i := range room {
			room[i], p[:4096][i] = 'z', 'y'
		}
		if !bytes.Equal(out, was) || !bytes.HasPrefix(out, []byte("head")) {
			t.Errorf("Put of %d bytes: the answer hangs on what was handed in", size)
		}
		for i := range out[:cap(out)] {
			out[:cap(out)][i] = 'q'
		}
		if !bytes.Equal(room, bytes.Repeat([]byte{'z'}, 4096)) || !bytes.Equal(p[:4096], bytes.Repeat([]byte{'y'}, 4096)) || !bytes.Equal(again, was) {
			t.Errorf("Put of %d bytes: something hangs on the answer", size)
		}
	}
}

// R4: what Get and Scan answer hangs neither on the bytes, nor one payload on another, as far as their room goes.
func TestGetMemory(t *testing.T) {
	l := [][]byte{[]byte("ab"), {7}, filled(1000, 10)}
	b := put(t, l)
	was := bytes.Clone(b)
	got, _, _ := Get(b)
	scanned, _, _ := Scan(b)
	again, _, _ := Scan(b)
	all := append(append([][]byte{got}, scanned...), again...)
	wants := append(append([][]byte{l[0]}, l...), l...)
	for i := range all {
		if !bytes.Equal(all[i], wants[i]) {
			t.Fatalf("payload %d: %x", i, all[i])
		}
		whole := all[i][:cap(all[i])]
		for j := range whole {
			whole[j] = 'q'
		}
		if !bytes.Equal(b, was) {
			t.Fatalf("what was handed in hangs on payload %d", i)
		}
		for j := i + 1; j < len(all); j++ {
			if !bytes.Equal(all[j], wants[j]) {
				t.Fatalf("payload %d hangs on payload %d", j, i)
			}
		}
	}
	got, _, _ = Get(b)
	scanned, _, _ = Scan(b)
	for i := range b {
		b[i] = 'z'
	}
	if !bytes.Equal(got, l[0]) || !slices.EqualFunc(scanned, l, bytes.Equal) {
		t.Error("an answer hangs on what was handed in")
	}
}

// R6: the same is answered the same, whatever was asked between.
func TestOneAnswer(t *testing.T) {
	b := put(t, [][]byte{{7}, []byte("ab")})
	for range 3 {
		Put(b, nil)
		Put(filled(10, 1), filled(1001, 2))
		Get([]byte{0, 1, 7, 0, 0, 0, 0})
		Scan(filled(100, 3))
		if p, n, e := Get(b); !bytes.Equal(p, []byte{7}) || n != 7 || e != api.OK {
			t.Fatalf("Get: %x, %d, %d", p, n, e)
		}
		if l, n, e := Scan(b); len(l) != 2 || n != 15 || e != api.OK || Count(b) != 2 {
			t.Fatalf("Scan: %x, %d, %d", l, n, e)
		}
	}
}

func FuzzScan(f *testing.F) {
	f.Add([]byte(nil))
	f.Add(frameTold([]byte{7}))
	f.Add(slices.Concat(frameTold([]byte("ab")), frameTold([]byte{0})))
	f.Add([]byte{0, 1, 7, 0, 0, 0, 0})
	f.Add([]byte{3, 233, 0})
	f.Fuzz(func(t *testing.T, b []byte) { checkAll(t, b) })
}

func FuzzPut(f *testing.F) {
	f.Add([]byte("head"), []byte{7}, []byte("tail"), 3)
	f.Add([]byte(nil), []byte(nil), []byte{0}, 0)
	f.Add([]byte{0}, filled(1001, 1), []byte(nil), 500)
	f.Fuzz(func(t *testing.T, head, p, tail []byte, cut int) {
		b, e := Put(head, p)
		if !bytes.HasPrefix(b, head) || (e == api.OK) != (Size(len(p)) > 0) || len(b) != len(head)+Size(len(p)) {
			t.Fatalf("Put behind %d of %d bytes: %d bytes, %d", len(head), len(p), len(b), e)
		}
		if e != api.OK {
			return
		}
		made := b[len(head):]
		if got, n, e := Get(slices.Concat(made, tail)); !bytes.Equal(got, p) || n != len(made) || e != api.OK {
			t.Fatalf("%d bytes are got as %d, %d, %d", len(p), len(got), n, e)
		}
		two := slices.Concat(made, made)
		cut = int(uint(cut) % uint(len(two)+1))
		if n := Count(two[:cut]); n != cut/len(made) {
			t.Fatalf("cut at %d of %d: %d frames", cut, len(two), n)
		}
		checkAll(t, slices.Concat(two, tail))
	})
}
