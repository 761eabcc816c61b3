package crc

import (
	"bytes"
	"hash/crc32"
	"testing"

	"pacesetter/api"
)

// told is the check just as the chapter's words tell it, bit by bit, without any array.
func told(b []byte) uint32 {
	word := uint32(0xFFFFFFFF)
	for _, x := range b {
		word ^= uint32(x)
		for i := 0; i < 8; i++ {
			out := word & 1
			word >>= 1
			if out == 1 {
				word ^= 0xEDB88320
			}
		}
	}
	return ^word
}

// row is n bytes that differ from row to row and hold all values.
func row(n int, seed uint32) []byte {
	b := make([]byte, n)
	word := seed*2654435761 + 1
	for i := range b {
		word = word*1664525 + 1013904223
		b[i] = byte(word >> 24)
	}
	return b
}

// samples are bytes of many kinds: none, each single byte, all alike, mixed, long.
func samples() [][]byte {
	l := [][]byte{nil, {}, []byte("123456789"), []byte("a"), []byte("The quick brown fox")}
	for i := 0; i < 256; i++ {
		l = append(l, []byte{byte(i)})
	}
	for _, n := range []int{2, 3, 4, 5, 7, 8, 9, 31, 64, 255, 256, 257, 1000, 1007} {
		l = append(l, make([]byte, n), bytes.Repeat([]byte{0xFF}, n), row(n, uint32(n)), row(n, uint32(n)+99))
	}
	return append(l, row(1<<16, 5))
}

// P1.1: the chapter's own examples, and others that are known.
func TestSumKnown(t *testing.T) {
	for _, c := range []struct {
		text string
		want uint32
	}{
		{"", 0},
		{"123456789", 0xCBF43926},
		{"a", 0xE8B7BE43},
		{"\x00", 0xD202EF8D},
		{"\xff", 0xFF000000},
		{"\x00\x00\x00\x00", 0x2144DF1C},
		{"\xff\xff\xff\xff", 0xFFFFFFFF},
		{"The quick brown fox jumps over the lazy dog", 0x414FA339},
	} {
		if n := Sum([]byte(c.text)); n != c.want {
			t.Errorf("Sum(%q) = %08x, want %08x", c.text, n, c.want)
		}
	}
	if n := Sum(nil); n != 0 {
		t.Errorf("Sum(nil) = %08x", n)
	}
}

// P1.1: Sum is the check as it is told, of any bytes.
func TestSumAsTold(t *testing.T) {
	for _, b := range samples() {
		n := Sum(b)
		if n != told(b) || n != crc32.ChecksumIEEE(b) {
			t.Errorf("Sum of %d bytes: %08x, want %08x", len(b), n, told(b))
		}
	}
	for a := 0; a < 256; a++ {
		for b := 0; b < 256; b++ {
			l := []byte{byte(a), byte(b)}
			if n := Sum(l); n != crc32.ChecksumIEEE(l) {
				t.Fatalf("Sum(%v) = %08x", l, n)
			}
		}
	}
}

// P1.1: More goes on from a check, wherever bytes are split.
func TestMoreSplit(t *testing.T) {
	for _, b := range [][]byte{nil, []byte("123456789"), row(40, 1), row(300, 2)} {
		for i := 0; i <= len(b); i++ {
			if n := More(Sum(b[:i]), b[i:]); n != Sum(b) {
				t.Errorf("%d bytes split at %d: %08x, want %08x", len(b), i, n, Sum(b))
			}
		}
	}
}

// P1.1: More takes any word as a check (each one is some bytes' check), and none more is the same.
func TestMoreAnySum(t *testing.T) {
	for _, sum := range []uint32{0, 1, 0x7FFFFFFF, 0x80000000, 0xCBF43926, 0xDEADBEEF, 0xFFFFFFFE, 0xFFFFFFFF} {
		if More(sum, nil) != sum || More(sum, []byte{}) != sum {
			t.Errorf("More(%08x) of none: %08x", sum, More(sum, nil))
		}
		for _, b := range samples() {
			if n, want := More(sum, b), crc32.Update(sum, crc32.IEEETable, b); n != want {
				t.Errorf("More(%08x) of %d bytes: %08x, want %08x", sum, len(b), n, want)
			}
		}
	}
}

// P1.1: Bytes tells the highest first, and Read is its way back.
func TestBytesAndRead(t *testing.T) {
	if b := Bytes(0x01020304); !bytes.Equal(b, []byte{1, 2, 3, 4}) {
		t.Errorf("Bytes: %v", b)
	}
	if b := Bytes(0xCBF43926); !bytes.Equal(b, []byte{0xCB, 0xF4, 0x39, 0x26}) {
		t.Errorf("Bytes: %v", b)
	}
	for _, sum := range []uint32{0, 1, 0xFF, 0x100, 0xFF00, 0xFF0000, 0xFF000000, 0x80000000, 0x7FFFFFFF, 0xFFFFFFFF, 0x12345678} {
		if n, e := Read(Bytes(sum)); n != sum || e != api.OK {
			t.Errorf("Read(Bytes(%08x)) = %08x, %d", sum, n, e)
		}
	}
	for i := 0; i < 32; i++ {
		if n, e := Read(Bytes(1 << i)); n != 1<<i || e != api.OK {
			t.Errorf("bit %d: %08x, %d", i, n, e)
		}
	}
}

// P1.1: Read of other than four bytes is ErrForm, with 0 beside it (R2).
func TestReadNotFour(t *testing.T) {
	for n := 0; n <= 300; n++ {
		sum, e := Read(bytes.Repeat([]byte{0xA5}, n))
		if n == 4 {
			if sum != 0xA5A5A5A5 || e != api.OK {
				t.Errorf("four: %08x, %d", sum, e)
			}
		} else if sum != 0 || e != api.ErrForm {
			t.Errorf("%d bytes: %08x, %d", n, sum, e)
		}
	}
	if sum, e := Read(nil); sum != 0 || e != api.ErrForm {
		t.Errorf("nil: %08x, %d", sum, e)
	}
}

// P1.1: fewer than four bytes are never good; four are good just if they are 0, the check of none.
func TestGoodShort(t *testing.T) {
	if Good(nil) {
		t.Error("nil is good")
	}
	for n := 0; n < 4; n++ {
		if Good(make([]byte, n)) || Good(bytes.Repeat([]byte{0xFF}, n)) {
			t.Errorf("%d bytes are good", n)
		}
	}
	if !Good([]byte{0, 0, 0, 0}) {
		t.Error("the check of none isn't good")
	}
	for _, b := range [][]byte{{0, 0, 0, 1}, {1, 0, 0, 0}, {0xFF, 0xFF, 0xFF, 0xFF}} {
		if Good(b) {
			t.Errorf("%v is good", b)
		}
	}
}

// P1.1: Good wants the check at the end, the highest byte first, of just the bytes ahead of it.
func TestGoodWrong(t *testing.T) {
	good := []byte("123456789\xCB\xF4\x39\x26")
	if !Good(good) {
		t.Error("a good one isn't")
	}
	for _, b := range []string{"123456789", "123456789\x26\x39\xF4\xCB", "\xCB\xF4\x39\x26123456789", "123456789\xCB\xF4\x39", "23456789\xCB\xF4\x39\x26", "123456789\xCB\xF4\x39\x26\x00", "123456789\x00\x00\x00\x00"} {
		if Good([]byte(b)) {
			t.Errorf("%q is good", b)
		}
	}
}

// P1.1: Good answers as the check tells, of any bytes.
func TestGoodAsTold(t *testing.T) {
	for _, b := range samples() {
		want := false
		if n := len(b); n >= 4 {
			sum := told(b[:n-4])
			want = bytes.Equal(b[n-4:], []byte{byte(sum >> 24), byte(sum >> 16), byte(sum >> 8), byte(sum)})
		}
		if Good(b) != want {
			t.Errorf("Good of %d bytes: %v", len(b), Good(b))
		}
	}
}

// P1.1: Seal is the bytes and their check; P1.2: that is good.
func TestSeal(t *testing.T) {
	if s := Seal([]byte("123456789")); string(s) != "123456789\xCB\xF4\x39\x26" {
		t.Errorf("%x", s)
	}
	if s := Seal(nil); !bytes.Equal(s, []byte{0, 0, 0, 0}) {
		t.Errorf("%x", s)
	}
	for _, b := range samples() {
		s := Seal(b)
		if len(s) != len(b)+4 || !bytes.Equal(s[:len(b)], b) || !bytes.Equal(s[len(b):], Bytes(told(b))) {
			t.Errorf("Seal of %d bytes: %x", len(b), s)
		}
		if !Good(s) || !Good(Seal(s)) {
			t.Errorf("sealed, %d bytes aren't good", len(b))
		}
	}
}

// sealedSamples are sealed bytes short enough to be hurt at all their places.
func sealedSamples() [][]byte {
	l := [][]byte{Seal(nil), Seal([]byte("123456789")), Seal([]byte("ab"))}
	for i := 0; i < 256; i++ {
		l = append(l, Seal([]byte{byte(i)}))
	}
	for n := 2; n <= 40; n++ {
		l = append(l, Seal(row(n, uint32(n))), Seal(make([]byte, n)), Seal(bytes.Repeat([]byte{0xFF}, n)))
	}
	return append(l, Seal(row(1000, 3)))
}

// P1.2: with one bit turned, anywhere, it isn't good; turned back it is.
func TestOneBitTurned(t *testing.T) {
	for _, s := range sealedSamples() {
		for i := range s {
			for bit := 0; bit < 8; bit++ {
				s[i] ^= 1 << bit
				if Good(s) {
					t.Errorf("%d bytes, bit %d of byte %d turned: good", len(s), bit, i)
				}
				s[i] ^= 1 << bit
			}
		}
		if !Good(s) {
			t.Errorf("%d bytes, turned back: not good", len(s))
		}
	}
}

// P1.2: with two neighbouring bytes swapped it isn't good, unless they are alike.
func TestNeighboursSwapped(t *testing.T) {
	for _, s := range sealedSamples() {
		for i := 0; i+1 < len(s); i++ {
			s[i], s[i+1] = s[i+1], s[i]
			if Good(s) != (s[i] == s[i+1]) {
				t.Errorf("%d bytes, %d and %d swapped (%d, %d): %v", len(s), i, i+1, s[i], s[i+1], Good(s))
			}
			s[i], s[i+1] = s[i+1], s[i]
		}
	}
}

// P1.2: two neighbours that are unlike, of all pairs, on both sides of any place: the swap is seen among the bytes and where the check begins.
func TestAllPairsSwapped(t *testing.T) {
	for a := 0; a < 256; a++ {
		for b := 0; b < 256; b++ {
			for _, s := range [][]byte{Seal([]byte{byte(a), byte(b)}), Seal([]byte{'x', byte(a), byte(b), 'y'})} {
				for i := 0; i+1 < len(s); i++ {
					if s[i] == s[i+1] {
						continue
					}
					s[i], s[i+1] = s[i+1], s[i]
					if Good(s) {
						t.Fatalf("%x is good, swapped at %d", s, i)
					}
					s[i], s[i+1] = s[i+1], s[i]
				}
			}
		}
	}
}

// The way of the layer: the array has each byte's own 8 moves.
func TestEffects(t *testing.T) {
	table := makeEffects()
	for i, n := range table {
		if n != moveByte(uint32(i)) || n != crc32.IEEETable[i] {
			t.Errorf("byte %d: %08x, want %08x", i, n, crc32.IEEETable[i])
		}
	}
}

// The swap of the last byte and the check's first one would be unseen just if some byte's effect were that byte alone, moved up.
func TestEffectsAtTheCheck(t *testing.T) {
	table := makeEffects()
	for x := 1; x < 256; x++ {
		if table[x] == uint32(x)<<24 {
			t.Errorf("byte %d", x)
		}
	}
}

// R4: what is handed in is neither changed nor kept, and answers are new memory.
func TestMemory(t *testing.T) {
	room := make([]byte, 9, 64)
	copy(room, "123456789")
	s := Seal(room)
	if tail := room[:64]; !bytes.Equal(tail[9:], make([]byte, 55)) || string(room) != "123456789" {
		t.Errorf("Seal wrote into what was handed in: %x", tail)
	}
	s[0] = 'x'
	if string(room) != "123456789" {
		t.Error("Seal shares memory with what was handed in")
	}
	room[1] = 'y'
	if s[1] != '2' {
		t.Error("Seal kept what was handed in")
	}
	a, b := Bytes(7), Bytes(7)
	a[0] = 1
	if b[0] != 0 || Bytes(7)[0] != 0 {
		t.Error("Bytes shares memory")
	}
	whole := Seal(row(20, 9))
	was := append([]byte(nil), whole...)
	Sum(whole)
	More(5, whole)
	Good(whole)
	Read(whole[:4])
	if !bytes.Equal(whole, was) {
		t.Error("a call changed what it was handed")
	}
}

// R6: the same arguments are answered the same, whatever was asked between.
func TestOneAnswer(t *testing.T) {
	for range 3 {
		Sum(row(77, 7))
		More(0xFFFFFFFF, row(3, 3))
		if Sum([]byte("123456789")) != 0xCBF43926 {
			t.Fatal("another answer")
		}
	}
}

func FuzzSeal(f *testing.F) {
	f.Add([]byte("123456789"), uint32(0), 3)
	f.Add([]byte(nil), uint32(0xFFFFFFFF), 0)
	f.Fuzz(func(t *testing.T, b []byte, sum uint32, at int) {
		if Sum(b) != told(b) || More(sum, b) != crc32.Update(sum, crc32.IEEETable, b) {
			t.Errorf("%x", b)
		}
		s := Seal(b)
		if !Good(s) {
			t.Errorf("%x", s)
		}
		s[uint(at)/8%uint(len(s))] ^= 1 << (uint(at) % 8)
		if Good(s) {
			t.Errorf("%x", s)
		}
	})
}
