package crc_test

import (
	"encoding/binary"
	"hash/crc32"
	"math"
	"math/big"
	"math/rand"
	"strings"
	"testing"

	"comptor/crc"
)

// slow is P2.1 by its words: step by step, and by arithmetic where they say so.
func slow(sum uint32, s string) uint32 {
	r := math.MaxUint32 - sum
	for i := 0; i < len(s); i++ {
		r ^= uint32(s[i])
		for k := 0; k < 8; k++ {
			odd := r%2 == 1
			r /= 2
			if odd {
				r ^= 0x82F63B78
			}
		}
	}
	return math.MaxUint32 - r
}

// slowChain is P2.2 by its words: products are whole ones, of which the rest by 2^64 is taken.
func slowChain(h uint64, s string) uint64 {
	whole := new(big.Int).Lsh(big.NewInt(1), 64)
	step := func(h uint64, c byte) uint64 {
		n := new(big.Int).SetUint64(h ^ uint64(c))
		n.Mul(n, big.NewInt(1099511628211))
		h = n.Mod(n, whole).Uint64()
		return h ^ h/(1<<29)
	}
	h ^= 0xCBF29CE484222325
	for i := 0; i < len(s); i++ {
		h = step(h, s[i])
	}
	var long [8]byte
	binary.LittleEndian.PutUint64(long[:], uint64(len(s)))
	for _, c := range long {
		h = step(h, c)
	}
	return h
}

// made: n bytes that look like any.
func made(n int, seed int64) string {
	b := make([]byte, n)
	rand.New(rand.NewSource(seed)).Read(b)
	return string(b)
}

// texts: no byte, each byte alone, bytes that are no UTF-8, and lengths about which something could change.
func texts() []string {
	l := []string{"", "123456789", "ab", "ba", "säule", "\xff\xfe\xc3", "\x00\x00", "\x00\x00\x00", "\xff\xff\xff\xff"}
	for c := 0; c < 256; c++ {
		l = append(l, string([]byte{byte(c)}), string([]byte{byte(c), byte(255 - c)}))
	}
	for n := 3; n < 40; n++ {
		l = append(l, made(n, int64(n)))
	}
	for i, n := range []int{127, 128, 255, 256, 257, 376, 511, 4096, 65535, 65536, 65537} {
		l = append(l, made(n, int64(i)), strings.Repeat("\x00", n), strings.Repeat("\xff", n))
	}
	return l
}

// sums to go on from: the ends, each bit alone, and some that look like any.
func sums() []uint32 {
	l := []uint32{0, math.MaxUint32, math.MaxUint32 - 1, 0x82F63B78, 0x12345678, 0xE3069283}
	for i := 0; i < 32; i++ {
		l = append(l, 1<<i)
	}
	return l
}

// states of a chain to go on from.
func states() []uint64 {
	l := []uint64{0, math.MaxUint64, 0xCBF29CE484222325, math.MaxUint64 - 0xCBF29CE484222325, 1099511628211, 0x123456789ABCDEF0}
	for i := 0; i < 64; i++ {
		l = append(l, 1<<i)
	}
	return l
}

// TestSum is P2.1: Sum of all kinds of texts, by the words and by the library.
func TestSum(t *testing.T) {
	castagnoli := crc32.MakeTable(crc32.Castagnoli)
	for _, s := range texts() {
		got := crc.Sum(s)
		if want := slow(0, s); got != want {
			t.Errorf("Sum of %d bytes: %08X, not %08X", len(s), got, want)
		}
		if want := crc32.Checksum([]byte(s), castagnoli); got != want {
			t.Errorf("Sum of %d bytes: %08X, the library's is %08X", len(s), got, want)
		}
		if want := crc.Add(0, s); got != want {
			t.Errorf("Sum of %d bytes: %08X, Add's is %08X", len(s), got, want)
		}
	}
}

// TestSumExamples is P2.1 by the chapter's examples, and by sums that are known.
func TestSumExamples(t *testing.T) {
	for _, x := range []struct {
		s    string
		want uint32
	}{
		{"123456789", 0xE3069283},
		{"", 0},
		{"\x00", 0x527D5351},
		{"\xff", 0xFF000000},
		{"a", 0xC1D04330},
		{strings.Repeat("\x00", 32), 0x8A9136AA},
		{strings.Repeat("\xff", 32), 0x62A8AB43},
	} {
		if got := crc.Sum(x.s); got != x.want {
			t.Errorf("Sum(%q): %08X, not %08X", x.s, got, x.want)
		}
	}
}

// TestAdd is P2.1: from any sum on, by the words and by the library.
func TestAdd(t *testing.T) {
	castagnoli := crc32.MakeTable(crc32.Castagnoli)
	for _, sum := range sums() {
		for _, s := range []string{"", "\x00", "a", "ab", "\xff\xff\xff\xff", "123456789", made(31, 1), made(376, 2)} {
			got := crc.Add(sum, s)
			if want := slow(sum, s); got != want {
				t.Errorf("Add(%08X, %d bytes): %08X, not %08X", sum, len(s), got, want)
			}
			if want := crc32.Update(sum, castagnoli, []byte(s)); got != want {
				t.Errorf("Add(%08X, %d bytes): %08X, the library's is %08X", sum, len(s), got, want)
			}
		}
	}
}

// TestAddExamples is P2.1 by sums that were reckoned apart from this program.
func TestAddExamples(t *testing.T) {
	for _, x := range []struct {
		sum  uint32
		s    string
		want uint32
	}{
		{math.MaxUint32, "", math.MaxUint32},
		{math.MaxUint32, "\x00\x00\x00\x00", math.MaxUint32}, // a register of nothing stays nothing
		{1, "a", 0x33BBC033},
		{0x12345678, "ab", 0xB76B1106},
	} {
		if got := crc.Add(x.sum, x.s); got != x.want {
			t.Errorf("Add(%08X, %q): %08X, not %08X", x.sum, x.s, got, x.want)
		}
	}
}

// TestAddNothing is P2.1: a text of no bytes leaves each sum.
func TestAddNothing(t *testing.T) {
	for _, sum := range sums() {
		if got := crc.Add(sum, ""); got != sum {
			t.Errorf("%08X became %08X", sum, got)
		}
	}
}

// TestChain is P2.2: all kinds of texts, and all kinds of states to go on from.
func TestChain(t *testing.T) {
	for _, s := range texts() {
		for _, h := range []uint64{0, math.MaxUint64 - 5} {
			if got, want := crc.Chain(h, s), slowChain(h, s); got != want {
				t.Errorf("Chain(%016X, %d bytes): %016X, not %016X", h, len(s), got, want)
			}
		}
	}
	for _, h := range states() {
		for _, s := range []string{"", "\x00", "a", "123456789", made(200, 3)} {
			if got, want := crc.Chain(h, s), slowChain(h, s); got != want {
				t.Errorf("Chain(%016X, %d bytes): %016X, not %016X", h, len(s), got, want)
			}
		}
	}
}

// TestChainExamples is P2.2 by sums that were reckoned apart from this program.
func TestChainExamples(t *testing.T) {
	for _, x := range []struct {
		h    uint64
		s    string
		want uint64
	}{
		{0, "", 0x750A5CC6BC259D48},
		{0, "\x00", 0x046E59A139FD496E},
		{0, "a", 0xF078C54E795D03F8},
		{1, "a", 0x9E259D8E1985ED93},
		{0, "123456789", 0x1F0E383FD4ACE230},
		{math.MaxUint64, "", 0x9FBAD5B15307EEF9},
		{1 << 63, "\xff\xfe", 0xE9223E6F8FC7EB6F},
		{0xCBF29CE484222325, "ab", 0x881EAEFE13C46234},
		{0, strings.Repeat("\xc3", 255), 0x458DF4563A89F2C0},
		{0, strings.Repeat("\x00", 256), 0xDD17E03D339F7C4E},
		{7, strings.Repeat("x", 65537), 0x5658E88612DDA245},
	} {
		if got := crc.Chain(x.h, x.s); got != x.want {
			t.Errorf("Chain(%016X, %d bytes): %016X, not %016X", x.h, len(x.s), got, x.want)
		}
	}
}

// TestChainLength is P2.2: how many bytes there are counts, to the fourth byte of that number.
func TestChainLength(t *testing.T) {
	for _, n := range []int{1, 1 << 8, 1 << 16, 1<<24 + 1} {
		// The words once more, but over so many noughts without big numbers.
		h := uint64(5) ^ 0xCBF29CE484222325
		step := func(c byte) {
			h = (h ^ uint64(c)) * 1099511628211
			h ^= h >> 29
		}
		for i := 0; i < n; i++ {
			step(0)
		}
		for i := 0; i < 8; i++ {
			step(byte(uint64(n) >> (8 * i)))
		}
		if got := crc.Chain(5, strings.Repeat("\x00", n)); got != h {
			t.Errorf("%d bytes: %016X, not %016X", n, got, h)
		}
	}
}

// TestChainTellsApart is P2.2: where a text ends, and in which order texts come, is told.
func TestChainTellsApart(t *testing.T) {
	seen := map[uint64]string{}
	for _, l := range [][]string{
		{}, {""}, {"", ""}, {"ab"}, {"a", "b"}, {"b", "a"}, {"ba"}, {"", "ab"}, {"ab", ""}, {"\x00"}, {"\x00\x00"}, {"\x00", "\x00"},
		{"a\x01\x00\x00\x00\x00\x00\x00\x00b"}, {strings.Repeat("\x00", 8)},
	} {
		h := uint64(0)
		for _, s := range l {
			h = crc.Chain(h, s)
		}
		name := strings.Join(l, "|")
		if other, ok := seen[h]; ok {
			t.Errorf("%q and %q: %016X", other, name, h)
		}
		seen[h] = name
	}
}

// TestAddJoins is P2.3: the sum of both together, wherever a text is cut.
func TestAddJoins(t *testing.T) {
	for _, s := range append(texts()[:20], made(60, 4), made(257, 5)) {
		whole := crc.Sum(s)
		for cut := 0; cut <= len(s); cut++ {
			if got := crc.Add(crc.Sum(s[:cut]), s[cut:]); got != whole {
				t.Errorf("%d bytes, cut at %d: %08X, not %08X", len(s), cut, got, whole)
			}
		}
	}
	s := made(90, 6)
	if got := crc.Add(crc.Add(crc.Sum(s[:30]), s[30:31]), s[31:]); got != crc.Sum(s) {
		t.Errorf("in three: %08X, not %08X", got, crc.Sum(s))
	}
}

// turned: s with the bytes from at on turned where those of by have ones.
func turned(s string, at int, by string) string {
	b := []byte(s)
	for i := 0; i < len(by); i++ {
		b[at+i] ^= by[i]
	}
	return string(b)
}

// TestSumTellsBits is P2.3: each bit that is turned alone, and each two neighbouring ones.
func TestSumTellsBits(t *testing.T) {
	for _, s := range []string{made(128, 7), strings.Repeat("\x00", 128), strings.Repeat("\xff", 376)} {
		sum := crc.Sum(s)
		for at := range s {
			for i := 0; i < 8; i++ {
				for _, by := range []byte{1 << i, 3 << i} {
					if crc.Sum(turned(s, at, string([]byte{by}))) == sum {
						t.Fatalf("%d bytes: byte %d by %02X: %08X still", len(s), at, by, sum)
					}
				}
			}
		}
	}
}

// TestSumTellsBytes is P2.3: up to four neighbouring bytes, at all places of texts of all lengths.
func TestSumTellsBytes(t *testing.T) {
	some := rand.New(rand.NewSource(8))
	for n := 1; n <= 48; n++ {
		s := made(n, int64(n))
		sum := crc.Sum(s)
		for size := 1; size <= min(4, n); size++ {
			for at := 0; at+size <= n; at++ {
				for _, by := range []string{"\xff\xff\xff\xff"[:size], "\x80\x00\x00\x01"[:size], "\x78\x3b\xf6\x82"[:size], string(append(make([]byte, size-1), 1)), made(size, some.Int63())} {
					if other := turned(s, at, by); other != s && crc.Sum(other) == sum {
						t.Fatalf("%d bytes: at %d by %x: %08X still", n, at, by, sum)
					}
				}
			}
		}
	}
}

// TestSumTellsAllOfTwo is P2.3: no two texts of two bytes have one sum.
func TestSumTellsAllOfTwo(t *testing.T) {
	seen := map[uint32]bool{}
	for i := 0; i < 1<<16; i++ {
		seen[crc.Sum(string([]byte{byte(i), byte(i >> 8)}))] = true
	}
	if len(seen) != 1<<16 {
		t.Errorf("%d sums of %d texts", len(seen), 1<<16)
	}
}

// TestAgain is the rule that an answer hangs on what is handed in alone: nothing stays from call to call.
func TestAgain(t *testing.T) {
	s := made(200, 9)
	sum, h := crc.Add(3, s), crc.Chain(3, s)
	for _, other := range texts()[:300] {
		crc.Sum(other)
		crc.Add(9, other)
		crc.Chain(9, other)
		if crc.Add(3, s) != sum || crc.Chain(3, s) != h {
			t.Fatalf("another answer behind %q", other)
		}
	}
}
