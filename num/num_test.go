package num_test

import (
	"bytes"
	"encoding/binary"
	"math"
	"strings"
	"testing"

	"comptor/api"
	"comptor/num"
)

// numbers: the ends of each width, and numbers whose bytes all differ.
func numbers() []uint64 {
	l := []uint64{0, 1, 0x0102030405060708, 0xf1e2d3c4b5a69788}
	for size := 1; size < 8; size++ {
		l = append(l, 1<<(8*size)-1, 1<<(8*size), 1<<(8*size)+1, 1<<(8*size-1))
	}
	return append(l, 1<<63-1, 1<<63, math.MaxUint64-1, math.MaxUint64)
}

// wrongSizes: none of them is 1 to 8; by some, 8 times the size goes round.
func wrongSizes() []int {
	return []int{math.MinInt, math.MinInt + 8, -1 << 61, -9, -8, -1, 0, 9, 10, 16, 64, 256, 257, 1 << 32, 1<<61 + 1, math.MaxInt - 1, math.MaxInt}
}

// fits says by the bounds alone whether n needs no more than size bytes.
func fits(n uint64, size int) bool {
	return size == 8 || n < uint64(1)<<(8*uint(size))
}

// little: the size lowest bytes of n, by the library.
func little(n uint64, size int) []byte {
	return binary.LittleEndian.AppendUint64(nil, n)[:size]
}

// TestPut is P1.1: b and behind it n in size bytes, the lowest first.
func TestPut(t *testing.T) {
	for _, b := range [][]byte{nil, {}, {7}, {0, 0}, {9, 8, 7, 6, 5, 4, 3, 2, 1, 0}} {
		for size := 1; size <= 8; size++ {
			for _, n := range numbers() {
				got, e := num.Put(b, n, size)
				if !fits(n, size) {
					if got != nil || e != api.ErrArg {
						t.Errorf("Put(%v, %#x, %d): %v, %d", b, n, size, got, e)
					}
					continue
				}
				want := append(append([]byte{}, b...), little(n, size)...)
				if !bytes.Equal(got, want) || e != api.OK {
					t.Errorf("Put(%v, %#x, %d): %v, %d, not %v", b, n, size, got, e, want)
				}
			}
		}
	}
}

// TestPutExamples is P1.1 by the chapter's examples.
func TestPutExamples(t *testing.T) {
	if b, e := num.Put([]byte{7}, 258, 2); !bytes.Equal(b, []byte{7, 2, 1}) || e != api.OK {
		t.Error(b, e)
	}
	if b, e := num.Put(nil, 256, 1); b != nil || e != api.ErrArg {
		t.Error(b, e)
	}
}

// TestPutWrongSize is P1.1: a size that is not 1 to 8 is none for any number.
func TestPutWrongSize(t *testing.T) {
	for _, size := range wrongSizes() {
		for _, n := range []uint64{0, 1, 255, math.MaxUint64} {
			if b, e := num.Put([]byte{1}, n, size); b != nil || e != api.ErrArg {
				t.Errorf("Put([1], %#x, %d): %v, %d", n, size, b, e)
			}
		}
	}
}

// TestTake is P1.1: the number of the bytes from the place at on, at all places of bytes of all lengths.
func TestTake(t *testing.T) {
	all := []byte{0x11, 0xf2, 0x33, 0xe4, 0x55, 0xd6, 0x77, 0xc8, 0x99, 0xba, 0xff, 0x00}
	for count := 0; count <= len(all); count++ {
		b := all[:count]
		for at := 0; at <= count+2; at++ {
			for size := 1; size <= 8; size++ {
				n, e := num.Take(b, at, size)
				if at+size > count {
					if n != 0 || e != api.ErrShort {
						t.Errorf("Take of %d bytes at %d, %d: %#x, %d", count, at, size, n, e)
					}
					continue
				}
				want := binary.LittleEndian.Uint64(append(append([]byte{}, b[at:at+size]...), make([]byte, 8)...))
				if n != want || e != api.OK {
					t.Errorf("Take of %d bytes at %d, %d: %#x, %d, not %#x", count, at, size, n, e, want)
				}
			}
		}
	}
}

// TestTakeBack is P1.1: what was laid is taken.
func TestTakeBack(t *testing.T) {
	for size := 1; size <= 8; size++ {
		for _, n := range numbers() {
			if !fits(n, size) {
				continue
			}
			b, _ := num.Put([]byte{1, 2, 3}, n, size)
			if got, e := num.Take(b, 3, size); got != n || e != api.OK {
				t.Errorf("%#x in %d bytes: %#x, %d", n, size, got, e)
			}
		}
	}
}

// TestTakeWrong is P1.1: wrong sizes and places, and that ErrArg is told ahead of ErrShort.
func TestTakeWrong(t *testing.T) {
	long := make([]byte, 300)
	for _, b := range [][]byte{nil, {1}, long} {
		for _, size := range wrongSizes() {
			for _, at := range []int{math.MinInt, -1, 0, 1, 500, math.MaxInt} {
				if n, e := num.Take(b, at, size); n != 0 || e != api.ErrArg {
					t.Errorf("Take of %d bytes at %d, %d: %d, %d", len(b), at, size, n, e)
				}
			}
		}
		for size := 1; size <= 8; size++ {
			for _, at := range []int{math.MinInt, math.MinInt + 1, -300, -8, -1} {
				if n, e := num.Take(b, at, size); n != 0 || e != api.ErrArg {
					t.Errorf("Take of %d bytes at %d, %d: %d, %d", len(b), at, size, n, e)
				}
			}
			for _, at := range []int{len(b), len(b) + 1, 1 << 31, math.MaxInt - 8, math.MaxInt - 1, math.MaxInt} {
				if n, e := num.Take(b, at, size); n != 0 || e != api.ErrShort {
					t.Errorf("Take of %d bytes at %d, %d: %d, %d", len(b), at, size, n, e)
				}
			}
		}
	}
}

// TestTakeSpareRoom is P1.1: bytes in the room behind b are none of b's.
func TestTakeSpareRoom(t *testing.T) {
	b := []byte{1, 2, 3, 4, 0, 0}
	if n, e := num.Take(b[:1], 0, 2); n != 0 || e != api.ErrShort {
		t.Error(n, e)
	}
	if s, to, e := num.TakeText([]byte{2, 0, 'a', 'b'}[:3], 0, 9); s != "" || to != 0 || e != api.ErrShort {
		t.Error(s, to, e)
	}
	if s, to, e := num.TakeText(b[4:5], 0, 9); s != "" || to != 0 || e != api.ErrShort {
		t.Error(s, to, e)
	}
}

// texts: of all lengths at which something changes, with bytes that are no UTF-8.
func texts() []string {
	l := []string{"", "a", "ab", "\x00", "\x00\x00\xff", "\xff\xfe", "säule"}
	for _, n := range []int{255, 256, 257, 511, 65534, 65535} {
		l = append(l, strings.Repeat("\xc3x", n)[:n])
	}
	return l
}

// TestPutText is P1.2: b and behind it the length in two bytes, the lowest first, and the text.
func TestPutText(t *testing.T) {
	for _, b := range [][]byte{nil, {}, {5}, {0, 0, 1}} {
		for _, s := range texts() {
			got, e := num.PutText(b, s)
			want := string(b) + string([]byte{byte(len(s) % 256), byte(len(s) / 256)}) + s
			if string(got) != want || e != api.OK {
				t.Errorf("PutText(%v, %d bytes): %d bytes, %d", b, len(s), len(got), e)
			}
		}
		for _, n := range []int{65536, 65537, 65536 + 256, 1 << 17, 1 << 20} {
			if got, e := num.PutText(b, strings.Repeat("a", n)); got != nil || e != api.ErrLong {
				t.Errorf("PutText(%v, %d bytes): %d bytes, %d", b, n, len(got), e)
			}
		}
	}
}

// TestTakeText is P1.2: what was laid is taken, at any place, with just so much room and with more.
func TestTakeText(t *testing.T) {
	for _, ahead := range []string{"", "x", "\x01\x00\x07"} {
		for _, behind := range []string{"", "y", "\x00\x00"} {
			for _, s := range texts() {
				b, _ := num.PutText([]byte(ahead), s)
				b = append(b, behind...)
				for _, most := range []int{len(s), len(s) + 1, 65535, math.MaxInt} {
					got, to, e := num.TakeText(b, len(ahead), most)
					if got != s || to != len(ahead)+2+len(s) || e != api.OK {
						t.Errorf("a text of %d bytes behind %d, at most %d: %d bytes, %d, %d", len(s), len(ahead), most, len(got), to, e)
					}
				}
				for _, most := range []int{len(s) - 1, -1, -65535, math.MinInt} {
					got, to, e := num.TakeText(b, len(ahead), most)
					if got != "" || to != 0 || e != api.ErrLong {
						t.Errorf("a text of %d bytes behind %d, at most %d: %d bytes, %d, %d", len(s), len(ahead), most, len(got), to, e)
					}
				}
			}
		}
	}
}

// TestTakeTexts is P1.2: the place behind a text is the place of the next one.
func TestTakeTexts(t *testing.T) {
	var b []byte
	for _, s := range texts() {
		b, _ = num.PutText(b, s)
	}
	at := 0
	for _, s := range texts() {
		got, to, e := num.TakeText(b, at, 65535)
		if got != s || e != api.OK {
			t.Fatalf("at %d: %d bytes, %d", at, len(got), e)
		}
		at = to
	}
	if at != len(b) {
		t.Errorf("%d, not %d", at, len(b))
	}
}

// TestTakeTextWrong is P1.2: each error, and which is told first where several apply.
func TestTakeTextWrong(t *testing.T) {
	for _, x := range []struct {
		b    string
		at   int
		most int
		e    api.Errno
	}{
		{"\x02\x00ab", -1, 9, api.ErrArg},
		{"\x02\x00ab", math.MinInt, -1, api.ErrArg},
		{"", -1, 9, api.ErrArg}, // there are fewer than two, too
		{"", 0, 9, api.ErrShort},
		{"\x00", 0, 9, api.ErrShort},
		{"\x02", 0, -1, api.ErrShort}, // ahead of ErrLong: the length isn't there
		{"\x02\x00ab", 3, 9, api.ErrShort},
		{"\x02\x00ab", 4, 9, api.ErrShort},
		{"\x02\x00ab", 5, 9, api.ErrShort},
		{"\x02\x00ab", math.MaxInt, 9, api.ErrShort},
		{"\x02\x00ab", math.MaxInt - 1, 9, api.ErrShort},
		{"\x02\x00ab", math.MaxInt - 2, 9, api.ErrShort},
		{"\x02\x00ab", 0, 1, api.ErrLong},
		{"\x02\x00a", 0, 1, api.ErrLong}, // ahead of ErrShort
		{"\x02\x00", 0, 0, api.ErrLong},
		{"\x00\x00", 0, -1, api.ErrLong},
		{"\xff\xff", 0, 65534, api.ErrLong},
		{"\x00\x01", 0, 255, api.ErrLong},
		{"\x02\x00a", 0, 9, api.ErrShort},
		{"\x02\x00", 0, 2, api.ErrShort},
		{"\xff\xff", 0, 65535, api.ErrShort},
		{"\x00\x01" + strings.Repeat("a", 255), 0, 256, api.ErrShort},
	} {
		s, to, e := num.TakeText([]byte(x.b), x.at, x.most)
		if s != "" || to != 0 || e != x.e {
			t.Errorf("TakeText(%q, %d, %d): %q, %d, %d", x.b, x.at, x.most, s, to, e)
		}
	}
}

// TestTextExamples is P1.2 by the chapter's examples.
func TestTextExamples(t *testing.T) {
	if b, e := num.PutText(nil, "ab"); string(b) != "\x02\x00ab" || e != api.OK {
		t.Error(b, e)
	}
	if s, to, e := num.TakeText([]byte("\x02\x00ab"), 0, 1); s != "" || to != 0 || e != api.ErrLong {
		t.Error(s, to, e)
	}
	if s, to, e := num.TakeText([]byte("\x02\x00a"), 0, 9); s != "" || to != 0 || e != api.ErrShort {
		t.Error(s, to, e)
	}
}

// puts: each call that answers bytes, laid behind b; some of them fail.
func puts() []func(b []byte) []byte {
	number := func(n uint64, size int) func(b []byte) []byte {
		return func(b []byte) []byte {
			got, _ := num.Put(b, n, size)
			return got
		}
	}
	text := func(s string) func(b []byte) []byte {
		return func(b []byte) []byte {
			got, _ := num.PutText(b, s)
			return got
		}
	}
	return []func(b []byte) []byte{
		number(258, 2), number(1<<64-1, 8), number(256, 1), number(1, 9),
		text(""), text("ab"), text(strings.Repeat("a", 65536)),
	}
}

// roomy: some bytes with spare room behind them, and all of that memory.
func roomy() ([]byte, []byte) {
	all := bytes.Repeat([]byte{0xee}, 64)
	copy(all, "abc")
	return all[:3], all
}

// TestPutLeavesAll is P1.3: what is handed in isn't changed, the room behind it neither.
func TestPutLeavesAll(t *testing.T) {
	for i, put := range puts() {
		b, all := roomy()
		before := bytes.Clone(all)
		put(b)
		if !bytes.Equal(all, before) {
			t.Errorf("call %d: %v", i, all)
		}
	}
}

// TestTakeLeavesAll is P1.3 for what is taken from.
func TestTakeLeavesAll(t *testing.T) {
	b, all := roomy()
	copy(all, "\x01\x00z")
	before := bytes.Clone(all)
	num.Take(b, 0, 3)
	num.Take(b, 0, 4)
	num.TakeText(b, 0, 9)
	num.TakeText(b, 1, 9)
	if !bytes.Equal(all, before) {
		t.Error(all)
	}
}

// TestAnswersAreNew is P1.3: no answer shares memory, or spare room, with what was handed in.
func TestAnswersAreNew(t *testing.T) {
	for i, put := range puts() {
		b, all := roomy()
		before := bytes.Clone(all)
		got := put(b)
		want := bytes.Clone(got)
		for k := range all {
			all[k] ^= 0x55
		}
		if !bytes.Equal(got, want) {
			t.Errorf("call %d: the answer changed with the argument", i)
		}
		copy(all, before)
		spoil(got)
		if !bytes.Equal(all, before) {
			t.Errorf("call %d: the argument changed with the answer", i)
		}
	}
}

// TestAnswersAreApart is P1.3: two answers, one laid behind the other or both behind one thing, share nothing.
func TestAnswersAreApart(t *testing.T) {
	for i, first := range puts() {
		for k, second := range puts() {
			a := first([]byte("abc"))
			next, other := second(a), second(a)
			wantNext, wantOther := bytes.Clone(next), bytes.Clone(other)
			spoil(a)
			if !bytes.Equal(next, wantNext) || !bytes.Equal(other, wantOther) {
				t.Errorf("calls %d, %d: an answer changed with the one ahead", i, k)
			}
			spoil(next)
			if !bytes.Equal(other, wantOther) {
				t.Errorf("calls %d, %d: an answer changed with the other", i, k)
			}
		}
	}
}

// TestTextIsApart is P1.3: a text that was taken stays, whatever becomes of the bytes.
func TestTextIsApart(t *testing.T) {
	b := []byte("\x02\x00ab")
	s, _, _ := num.TakeText(b, 0, 2)
	spoil(b)
	if s != "ab" {
		t.Errorf("%q", s)
	}
}

// spoil turns all bytes of b, and of the spare room behind it.
func spoil(b []byte) {
	b = b[:cap(b)]
	for i := range b {
		b[i] ^= 0x55
	}
}
