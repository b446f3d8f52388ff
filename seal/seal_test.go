package seal_test

import (
	"encoding/binary"
	"hash/crc32"
	"math/rand"
	"slices"
	"strings"
	"testing"
	"unsafe"

	"comptor/api"
	"comptor/seal"
)

const (
	sectorBytes = 384
	longest     = 376
)

var noughts = strings.Repeat("\x00", sectorBytes)

// made: n bytes that look like any.
func made(n int, seed int64) string {
	b := make([]byte, n)
	rand.New(rand.NewSource(seed)).Read(b)
	return string(b)
}

// sumOf is the library's sum, the lowest byte first.
func sumOf(b []byte) []byte {
	return binary.LittleEndian.AppendUint32(nil, crc32.Checksum(b, crc32.MakeTable(crc32.Castagnoli)))
}

// built is the chapter's words on a sealed sector, each byte at its place.
func built(g byte, s string) string {
	b := make([]byte, sectorBytes)
	b[0] = g
	b[1] = byte(len(s) % 256)
	b[2] = byte(len(s) / 256)
	for i := range len(s) {
		b[3+i] = s[i]
	}
	copy(b[379:383], sumOf(b[:379]))
	b[383] = g
	return string(b)
}

// texts: of all lengths that have room, and some whose bytes could mislead.
func texts() []string {
	l := []string{"\x00", "\x00\x00\x00", "\xff", "ab", "ab\x00\x00", "säule", "\xff\xfe\xc3", "\x02\x00ab"}
	for n := 0; n <= longest; n++ {
		l = append(l, made(n, int64(n)))
	}
	for _, n := range []int{1, 255, 256, 257, 375, 376} {
		l = append(l, strings.Repeat("\x00", n), strings.Repeat("\xff", n), strings.Repeat("\xc3x", n)[:n])
	}
	return l
}

// some: a few texts, the ends among them.
func some() []string {
	return []string{"", "\x00", "ab", made(17, 1), made(200, 2), made(255, 3), made(256, 4), made(375, 5), made(376, 6), strings.Repeat("\x00", 376), strings.Repeat("\xff", 376)}
}

// sealed is Seal of what has room.
func sealed(t *testing.T, old, s string) string {
	t.Helper()
	got, e := seal.Seal(old, s)
	if e != api.OK {
		t.Fatalf("Seal(%d bytes, %d bytes): %d", len(old), len(s), e)
	}
	return got
}

// opens tells that a sector's text is another, or that it has none.
func opens(t *testing.T, sector, want string) {
	t.Helper()
	if s, ok := seal.Open(sector); s != want || !ok {
		t.Errorf("Open: %q %v, not %q", s, ok, want)
	}
}

// isNone tells that a sector has a text that should have none.
func isNone(t *testing.T, what, sector string) {
	t.Helper()
	if s, ok := seal.Open(sector); s != "" || ok {
		t.Errorf("%s: Open: %q %v", what, s, ok)
	}
}

// TestExample is the chapter's.
func TestExample(t *testing.T) {
	got, e := seal.Seal("", "ab")
	if e != api.OK || len(got) != sectorBytes || got[:5] != "\x01\x02\x00\x61\x62" || got[383] != 1 {
		t.Errorf("%q %d", got, e)
	}
	opens(t, got, "ab")
}

// TestSealKnown is P4.1 by sums that were reckoned apart from this program.
func TestSealKnown(t *testing.T) {
	for _, x := range []struct {
		old, s, sum string
	}{
		{"", "ab", "\x8d\x58\xba\xa6"},
		{"", "", "\xe8\xfd\x63\x9f"},
		{"\xff", "", "\x64\xc1\xcf\x9c"},
		{"\x06", strings.Repeat("z", 376), "\x51\x80\x29\xfb"},
	} {
		if got := sealed(t, x.old, x.s); got[379:383] != x.sum {
			t.Errorf("Seal(%q, %d bytes): the sum is %x, not %x", x.old, len(x.s), got[379:383], x.sum)
		}
	}
}

// TestSeal is P4.1: texts of all lengths that have room, each byte at its place.
func TestSeal(t *testing.T) {
	for _, old := range []string{"", noughts, made(sectorBytes, 9)} {
		g := byte(1)
		if old != "" {
			g = byte((int(old[len(old)-1]) + 1) % 256)
		}
		for _, s := range texts() {
			if got := sealed(t, old, s); got != built(g, s) {
				t.Errorf("Seal(%d bytes, %d bytes): %x, not %x", len(old), len(s), got, built(g, s))
			}
		}
	}
}

// TestSealGuard is P4.1: g is one more than the last byte of old, however many old has, and goes round.
func TestSealGuard(t *testing.T) {
	for last := range 256 {
		end := string([]byte{byte(last)})
		want := built(byte((last+1)%256), "ab")
		for _, ahead := range []string{"", "\x00", "\xff", made(382, 1), made(383, 2), made(384, 3), made(1000, 4)} {
			if got := sealed(t, ahead+end, "ab"); got != want {
				t.Errorf("behind %d bytes and %02x: %02x .. %02x", len(ahead), last, got[0], got[383])
			}
		}
	}
}

// TestSealLong is P4.1: a text for which there is no room, whatever old is.
func TestSealLong(t *testing.T) {
	for _, old := range []string{"", "\x07", noughts, built(5, "ab")} {
		for _, n := range []int{377, 378, 379, 380, 383, 384, 385, 512, 632, 65535, 65536, 65536 + 2, 65536 + 376, 1 << 20} {
			if got, e := seal.Seal(old, strings.Repeat("a", n)); got != "" || e != api.ErrLong {
				t.Errorf("Seal(%d bytes, %d bytes): %d bytes, %d", len(old), n, len(got), e)
			}
		}
	}
}

// TestOpen is P4.2: the text of each sealed sector, by any g.
func TestOpen(t *testing.T) {
	for _, s := range texts() {
		opens(t, built(1, s), s)
		opens(t, built(byte(len(s)*7), s), s)
	}
	for g := range 256 {
		for _, s := range some() {
			opens(t, built(byte(g), s), s)
		}
	}
}

// TestOpenSealed is P4.1 and P4.2: what was sealed is opened, over what was sealed ahead, round and round.
func TestOpenSealed(t *testing.T) {
	sector := ""
	for k := range 600 {
		s := made(k*5%(longest+1), int64(k))
		sector = sealed(t, sector, s)
		if sector[0] != byte(k+1) {
			t.Errorf("the sector %d has the guard %d", k, sector[0])
		}
		opens(t, sector, s)
	}
}

// TestOpenLength is P4.2: what hasn't just a sector's bytes is none.
func TestOpenLength(t *testing.T) {
	for _, s := range some() {
		b := built(3, s)
		for n := range sectorBytes {
			isNone(t, "the first bytes", b[:n])
			isNone(t, "the last bytes", b[sectorBytes-n:])
		}
		for _, more := range []string{"\x00", "\x03", "x", b[383:], noughts, b} {
			isNone(t, "more bytes behind", b+more)
			isNone(t, "more bytes ahead", more+b)
		}
	}
	isNone(t, "nothing", "")
	isNone(t, "very many", strings.Repeat(built(3, "ab"), 1000))
}

// reckoned: a sector's bytes with the sum that they must have.
func reckoned(b []byte) string {
	copy(b[379:383], sumOf(b[:379]))
	return string(b)
}

// TestOpenTextLength is P4.2: a text that would reach into the sum, or beyond the sector, is none, though the sum be right.
func TestOpenTextLength(t *testing.T) {
	for n := longest + 1; n < 1<<16; n++ {
		if n > 1200 && n%251 != 0 && n < 65500 {
			continue
		}
		for _, fill := range []string{noughts, made(sectorBytes, 8)} {
			b := []byte(fill)
			b[0], b[1], b[2], b[383] = 9, byte(n), byte(n>>8), 9
			isNone(t, "a text of too many bytes", reckoned(b))
		}
	}
}

// TestOpenNoughts is P4.2: each byte between the text and the sum is nought, though the sum be right.
func TestOpenNoughts(t *testing.T) {
	for _, s := range some() {
		for at := 3 + len(s); at < 379; at++ {
			for _, c := range []byte{1, 0x80, 0xff} {
				b := []byte(built(4, s))
				b[at] = c
				isNone(t, "a byte behind the text", reckoned(b))
			}
		}
	}
}

// TestOpenGuards is P4.2: the last byte is the first one again, though the sum be right.
func TestOpenGuards(t *testing.T) {
	for g := range 256 {
		for other := range 256 {
			if other == g {
				continue
			}
			b := []byte(built(byte(g), "ab"))
			b[383] = byte(other)
			isNone(t, "another last byte", string(b))
		}
	}
}

// TestOpenSum is P4.2: sums of other bytes, or laid otherwise, are none.
func TestOpenSum(t *testing.T) {
	for _, s := range some() {
		good := built(6, s)
		for what, sum := range map[string][]byte{
			"of the text":       sumOf([]byte(s)),
			"without the guard": sumOf([]byte(good[1:379])),
			"without an end":    sumOf([]byte(good[:378])),
			"without noughts":   sumOf([]byte(good[:3+len(s)-1])),
			"with the guard":    sumOf([]byte(good[:379] + good[383:])),
			"noughts":           {0, 0, 0, 0},
			"ones":              {255, 255, 255, 255},
			"highest first":     {good[382], good[381], good[380], good[379]},
			"turned":            {^good[379], ^good[380], ^good[381], ^good[382]},
		} {
			if b := good[:379] + string(sum) + good[383:]; b != good {
				isNone(t, "a sum "+what, b)
			}
		}
	}
}

// olds: what a sector may have been: noughts, sealed, torn, or any bytes.
func olds(t *testing.T) []string {
	t.Helper()
	l := []string{noughts, strings.Repeat("\xff", sectorBytes), made(sectorBytes, 11), made(sectorBytes, 12)}
	for _, g := range []byte{0, 1, 127, 254, 255} {
		for _, s := range some() {
			l = append(l, built(g, s))
		}
	}
	torn := sealed(t, l[5], "torn")[:200] + l[5][200:]
	return append(l, torn, torn[:383]+"\x00")
}

// TestSeam is P4.3: a sector that was torn is none, wherever the seam is, though both have one text.
func TestSeam(t *testing.T) {
	for _, old := range olds(t) {
		for _, s := range some() {
			b := sealed(t, old, s)
			for seam := 1; seam < sectorBytes; seam++ {
				if _, ok := seal.Open(b[:seam] + old[seam:]); ok {
					t.Fatalf("Seal(%x, %x), torn at %d, is one", old, s, seam)
				}
			}
			opens(t, b, s)
		}
	}
}

// TestTurned is P4.3: each byte of a sealed sector, turned by each mask.
func TestTurned(t *testing.T) {
	for i, s := range []string{"", "ab", made(376, 6)} {
		good := built(byte(i*100), s)
		for at := range sectorBytes {
			for mask := 1; mask < 256; mask++ {
				b := []byte(good)
				b[at] ^= byte(mask)
				if _, ok := seal.Open(string(b)); ok {
					t.Fatalf("a text of %d bytes: the byte %d turned by %d: it is one", len(s), at, mask)
				}
			}
		}
	}
}

// TestNoughtsAreNone is P4.3, and likewise a sector all of whose bytes are any other.
func TestNoughtsAreNone(t *testing.T) {
	for c := range 256 {
		isNone(t, "all bytes alike", strings.Repeat(string([]byte{byte(c)}), sectorBytes))
	}
}

// TestApart is the rules: nothing that is handed in is changed or kept, and no answer shares memory.
func TestApart(t *testing.T) {
	old, text := []byte(noughts+"\x05"), []byte("text")
	oldText, textText := unsafe.String(&old[0], len(old)), unsafe.String(&text[0], len(text))
	one, two := sealed(t, oldText, textText), sealed(t, oldText, textText)
	if string(old) != noughts+"\x05" || string(text) != "text" {
		t.Error("what was handed in was changed")
	}
	clear(old)
	clear(text)
	if one != built(6, "text") || two != one || unsafe.StringData(one) == unsafe.StringData(two) {
		t.Error("an answer of Seal shares memory")
	}
	sector := []byte(one)
	sectorText := unsafe.String(&sector[0], len(sector))
	s, _ := seal.Open(sectorText)
	u, _ := seal.Open(sectorText)
	if !slices.Equal(sector, []byte(one)) {
		t.Error("what was handed in was changed")
	}
	clear(sector)
	if s != "text" || u != s || unsafe.StringData(s) == unsafe.StringData(u) {
		t.Error("an answer of Open shares memory")
	}
}

// TestAgain is the rule that an answer hangs on what is handed in alone.
func TestAgain(t *testing.T) {
	want := built(1, "ab")
	for _, s := range some() {
		seal.Seal(want, s)
		seal.Seal("", strings.Repeat("x", 400))
		seal.Open(built(200, s))
		seal.Open(s)
		if got := sealed(t, "", "ab"); got != want {
			t.Errorf("another answer behind %q", s)
		}
		opens(t, want, "ab")
	}
}
