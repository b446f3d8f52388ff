package head_test

import (
	"encoding/binary"
	"encoding/hex"
	"hash/crc32"
	"math"
	"math/rand"
	"reflect"
	"strings"
	"testing"
	"unsafe"

	"comptor/api"
	"comptor/head"
)

const (
	headBytes = 128
	longest   = 3968 // bytes of a body
	most      = 1<<56 - 1
)

// part: one of a header's numbers, where its bytes stand, and how great it may be.
type part struct {
	name     string
	of       func(*api.Head) *int
	at, size int
	most     int
}

// parts is the chapter's words, but for Parent, which may be any.
func parts() []part {
	return []part{
		{"Kind", func(h *api.Head) *int { return &h.Kind }, 8, 1, 255},
		{"From", func(h *api.Head) *int { return &h.From }, 9, 1, 255},
		{"Operation", func(h *api.Head) *int { return &h.Operation }, 10, 1, 255},
		{"View", func(h *api.Head) *int { return &h.View }, 24, 8, most},
		{"Op", func(h *api.Head) *int { return &h.Op }, 32, 8, most},
		{"Commit", func(h *api.Head) *int { return &h.Commit }, 40, 8, most},
		{"Client", func(h *api.Head) *int { return &h.Client }, 48, 8, most},
		{"Session", func(h *api.Head) *int { return &h.Session }, 56, 8, most},
		{"Request", func(h *api.Head) *int { return &h.Request }, 64, 8, most},
		{"A", func(h *api.Head) *int { return &h.A }, 72, 8, most},
		{"B", func(h *api.Head) *int { return &h.B }, 80, 8, most},
	}
}

// made: n bytes that look like any.
func made(n int, seed int64) string {
	b := make([]byte, n)
	rand.New(rand.NewSource(seed)).Read(b)
	return string(b)
}

// sumOf is the library's sum.
func sumOf(s string) uint32 {
	return crc32.Checksum([]byte(s), crc32.MakeTable(crc32.Castagnoli))
}

// reckoned: bytes with the sum of their header that they must have.
func reckoned(b []byte) string {
	binary.LittleEndian.PutUint32(b, sumOf(string(b[4:headBytes])))
	return string(b)
}

// spelt is a header's and a body's bytes, each at its place, though they may not be.
func spelt(h api.Head, body string) []byte {
	b := make([]byte, headBytes, headBytes+len(body))
	binary.LittleEndian.PutUint32(b[4:], sumOf(body))
	binary.LittleEndian.PutUint32(b[12:], uint32(len(body)))
	binary.LittleEndian.PutUint64(b[16:], h.Parent)
	for _, p := range parts() {
		if p.size == 1 {
			b[p.at] = byte(*p.of(&h))
		} else {
			binary.LittleEndian.PutUint64(b[p.at:], uint64(*p.of(&h)))
		}
	}
	return append(b, body...)
}

// built is the chapter's words on the bytes of a header and a body.
func built(h api.Head, body string) string {
	return reckoned(spelt(h, body))
}

// anyHead: a header that may be, whose numbers look like any.
func anyHead(seed int64) api.Head {
	some := rand.New(rand.NewSource(seed))
	h := api.Head{Parent: some.Uint64()}
	for _, p := range parts() {
		*p.of(&h) = int(some.Int63n(int64(p.most) + 1))
	}
	return h
}

// full: the header of the greatest numbers.
func full() api.Head {
	h := api.Head{Parent: math.MaxUint64}
	for _, p := range parts() {
		*p.of(&h) = p.most
	}
	return h
}

// heads: some that may be: the ends, each number alone, and any.
func heads() []api.Head {
	l := []api.Head{{}, full(), {Parent: 1}, {Parent: 1 << 56}, {Parent: 1 << 63}, {Parent: math.MaxUint64}}
	for _, p := range parts() {
		for _, n := range []int{1, 2, 127, 128, 254, 255, 256, 257, 1<<32 - 1, 1 << 32, 1<<55 + 3, 0x0102030405060708 % (most + 1), most - 1, most} {
			if n <= p.most {
				var h api.Head
				*p.of(&h) = n
				l = append(l, h)
			}
		}
	}
	for seed := range 50 {
		l = append(l, anyHead(int64(seed)))
	}
	return l
}

// wrongs: numbers that may be nowhere, or not in one byte; by some, a byte or two words go round to what may be.
func wrongs(p part) []int {
	l := []int{math.MinInt, math.MinInt + 1, -1 << 56, -1<<32 + 5, -257, -256, -2, -1, most + 1, most + 2, 1<<57 + 1, 1 << 62, math.MaxInt - 1, math.MaxInt}
	if p.size == 1 {
		l = append(l, 256, 257, 511, 512, 1<<16+1, 1<<32, 1<<32+255, most)
	}
	return l
}

// isPacked tells that the bytes of a header and a body are others.
func isPacked(t *testing.T, h api.Head, body string) {
	t.Helper()
	got, e := head.Pack(h, body)
	if want := built(h, body); got != want || e != api.OK {
		t.Errorf("Pack(%+v, %d bytes): %x %d, not %x", h, len(body), got, e, want)
	}
}

// isRefused tells that a header and a body have bytes that may have none.
func isRefused(t *testing.T, h api.Head, body string, want api.Errno) {
	t.Helper()
	if got, e := head.Pack(h, body); got != "" || e != want {
		t.Errorf("Pack(%+v, %d bytes): %d bytes %d, not %d", h, len(body), len(got), e, want)
	}
}

// isUnpacked tells that bytes have another header or body.
func isUnpacked(t *testing.T, s string, h api.Head, body string) {
	t.Helper()
	if g, b, e := head.Unpack(s); g != h || b != body || e != api.OK {
		t.Errorf("Unpack(%x): %+v %q %d, not %+v %q", s, g, b, e, h, body)
	}
}

// isNone tells that bytes have a header that should have none.
func isNone(t *testing.T, what, s string) {
	t.Helper()
	if h, body, e := head.Unpack(s); h != (api.Head{}) || body != "" || e != api.ErrForm {
		t.Errorf("%s: Unpack: %+v, %d bytes, %d", what, h, len(body), e)
	}
}

// TestParts is about these tests: all of a header's numbers are asked for, each by its name.
func TestParts(t *testing.T) {
	kind := reflect.TypeFor[api.Head]()
	if kind.NumField() != len(parts())+1 {
		t.Fatalf("%d numbers of %d", len(parts())+1, kind.NumField())
	}
	for _, p := range parts() {
		var h api.Head
		*p.of(&h) = 7
		if reflect.ValueOf(h).FieldByName(p.name).Int() != 7 {
			t.Errorf("%s is another", p.name)
		}
	}
}

// TestExamples is the chapter's.
func TestExamples(t *testing.T) {
	got, e := head.Pack(api.Head{}, "")
	if e != api.OK || len(got) != headBytes || got[4:8] != "\x00\x00\x00\x00" || got[12:16] != "\x00\x00\x00\x00" {
		t.Errorf("%x %d", got, e)
	}
	isUnpacked(t, got, api.Head{}, "")
	isRefused(t, api.Head{View: -1}, "", api.ErrForm)
}

// TestKnown is P5.1 and P5.2 by bytes that were reckoned apart from this program.
func TestKnown(t *testing.T) {
	ends := strings.Repeat("ffffffffffffff00", 8)
	for _, x := range []struct {
		h    api.Head
		body string
		want string // but for the noughts at its end
	}{
		{api.Head{}, "", "64d31bd7"},
		{
			api.Head{Kind: 1, From: 2, Operation: 3, View: 4, Op: 5, Commit: 6, Client: 7, Session: 8, Request: 9, A: 10, B: 11, Parent: 12}, "ab",
			"8db9fd76" + "3629a2e2" + "01020300" + "02000000" + "0c00000000000000" + "0400000000000000" + "0500000000000000" + "0600000000000000" +
				"0700000000000000" + "0800000000000000" + "0900000000000000" + "0a00000000000000" + "0b",
		},
		{full(), strings.Repeat("z", longest), "a16b18da" + "e5bc3d4a" + "ffffff00" + "800f0000" + "ffffffffffffffff" + ends},
		{api.Head{Kind: 11}, "\x00", "6f9bf49c" + "51537d52" + "0b000000" + "01"},
	} {
		ahead, _ := hex.DecodeString(x.want)
		want := string(append(ahead, make([]byte, headBytes-len(ahead))...)) + x.body
		if got, e := head.Pack(x.h, x.body); got != want || e != api.OK {
			t.Errorf("Pack(%+v, %d bytes): %x %d", x.h, len(x.body), got[:min(len(got), headBytes)], e)
		}
		isUnpacked(t, want, x.h, x.body)
	}
}

// TestRight is P5.1: which headers may be, by each number's ends.
func TestRight(t *testing.T) {
	for _, h := range heads() {
		if !head.Right(h) {
			t.Errorf("Right(%+v): no", h)
		}
	}
	for _, ahead := range []api.Head{{}, full(), anyHead(100)} {
		for _, p := range parts() {
			for _, n := range wrongs(p) {
				h := ahead
				*p.of(&h) = n
				if head.Right(h) {
					t.Errorf("Right with the %s %d: yes", p.name, n)
				}
			}
		}
	}
}

// TestPack is P5.1: each number at its place, ahead of bodies of all kinds.
func TestPack(t *testing.T) {
	for _, h := range heads() {
		for _, body := range []string{"", "\x00", "ab", made(200, 1)} {
			isPacked(t, h, body)
		}
	}
}

// TestPackBody is P5.1: bodies of all lengths, up to the longest.
func TestPackBody(t *testing.T) {
	h := anyHead(101)
	for n := 0; n <= 600; n++ {
		isPacked(t, h, made(n, int64(n)))
	}
	for _, n := range []int{1023, 1024, 3839, 3840, 3967, longest} {
		isPacked(t, h, made(n, int64(n)))
		isPacked(t, full(), strings.Repeat("\x00", n))
		isPacked(t, api.Head{}, strings.Repeat("\xff", n))
	}
}

// TestPackForm is P5.1: a header that may not be, whatever the body is: ErrForm is told ahead of ErrLong.
func TestPackForm(t *testing.T) {
	for _, p := range parts() {
		for _, n := range wrongs(p) {
			h := anyHead(102)
			*p.of(&h) = n
			for _, body := range []string{"", "ab", made(longest, 1), made(longest+1, 1), made(1<<16, 1)} {
				isRefused(t, h, body, api.ErrForm)
			}
		}
	}
}

// TestPackLong is P5.1: a body for which there is no room.
func TestPackLong(t *testing.T) {
	for _, h := range []api.Head{{}, full(), anyHead(103)} {
		for _, n := range []int{longest + 1, longest + 2, 4095, 4096, 4097, 1 << 16, 1<<16 + 7, 1 << 20} {
			isRefused(t, h, strings.Repeat("\x00", n), api.ErrLong)
		}
	}
}

// TestUnpack is P5.2: the header and the body whose bytes they are.
func TestUnpack(t *testing.T) {
	for _, h := range heads() {
		for _, body := range []string{"", "\x00", "ab", made(200, 1), made(longest, 2)} {
			isUnpacked(t, built(h, body), h, body)
		}
	}
	for n := 0; n <= 600; n++ {
		h, body := anyHead(int64(n)), made(n, int64(n))
		isUnpacked(t, built(h, body), h, body)
	}
}

// TestUnpackPacked is P5.1 and P5.2: what was packed is unpacked, a header and its body in another body too.
func TestUnpackPacked(t *testing.T) {
	body := ""
	for seed := range 30 {
		h := anyHead(int64(seed))
		s, e := head.Pack(h, body)
		if e != api.OK {
			t.Fatalf("Pack(%+v, %d bytes): %d", h, len(body), e)
		}
		isUnpacked(t, s, h, body)
		body = s
	}
}

// TestUnpackShort is P5.2: fewer bytes than a header has, whichever they are.
func TestUnpackShort(t *testing.T) {
	for n := range headBytes {
		isNone(t, "noughts", strings.Repeat("\x00", n))
		isNone(t, "any bytes", made(n, int64(n)))
		isNone(t, "the first bytes", built(anyHead(104), "")[:n])
		isNone(t, "the last bytes", built(anyHead(104), "")[headBytes-n:])
	}
}

// TestUnpackNumbers is P5.2: numbers that may not be, though all sums be right.
func TestUnpackNumbers(t *testing.T) {
	for _, p := range parts() {
		if p.size == 1 {
			continue
		}
		for _, n := range wrongs(p) {
			for _, h := range []api.Head{{}, full(), anyHead(105)} {
				*p.of(&h) = n
				isNone(t, p.name, built(h, ""))
				isNone(t, p.name, built(h, "ab"))
			}
		}
	}
}

// TestUnpackNoughts is P5.2: each byte that must be nought, though all sums be right.
func TestUnpackNoughts(t *testing.T) {
	for _, h := range []api.Head{{}, full(), anyHead(106)} {
		for _, body := range []string{"", "ab"} {
			for at := 11; at < headBytes; at++ {
				if at > 11 && at < 88 {
					continue
				}
				for _, c := range []byte{1, 0x80, 0xff} {
					b := []byte(built(h, body))
					b[at] = c
					isNone(t, "a byte that is not nought", reckoned(b))
				}
			}
		}
	}
}

// TestUnpackSize is P5.2: another length than the body has, though all sums be right.
func TestUnpackSize(t *testing.T) {
	for _, n := range []int{0, 1, 2, 255, 256, longest} {
		body := strings.Repeat("\x00", n)
		for _, size := range []int{-1, n - 2, n - 1, n + 1, n + 2, n + 256, n + 1<<16, n + 1<<24, n + 1<<31, n + headBytes, n ^ 0xff} {
			if size == n || size < -1 {
				continue
			}
			b := []byte(built(anyHead(107), body))
			binary.LittleEndian.PutUint32(b[12:], uint32(size))
			isNone(t, "another length", reckoned(b))
		}
	}
}

// TestUnpackLong is P5.2: more bytes than Pack answers ever, though their length and all sums be right.
func TestUnpackLong(t *testing.T) {
	for _, n := range []int{longest + 1, longest + 2, 4096, 1 << 16, 1<<16 + 3, 1 << 20} {
		isNone(t, "a long body", built(api.Head{}, strings.Repeat("\x00", n)))
		isNone(t, "a long body", built(anyHead(108), made(n, 1)))
	}
}

// TestUnpackSums is P5.2: sums of other bytes, or laid otherwise, are none.
func TestUnpackSums(t *testing.T) {
	for _, body := range []string{"", "ab", made(300, 1)} {
		good := built(anyHead(109), body)
		for what, sum := range map[string]uint32{
			"from the kind on":      sumOf(good[8:headBytes]),
			"with the body":         sumOf(good[4:] + "x"),
			"up to the last number": sumOf(good[4:88]),
			"without the last byte": sumOf(good[4 : headBytes-1]),
			"of nothing":            0,
			"of ones":               math.MaxUint32,
			"the body's":            sumOf(body + "x"),
		} {
			b := []byte(good)
			binary.LittleEndian.PutUint32(b, sum)
			isNone(t, "the header's sum "+what, string(b))
			b = []byte(good)
			binary.LittleEndian.PutUint32(b[4:], sum)
			if other := reckoned(b); other != good { // the sum of no body is of nothing
				isNone(t, "the body's sum "+what, other)
			}
		}
		b := []byte(good)
		b[0], b[1], b[2], b[3] = b[3], b[2], b[1], b[0]
		isNone(t, "the highest byte first", string(b))
	}
}

// TestUnpackOther is P5.2: another body of the same length, and bodies and headers that don't belong together.
func TestUnpackOther(t *testing.T) {
	one, other := built(anyHead(110), made(50, 1)), built(anyHead(111), made(50, 2))
	isNone(t, "another body", one[:headBytes]+other[headBytes:])
	isNone(t, "another header", other[:headBytes]+one[headBytes:])
	isNone(t, "no body", one[:headBytes])
	isNone(t, "the body alone", one[headBytes:])
	isNone(t, "both", one+other)
	isNone(t, "noughts", strings.Repeat("\x00", headBytes))
	isNone(t, "ones", strings.Repeat("\xff", headBytes))
	isNone(t, "very many", strings.Repeat(one, 10000))
}

// TestTurned is P5.3: each byte, turned by each mask.
func TestTurned(t *testing.T) {
	for _, good := range []string{built(api.Head{}, ""), built(full(), "a"), built(anyHead(112), made(90, 1))} {
		for at := range len(good) {
			for mask := 1; mask < 256; mask++ {
				b := []byte(good)
				b[at] ^= byte(mask)
				if h, body, e := head.Unpack(string(b)); h != (api.Head{}) || body != "" || e != api.ErrForm {
					t.Fatalf("%d bytes: the byte %d turned by %d: %+v %d", len(good), at, mask, h, e)
				}
			}
		}
	}
	good := built(anyHead(113), made(longest, 3))
	for at := range len(good) {
		b := []byte(good)
		b[at] ^= byte(1 + at%255)
		isNone(t, "a turned byte of very many", string(b))
	}
}

// TestCut is P5.3: bytes that lack the last one, or more of them, or that have more.
func TestCut(t *testing.T) {
	for _, body := range []string{"", "\x00", "\x00\x00", "ab", made(200, 1), strings.Repeat("\x00", longest), made(longest, 2)} {
		good := built(anyHead(114), body)
		for n := range min(len(good), 300) {
			isNone(t, "bytes lack at the end", good[:len(good)-1-n])
			isNone(t, "bytes lack at the beginning", good[1+n:])
		}
		for c := range 256 {
			isNone(t, "one byte more", good+string([]byte{byte(c)}))
			isNone(t, "one byte more ahead", string([]byte{byte(c)})+good)
		}
		isNone(t, "many more", good+good)
	}
}

// TestApart is the rules: nothing that is handed in is changed or kept, and no answer shares memory.
func TestApart(t *testing.T) {
	h := anyHead(115)
	body := []byte("body")
	text := unsafe.String(&body[0], len(body))
	one, _ := head.Pack(h, text)
	two, _ := head.Pack(h, text)
	if string(body) != "body" {
		t.Error("what was handed in was changed")
	}
	clear(body)
	if one != built(h, "body") || two != one || unsafe.StringData(one) == unsafe.StringData(two) {
		t.Error("an answer of Pack shares memory")
	}
	bytes := []byte(one)
	all := unsafe.String(&bytes[0], len(bytes))
	_, s, _ := head.Unpack(all)
	_, u, _ := head.Unpack(all)
	if string(bytes) != one {
		t.Error("what was handed in was changed")
	}
	clear(bytes)
	if s != "body" || u != s || unsafe.StringData(s) == unsafe.StringData(u) {
		t.Error("an answer of Unpack shares memory")
	}
}

// TestAgain is the rule that an answer hangs on what is handed in alone.
func TestAgain(t *testing.T) {
	h := anyHead(116)
	want := built(h, "ab")
	for _, other := range heads() {
		head.Pack(other, made(40, 1))
		head.Pack(other, made(longest+1, 1))
		head.Pack(api.Head{Kind: -1}, "")
		head.Unpack(built(other, "x"))
		head.Unpack("x")
		isPacked(t, h, "ab")
		isUnpacked(t, want, h, "ab")
	}
}
