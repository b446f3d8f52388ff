package entry_test

import (
	"encoding/binary"
	"encoding/hex"
	"hash/crc32"
	"math"
	"math/rand"
	"reflect"
	"strings"
	"testing"
	"unsafe"

	"comptor/api"
	"comptor/crc"
	"comptor/entry"
	"comptor/head"
)

const (
	headBytes = 128
	top       = 1<<56 - 1 // the greatest number
	longest   = 200       // bytes of a body
)

// part: one of an entry's numbers, where its bytes stand, and what it may be.
type part struct {
	name        string
	of          func(*api.Entry) *int
	at, size    int
	least, most int
}

// parts is the chapter's words, but for Parent, which may be any, and for the Body.
func parts() []part {
	return []part{
		{"Operation", func(e *api.Entry) *int { return &e.Operation }, 10, 1, 1, 255},
		{"View", func(e *api.Entry) *int { return &e.View }, 24, 8, 0, top},
		{"Op", func(e *api.Entry) *int { return &e.Op }, 32, 8, 1, top},
		{"Client", func(e *api.Entry) *int { return &e.Client }, 48, 8, 1, top},
		{"Session", func(e *api.Entry) *int { return &e.Session }, 56, 8, 0, top},
		{"Request", func(e *api.Entry) *int { return &e.Request }, 64, 8, 0, top},
		{"Under", func(e *api.Entry) *int { return &e.Under }, 72, 8, 0, top},
	}
}

// made: n bytes that look like any.
func made(n int, seed int64) string {
	b := make([]byte, n)
	rand.New(rand.NewSource(seed)).Read(b)
	return string(b)
}

// sumOf is the library's sum.
func sumOf(b []byte) uint32 {
	return crc32.Checksum(b, crc32.MakeTable(crc32.Castagnoli))
}

// reckoned: bytes with the sums that they must have.
func reckoned(b []byte) string {
	binary.LittleEndian.PutUint32(b[4:], sumOf(b[headBytes:]))
	binary.LittleEndian.PutUint32(b, sumOf(b[4:headBytes]))
	return string(b)
}

// spelt is an entry's bytes, each at its place, though it may not be.
func spelt(e api.Entry) []byte {
	b := make([]byte, headBytes, headBytes+len(e.Body))
	b[8] = 255
	binary.LittleEndian.PutUint32(b[12:], uint32(len(e.Body)))
	binary.LittleEndian.PutUint64(b[16:], e.Parent)
	for _, p := range parts() {
		if p.size == 1 {
			b[p.at] = byte(*p.of(&e))
		} else {
			binary.LittleEndian.PutUint64(b[p.at:], uint64(*p.of(&e)))
		}
	}
	return append(b, e.Body...)
}

// built is the chapter's words on an entry's bytes.
func built(e api.Entry) string {
	return reckoned(spelt(e))
}

// markOf is the chapter's words on the mark of an entry that may be.
func markOf(e api.Entry) api.Mark {
	return api.Mark{Op: e.Op, View: e.View, Sum: crc.Chain(e.Parent, built(e))}
}

// least: the entry of the least numbers.
func least() api.Entry {
	return api.Entry{Op: 1, Client: 1, Operation: 1}
}

// full: the entry of the greatest numbers, and of the longest body.
func full() api.Entry {
	e := api.Entry{Parent: math.MaxUint64, Body: strings.Repeat("\xff", longest)}
	for _, p := range parts() {
		*p.of(&e) = p.most
	}
	return e
}

// anyEntry: one that may be, and looks like any.
func anyEntry(seed int64) api.Entry {
	some := rand.New(rand.NewSource(seed))
	e := api.Entry{Parent: some.Uint64(), Body: made(some.Intn(longest+1), seed)}
	for _, p := range parts() {
		*p.of(&e) = p.least + int(some.Int63n(int64(p.most-p.least)+1))
	}
	e.Under = int(some.Int63n(int64(e.View) + 1))
	return e
}

// entries: some that may be: the ends, each number alone, bodies, and any.
func entries() []api.Entry {
	l := []api.Entry{least(), full()}
	for _, p := range parts() {
		for _, n := range []int{0, 1, 2, 127, 128, 254, 255, 256, 1<<32 - 1, 1 << 32, 1<<55 + 3, 0x0102030405060708 % (top + 1), top - 1, top} {
			if n < p.least || n > p.most {
				continue
			}
			for _, e := range []api.Entry{least(), full()} {
				*p.of(&e) = n
				e.View = max(e.View, e.Under)
				if p.name == "View" {
					e.View, e.Under = n, min(n, e.Under)
				}
				l = append(l, e)
			}
		}
	}
	for _, n := range []uint64{1, 255, 256, 1 << 56, 1 << 63, math.MaxUint64 - 1} {
		l = append(l, api.Entry{Op: 1, Client: 1, Operation: 1, Parent: n})
	}
	for _, n := range []int{1, 2, 199, 200} {
		l = append(l, api.Entry{Op: 2, Client: 3, Operation: 4, Body: made(n, int64(n))})
	}
	for seed := range 60 {
		l = append(l, anyEntry(int64(seed)))
	}
	return l
}

// wrongs: numbers that a part may not be; by some, a byte or two words go round to what may be.
func wrongs(p part) []int {
	l := []int{math.MinInt, math.MinInt + 1, -1 << 56, -1<<32 + 5, -257, -256, -2, -1, top + 1, top + 2, 1<<57 + 1, 1 << 62, math.MaxInt - 1, math.MaxInt}
	if p.size == 1 {
		l = append(l, 256, 257, 511, 512, 1<<16+1, 1<<32, 1<<32+255, top)
	}
	if p.least == 1 {
		l = append(l, 0)
	}
	return l
}

// wrongEntries: some that may not be, for one reason each.
func wrongEntries() []api.Entry {
	l := []api.Entry{{}}
	for _, e := range []api.Entry{least(), full(), anyEntry(200)} {
		for _, p := range parts() {
			for _, n := range wrongs(p) {
				wrong := e
				*p.of(&wrong) = n
				if p.name == "View" && n > 0 {
					wrong.Under = 0
				}
				if p.name == "Under" && n < 0 {
					wrong.View = top
				}
				l = append(l, wrong)
			}
		}
		for _, n := range []int{1, 2, 255, 256, 1 << 32, top} {
			wrong := e
			wrong.View, wrong.Under = n-1, n
			l = append(l, wrong)
		}
		for _, n := range []int{201, 202, 255, 256, 257, 456, 3968, 3969, 65536, 65736} {
			wrong := e
			wrong.Body = strings.Repeat("\x00", n)
			l = append(l, wrong)
		}
	}
	return l
}

// isNone tells that bytes are an entry's that should be none's.
func isNone(t *testing.T, what, s string) {
	t.Helper()
	if e, failed := entry.Unpack(s); e != (api.Entry{}) || failed != api.ErrForm {
		t.Errorf("%s: Unpack: %+v %d", what, e, failed)
	}
}

// isUnpacked tells that bytes are another entry's.
func isUnpacked(t *testing.T, s string, want api.Entry) {
	t.Helper()
	if got, failed := entry.Unpack(s); got != want || failed != api.OK {
		t.Errorf("Unpack(%x): %+v %d, not %+v", s, got, failed, want)
	}
}

// follows tells that an entry follows a mark, or doesn't, against what is asked.
func follows(t *testing.T, m api.Mark, e api.Entry, want bool) {
	t.Helper()
	if got := entry.Follows(m, e); got != want {
		t.Errorf("Follows(%+v, %+v): %v", m, e, got)
	}
}

// TestParts is about these tests: all of an entry's numbers are asked for, each by its name.
func TestParts(t *testing.T) {
	kind := reflect.TypeFor[api.Entry]()
	if kind.NumField() != len(parts())+2 {
		t.Fatalf("%d numbers of %d", len(parts())+2, kind.NumField())
	}
	for _, p := range parts() {
		var e api.Entry
		*p.of(&e) = 7
		if reflect.ValueOf(e).FieldByName(p.name).Int() != 7 {
			t.Errorf("%s is another", p.name)
		}
	}
}

// TestExamples is the chapter's.
func TestExamples(t *testing.T) {
	next := entry.Next(api.Mark{}, api.Entry{Client: 7, Operation: 1})
	if next != (api.Entry{Op: 1, Client: 7, Operation: 1}) {
		t.Errorf("%+v", next)
	}
	follows(t, api.Mark{}, next, true)
	if entry.Right(api.Entry{Op: 1, Client: 0, Operation: 1}) {
		t.Error("it may be")
	}
}

// TestKnown is P9.1 and P9.2 by bytes and sums that were reckoned apart from this program.
func TestKnown(t *testing.T) {
	end := "ffffffffffffff00"
	for _, x := range []struct {
		e    api.Entry
		want string // but for the noughts at the header's end
		sum  uint64
	}{
		{
			api.Entry{Op: 1, Client: 7, Operation: 1},
			"eb95ba93" + "00000000" + "ff000100" + "00000000" + "0000000000000000" + "0000000000000000" + "0100000000000000" + "0000000000000000" + "07",
			0xC8896F53ECA4F2AD,
		},
		{
			api.Entry{View: 4, Op: 5, Under: 3, Parent: 6, Client: 7, Session: 8, Request: 9, Operation: 2, Body: "ab"},
			"22e59665" + "3629a2e2" + "ff000200" + "02000000" + "0600000000000000" + "0400000000000000" + "0500000000000000" + "0000000000000000" +
				"0700000000000000" + "0800000000000000" + "0900000000000000" + "0300000000000000",
			0xF603C3D8987CCC95,
		},
		{
			api.Entry{View: top, Op: top, Under: top, Parent: math.MaxUint64, Client: top, Session: top, Request: top, Operation: 255, Body: strings.Repeat("z", longest)},
			"5a90e8ae" + "4cce2d93" + "ff00ff00" + "c8000000" + "ffffffffffffffff" + end + end + "0000000000000000" + end + end + end + end,
			0x35A5720E00EA34B0,
		},
		{
			api.Entry{View: 258, Op: 772, Under: 1, Parent: 0x0102030405060708, Client: 11, Session: 5, Request: 1, Operation: 3, Body: "\x00"},
			"822bacd4" + "51537d52" + "ff000300" + "01000000" + "0807060504030201" + "0201000000000000" + "0403000000000000" + "0000000000000000" +
				"0b00000000000000" + "0500000000000000" + "0100000000000000" + "0100000000000000",
			0x7DDE0D696098CD2C,
		},
	} {
		ahead, _ := hex.DecodeString(x.want)
		want := string(append(ahead, make([]byte, headBytes-len(ahead))...)) + x.e.Body
		if got, failed := entry.Pack(x.e); got != want || failed != api.OK {
			t.Errorf("Pack(%+v): %x %d", x.e, got, failed)
		}
		isUnpacked(t, want, x.e)
		if got := entry.MarkOf(x.e); got != (api.Mark{Op: x.e.Op, View: x.e.View, Sum: x.sum}) {
			t.Errorf("MarkOf(%+v): %+v, not %016X", x.e, got, x.sum)
		}
	}
}

// TestRight is P9.1: entries that may be are, are packed, and told again.
func TestRight(t *testing.T) {
	for _, e := range entries() {
		if !entry.Right(e) {
			t.Errorf("Right(%+v): no", e)
		}
		if got, failed := entry.Pack(e); got != built(e) || failed != api.OK {
			t.Errorf("Pack(%+v): %x %d, not %x", e, got, failed, built(e))
		}
		isUnpacked(t, built(e), e)
	}
}

// TestWrong is P9.1 and P9.2: entries that may not be, for one reason each: none of their numbers may, whatever its bytes would be.
func TestWrong(t *testing.T) {
	for _, e := range wrongEntries() {
		if entry.Right(e) {
			t.Errorf("Right(%+v): yes", e)
		}
		if got, failed := entry.Pack(e); got != "" || failed != api.ErrForm {
			t.Errorf("Pack(%+v): %d bytes %d", e, len(got), failed)
		}
		if got := entry.MarkOf(e); got != (api.Mark{}) {
			t.Errorf("MarkOf(%+v): %+v", e, got)
		}
		follows(t, api.Mark{Op: e.Op - 1, View: e.Under, Sum: e.Parent}, e, false)
	}
}

// TestUnder is P9.1: the view of the entry ahead is not above its own.
func TestUnder(t *testing.T) {
	for _, n := range []int{0, 1, 2, 255, 256, 1 << 32, top - 1, top} {
		for _, d := range []int{-256, -2, -1, 0, 1, 2, 256} {
			e := least()
			e.View, e.Under = n, n+d
			if want := d <= 0 && n+d >= 0; entry.Right(e) != want {
				t.Errorf("View %d, Under %d: %v", n, n+d, !want)
			}
		}
	}
}

// TestBody is P9.1: bodies of all lengths, and of all bytes.
func TestBody(t *testing.T) {
	for n := range 3 * longest {
		e := anyEntry(300)
		e.Body = made(n, int64(n))
		if n > longest {
			isNone(t, "a long body", built(e))
		} else {
			isUnpacked(t, built(e), e)
		}
		if got := entry.Right(e); got != (n <= longest) {
			t.Errorf("%d bytes: %v", n, got)
		}
	}
	for c := range 256 {
		e := least()
		e.Body = string([]byte{byte(c)})
		isUnpacked(t, built(e), e)
	}
}

// TestUnpackWrong is P9.1: an entry that may not be has no bytes, though all sums be right.
func TestUnpackWrong(t *testing.T) {
	for _, e := range wrongEntries() {
		if e.Operation == e.Operation&255 { // others stand in no byte
			isNone(t, "an entry that may not be", built(e))
		}
	}
}

// TestUnpackOther is P9.1: a header that may be, and has what no entry's header has.
func TestUnpackOther(t *testing.T) {
	for _, e := range []api.Entry{least(), full(), anyEntry(301)} {
		good := api.Head{Kind: 255, Operation: e.Operation, View: e.View, Op: e.Op, Client: e.Client, Session: e.Session, Request: e.Request, A: e.Under, Parent: e.Parent}
		var others []api.Head
		for n := range 255 {
			kind, from := good, good
			kind.Kind, from.From = n, n+1
			others = append(others, kind, from)
		}
		for _, n := range []int{1, 255, 256, 1 << 32, top} {
			commit, b := good, good
			commit.Commit, b.B = n, n
			others = append(others, commit, b)
		}
		for _, h := range others {
			s, failed := head.Pack(h, e.Body)
			if failed != api.OK {
				t.Fatalf("Pack(%+v): %d", h, failed)
			}
			isNone(t, "another header", s)
		}
		s, _ := head.Pack(good, e.Body)
		isUnpacked(t, s, e)
	}
}

// TestUnpackBytes is P9.1: too few bytes, too many, others, and any.
func TestUnpackBytes(t *testing.T) {
	for _, e := range []api.Entry{least(), full(), anyEntry(302)} {
		s := built(e)
		for n := range s {
			isNone(t, "the first bytes", s[:n])
			isNone(t, "the last bytes", s[n+1:])
		}
		for _, more := range []string{"\x00", "\x01", "ab", s, strings.Repeat("\x00", 1<<16)} {
			isNone(t, "some more", s+more)
			isNone(t, "some ahead", more+s)
		}
	}
	for n := range 400 {
		isNone(t, "noughts", strings.Repeat("\x00", n))
		isNone(t, "ones", strings.Repeat("\xff", n))
		isNone(t, "any", made(n, int64(n)))
	}
	isNone(t, "very many", strings.Repeat(built(full()), 10000))
	one, other := built(full()), built(anyEntry(303))
	isNone(t, "another body", one[:headBytes]+other[headBytes:])
	isNone(t, "no body", one[:headBytes])
	isNone(t, "the body alone", one[headBytes:])
}

// TestUnpackNoughts is P9.1: each byte that must be nought, though all sums be right.
func TestUnpackNoughts(t *testing.T) {
	for _, e := range []api.Entry{least(), full(), anyEntry(304)} {
		for at := 9; at < headBytes; at++ {
			if nought := at == 9 || at == 11 || at >= 40 && at < 48 || at >= 80; !nought {
				continue
			}
			for _, c := range []byte{1, 0x80, 0xff} {
				b := spelt(e)
				b[at] = c
				isNone(t, "a byte that is not nought", reckoned(b))
			}
		}
	}
}

// TestTurned is P9.4: each byte, turned by each mask.
func TestTurned(t *testing.T) {
	for _, e := range []api.Entry{least(), full(), anyEntry(305)} {
		b := []byte(built(e))
		for at := range b {
			for mask := 1; mask < 256; mask++ {
				b[at] ^= byte(mask)
				isNone(t, "a byte that was turned", string(b))
				b[at] ^= byte(mask)
			}
		}
		isUnpacked(t, string(b), e)
	}
}

// TestMarkOf is P9.2: Op, View, and the chain's sum behind the Parent.
func TestMarkOf(t *testing.T) {
	for _, e := range entries() {
		if got := entry.MarkOf(e); got != markOf(e) {
			t.Errorf("MarkOf(%+v): %+v, not %+v", e, got, markOf(e))
		}
	}
}

// TestMarksTellApart is P9.2: entries that differ anywhere have sums that differ.
func TestMarksTellApart(t *testing.T) {
	e := anyEntry(306)
	e.View, e.Under, e.Body = 500, 400, "body"
	l := []api.Entry{e}
	for _, p := range parts() {
		other := e
		*p.of(&other) ^= 1
		l = append(l, other)
	}
	for _, body := range []string{"", "bodx", "bod", "body\x00"} {
		other := e
		other.Body = body
		l = append(l, other)
	}
	for _, turn := range []uint64{1, 1 << 8, 1 << 32, 1 << 63} {
		other := e
		other.Parent ^= turn
		l = append(l, other)
	}
	seen := map[uint64]api.Entry{}
	for _, x := range l {
		sum := entry.MarkOf(x).Sum
		if other, ok := seen[sum]; ok || sum == 0 {
			t.Errorf("%+v and %+v: %016X", other, x, sum)
		}
		seen[sum] = x
	}
}

// TestFollows is P9.2: which mark an entry follows, and that it follows no other one (P9.4).
func TestFollows(t *testing.T) {
	for _, e := range entries() {
		good := api.Mark{Op: e.Op - 1, View: e.Under, Sum: e.Parent}
		follows(t, good, e, true)
		for _, d := range []int{-1 << 56, -1 << 32, -256, -2, -1, 1, 2, 256, 1 << 32, 1 << 56, math.MaxInt, math.MinInt} {
			op, view := good, good
			op.Op += d
			view.View += d
			follows(t, op, e, false)
			follows(t, view, e, false)
		}
		for bit := range 64 {
			sum := good
			sum.Sum ^= 1 << bit
			follows(t, sum, e, false)
		}
		follows(t, entry.MarkOf(e), e, false)
	}
}

// TestFollowsNothing is P9.2: what follows a mark whose Op is none, or the last one.
func TestFollowsNothing(t *testing.T) {
	for _, op := range []int{math.MinInt, -2, -1, top, top + 1, math.MaxInt - 1, math.MaxInt} {
		for _, e := range []api.Entry{least(), full(), anyEntry(307)} {
			m := api.Mark{Op: op, View: e.Under, Sum: e.Parent}
			follows(t, m, e, false)
			e.Op = op + 1 // it goes round behind the greatest
			follows(t, m, e, false)
		}
	}
	last := full()
	follows(t, api.Mark{Op: top - 1, View: top, Sum: math.MaxUint64}, last, true)
	follows(t, api.Mark{Op: top, View: top, Sum: math.MaxUint64}, last, false)
}

// marks: some, the ends of each number among them, and such as no entry has.
func marks() []api.Mark {
	l := []api.Mark{{}, {Op: top - 1, View: top, Sum: math.MaxUint64}}
	for _, n := range []int{math.MinInt, math.MinInt + 1, -1 << 56, -2, -1, 0, 1, 2, 255, 256, 1 << 32, top - 2, top - 1, top, top + 1, 1 << 62, math.MaxInt - 1, math.MaxInt} {
		l = append(l, api.Mark{Op: n}, api.Mark{View: n}, api.Mark{Op: n, View: n, Sum: uint64(n)}, api.Mark{Op: 3, View: n, Sum: 9}, api.Mark{Op: n, View: 4, Sum: 1 << 63})
	}
	for seed := range 20 {
		l = append(l, entry.MarkOf(anyEntry(int64(seed))))
	}
	return l
}

// TestNext is P9.3: the Op, Under and Parent behind each mark; all else is as it was, though it may not be.
func TestNext(t *testing.T) {
	for _, m := range marks() {
		for _, e := range append(wrongEntries(), least(), full(), anyEntry(308)) {
			want := e
			want.Under, want.Parent = m.View, m.Sum
			if m.Op >= 0 && m.Op < top {
				want.Op = m.Op + 1
			}
			got := entry.Next(m, e)
			if got != want {
				t.Errorf("Next(%+v, %+v): %+v, not %+v", m, e, got, want)
			}
			follows(t, m, got, want.Op == m.Op+1 && entry.Right(want))
		}
	}
}

// TestNextEnds is P9.3: where the Op is one more than the mark's, and where it stays.
func TestNextEnds(t *testing.T) {
	for _, c := range [][3]int{
		{0, 9, 1}, {1, 9, 2}, {8, 9, 9}, {255, 0, 256}, {top - 2, 5, top - 1}, {top - 1, 5, top},
		{top, 5, 5}, {top, top, top}, {top + 1, 5, 5}, {math.MaxInt, 5, 5}, {math.MaxInt, math.MinInt, math.MinInt},
		{-1, 5, 5}, {-1, 0, 0}, {-1, -1, -1}, {-2, 5, 5}, {math.MinInt, 5, 5}, {math.MinInt, math.MaxInt, math.MaxInt},
	} {
		got := entry.Next(api.Mark{Op: c[0], View: 6, Sum: 7}, api.Entry{Op: c[1], View: 8, Client: 1, Operation: 2})
		if want := (api.Entry{Op: c[2], View: 8, Under: 6, Parent: 7, Client: 1, Operation: 2}); got != want {
			t.Errorf("behind %d: %+v, not %+v", c[0], got, want)
		}
	}
}

// TestLog is P9.2 to P9.4: entries one behind the other, each of which follows just the mark ahead, be they packed and told again.
func TestLog(t *testing.T) {
	marks := []api.Mark{{}}
	var log []api.Entry
	for n := range 30 {
		m := marks[n]
		e := anyEntry(int64(n))
		e.View = n / 4
		e = entry.Next(m, e)
		s, failed := entry.Pack(e)
		if failed != api.OK {
			t.Fatalf("Pack(%+v): %d", e, failed)
		}
		isUnpacked(t, s, e)
		log, marks = append(log, e), append(marks, entry.MarkOf(e))
	}
	for i, m := range marks {
		for k, e := range log {
			follows(t, m, e, i == k)
		}
	}
	// Another log that begins likewise, and goes on by another body, is followed by nothing of this one.
	other := log[10]
	other.Body += "\x00"
	other.Body = other.Body[max(0, len(other.Body)-longest):]
	for _, e := range log {
		follows(t, entry.MarkOf(other), e, false)
	}
}

// TestAgain is the rule that an answer hangs on what is handed in alone: nothing stays from call to call.
func TestAgain(t *testing.T) {
	e := anyEntry(309)
	s, mark := built(e), markOf(e)
	for _, other := range append(wrongEntries()[:40], entries()[:40]...) {
		entry.Pack(other)
		entry.Unpack(built(other))
		entry.Next(entry.MarkOf(other), other)
		if got, _ := entry.Pack(e); got != s || entry.MarkOf(e) != mark {
			t.Fatalf("another answer behind %+v", other)
		}
		isUnpacked(t, s, e)
	}
}

// TestApart is the rules: answers share no memory with what is handed in, which is neither changed nor kept.
func TestApart(t *testing.T) {
	want := full()
	bytes := []byte(built(want))
	before := string(bytes)
	e, failed := entry.Unpack(unsafe.String(&bytes[0], len(bytes)))
	if failed != api.OK || string(bytes) != before {
		t.Fatal("what was handed in was changed")
	}
	clear(bytes)
	if e != want {
		t.Errorf("an entry shares its bytes: %+v", e)
	}

	body := []byte("a body")
	e.Body = unsafe.String(&body[0], len(body))
	next := entry.Next(api.Mark{Op: 5}, e)
	s, _ := entry.Pack(e)
	if string(body) != "a body" {
		t.Fatal("a body was changed")
	}
	clear(body)
	if next.Body != "a body" || s[headBytes:] != "a body" {
		t.Errorf("an answer shares a body: %q %q", next.Body, s[headBytes:])
	}
}

// TestTextsApart is the rules: no two answers share a text's memory.
func TestTextsApart(t *testing.T) {
	e := full()
	places := map[*byte]bool{unsafe.StringData(e.Body): true}
	for range 2 {
		s, _ := entry.Pack(e)
		told, _ := entry.Unpack(s)
		next := entry.Next(api.Mark{Op: 5}, e)
		for _, text := range []string{s, s[headBytes:], told.Body, next.Body} {
			places[unsafe.StringData(text)] = true
		}
	}
	if len(places) != 9 {
		t.Errorf("%d texts, not 9", len(places))
	}
}
