package slot_test

import (
	"encoding/binary"
	"encoding/hex"
	"hash/crc32"
	"math"
	"math/rand"
	"reflect"
	"strings"
	"testing"
	"unsafe"

	"comptor/api"
	"comptor/crc"
	"comptor/disk"
	"comptor/slot"
)

const (
	sectorBytes = 384
	headBytes   = 128
	stubBytes   = 40
	top         = 1<<56 - 1 // the greatest number
	longest     = 200       // bytes of a body
)

var noughts = strings.Repeat("\x00", sectorBytes)

// sumOf is the library's sum.
func sumOf(b []byte) uint32 {
	return crc32.Checksum(b, crc32.MakeTable(crc32.Castagnoli))
}

// sealed is chapter 4's words on a sealed sector.
func sealed(g byte, text string) string {
	b := make([]byte, sectorBytes)
	b[0], b[383] = g, g
	binary.LittleEndian.PutUint16(b[1:], uint16(len(text)))
	copy(b[3:], text)
	binary.LittleEndian.PutUint32(b[379:], sumOf(b[:379]))
	return string(b)
}

// guard: what stands at both ends of a sector that is sealed over another one.
func guard(old string) byte {
	if old == "" {
		return 1
	}
	return old[len(old)-1] + 1
}

// turned: a text one byte of which is turned.
func turned(s string, at int, mask byte) string {
	b := []byte(s)
	b[at] ^= mask
	return string(b)
}

// entryBytes is the words of chapters 5 and 9 on an entry's bytes, though it may not be.
func entryBytes(e api.Entry) string {
	b := make([]byte, headBytes)
	b[8], b[10] = 255, byte(e.Operation)
	binary.LittleEndian.PutUint32(b[12:], uint32(len(e.Body)))
	binary.LittleEndian.PutUint64(b[16:], e.Parent)
	for at, n := range map[int]int{24: e.View, 32: e.Op, 48: e.Client, 56: e.Session, 64: e.Request, 72: e.Under} {
		binary.LittleEndian.PutUint64(b[at:], uint64(n))
	}
	binary.LittleEndian.PutUint32(b[4:], sumOf([]byte(e.Body)))
	binary.LittleEndian.PutUint32(b, sumOf(b[4:]))
	return string(b) + e.Body
}

// bytesOf is the chapter's words on a stub's bytes, though it may not be.
func bytesOf(s api.Stub) string {
	var b []byte
	for _, n := range []uint64{uint64(s.Op), uint64(s.View), uint64(s.Under), s.Parent, s.Sum} {
		b = binary.LittleEndian.AppendUint64(b, n)
	}
	return string(b)
}

// stubOf is the chapter's words on the stub of an entry that may be.
func stubOf(e api.Entry) api.Stub {
	return api.Stub{Op: e.Op, View: e.View, Under: e.Under, Parent: e.Parent, Sum: crc.Chain(e.Parent, entryBytes(e))}
}

// least: the entry of the least numbers.
func least() api.Entry {
	return api.Entry{Op: 1, Client: 1, Operation: 1}
}

// some: an entry whose numbers are unlike.
func some() api.Entry {
	return api.Entry{View: 9, Op: 3, Under: 8, Parent: 0xFEDCBA9876543210, Client: 7, Session: 2, Request: 5, Operation: 4, Body: "a body"}
}

// full: the entry of the greatest numbers, and of the longest body.
func full() api.Entry {
	return api.Entry{View: top, Op: top, Under: top, Parent: math.MaxUint64, Client: top, Session: top, Request: top, Operation: 255, Body: strings.Repeat("\xff", longest)}
}

// anyEntry: one that may be, and looks like any.
func anyEntry(seed int64) api.Entry {
	r := rand.New(rand.NewSource(seed))
	body := make([]byte, r.Intn(longest+1))
	r.Read(body)
	e := api.Entry{
		View: r.Intn(top + 1), Op: 1 + r.Intn(top), Parent: r.Uint64(), Client: 1 + r.Intn(top),
		Session: r.Intn(top + 1), Request: r.Intn(top + 1), Operation: 1 + r.Intn(255), Body: string(body),
	}
	e.Under = r.Intn(e.View + 1)
	return e
}

// entries: some that may be: the ends, all lengths of a body, and any.
func entries() []api.Entry {
	l := []api.Entry{least(), some(), full()}
	for n := range longest + 1 {
		e := some()
		e.Body = full().Body[:n]
		l = append(l, e)
	}
	for seed := range 60 {
		l = append(l, anyEntry(int64(seed)))
	}
	return l
}

// wrongEntries: some that may not be, for one reason each.
func wrongEntries() []api.Entry {
	l := []api.Entry{{}}
	for _, x := range []struct {
		of    func(*api.Entry) *int
		wrong []int
	}{
		{func(e *api.Entry) *int { return &e.Op }, bad(0)},
		{func(e *api.Entry) *int { return &e.Client }, bad(0)},
		{func(e *api.Entry) *int { return &e.View }, bad()},
		{func(e *api.Entry) *int { return &e.Under }, bad(10, 11, top)},
		{func(e *api.Entry) *int { return &e.Session }, bad()},
		{func(e *api.Entry) *int { return &e.Request }, bad()},
		{func(e *api.Entry) *int { return &e.Operation }, bad(0, 256, 257, top)},
	} {
		for _, n := range x.wrong {
			e := some()
			*x.of(&e) = n
			l = append(l, e)
		}
	}
	for _, n := range []int{longest + 1, longest + 2, 248, 249, 256, 376, 377, 3968, 3969, 65536, 65536 + longest} {
		e := some()
		e.Body = strings.Repeat("\x00", n)
		l = append(l, e)
	}
	return l
}

// bad: numbers that none may be.
func bad(more ...int) []int {
	return append(more, math.MinInt, math.MinInt+1, -1<<56, -1<<32+1, -256, -2, -1, top+1, top+2, 1<<57+1, 1<<62, math.MaxInt-1, math.MaxInt)
}

// part: one of a stub's numbers, its place, and what it may and may not be, if the others are those of someStub.
type part struct {
	name  string
	of    func(*api.Stub) *int
	place int
	right []int
	wrong []int
}

// parts is the chapter's words, but for what may be any number of 64 bits.
func parts() []part {
	return []part{
		{"Op", func(s *api.Stub) *int { return &s.Op }, 0, []int{1, 2, 255, 256, 1 << 32, top - 1, top}, bad(0)},
		{"View", func(s *api.Stub) *int { return &s.View }, 1, []int{8, 9, 10, 255, 256, 1 << 32, top - 1, top}, bad(0, 1, 7)},
		{"Under", func(s *api.Stub) *int { return &s.Under }, 2, []int{0, 1, 7, 8, 9}, bad(10, 11, 256, 1<<32, top)},
	}
}

// someStub: a stub whose numbers are unlike.
func someStub() api.Stub {
	return api.Stub{Op: 3, View: 9, Under: 8, Parent: 0xFEDCBA9876543210, Sum: 0x0123456789ABCDEF}
}

// stubs: some that may be: the ends, each number at its own, entries' and any.
func stubs() []api.Stub {
	l := []api.Stub{
		{Op: 1}, someStub(), {Op: top, View: top, Under: top, Parent: math.MaxUint64, Sum: math.MaxUint64},
		{Op: top}, {Op: 1, View: top}, {Op: 1, View: 1, Under: 1}, {Op: 1, View: top, Under: top - 1},
	}
	for _, p := range parts() {
		for _, n := range p.right {
			s := someStub()
			*p.of(&s) = n
			l = append(l, s)
		}
	}
	for _, n := range []uint64{0, 1, 255, 256, top, top + 1, 1 << 63, math.MaxUint64} {
		s, u := someStub(), someStub()
		s.Parent, u.Sum = n, n
		l = append(l, s, u)
	}
	for seed := range 50 {
		e := anyEntry(int64(seed))
		l = append(l, stubOf(e), api.Stub{Op: e.Op, View: e.View, Under: e.Under, Parent: e.Parent, Sum: uint64(seed)})
	}
	return l
}

// wrongStubs: some that may not be, most of them by one number.
func wrongStubs() []api.Stub {
	l := []api.Stub{
		{}, {View: 1}, {Op: 1, Under: 1}, {Op: 1, View: 1, Under: 2}, {Op: 1, View: top - 1, Under: top},
		{Op: 1, View: -1, Under: -1}, {Op: 1, View: -1, Under: -2}, {Op: 1, View: top + 1, Under: top + 1}, {Op: 1, View: top + 1, Under: top},
		{Op: -1}, {Op: top + 1}, {Op: 1, View: -1}, {Op: 1, Under: -1}, {Parent: 1, Sum: 1},
	}
	for _, op := range []int{-1, 0, top + 1} {
		l = append(l, api.Stub{Op: op, View: top + 1}, api.Stub{Op: op, View: -1}, api.Stub{Op: op, Under: 1}, api.Stub{Op: op, View: -1, Under: -1}, api.Stub{Op: op, View: top + 1, Under: top + 2})
	}
	for _, p := range parts() {
		for _, n := range p.wrong {
			s := someStub()
			*p.of(&s) = n
			l = append(l, s)
		}
	}
	return l
}

// olds: what a sector may be sealed over, whatever it has.
func olds() []string {
	l := []string{"", "\x00", "\x01", "\xff", "a", "ab\x07", noughts, strings.Repeat("\xff", sectorBytes), strings.Repeat("\xfe", 1000)}
	for _, text := range []string{"", "x", bytesOf(someStub()), entryBytes(some()), entryBytes(full())} {
		l = append(l, sealed(1, text), sealed(255, text), turned(sealed(8, text), 383, 16))
	}
	return l
}

// unreadable: sectors that are neither kind's.
func unreadable() []string {
	long := strings.Repeat("\x00", longest+1)
	l := []string{
		"", "\x00", noughts, noughts + noughts, strings.Repeat("\xff", sectorBytes), strings.Repeat("\x01", 376),
		sealed(1, "")[:383], sealed(1, "") + "\x00", sealed(1, "")[1:], "\x00" + sealed(1, ""), sealed(1, "") + sealed(1, ""),
		sealed(1, "\x00"), sealed(1, "x"), sealed(1, strings.Repeat("\x00", stubBytes)), sealed(1, strings.Repeat("\x00", headBytes)), sealed(1, strings.Repeat("\x00", 376)),
		sealed(2, entryBytes(some())+"x"), sealed(2, entryBytes(some())[1:]), sealed(2, "x"+entryBytes(some())),
		sealed(3, bytesOf(someStub())+"x"), sealed(3, bytesOf(someStub())[1:]), sealed(3, "x"+bytesOf(someStub())), sealed(3, bytesOf(someStub())[:stubBytes-1]),
		sealed(4, entryBytes(api.Entry{Op: 1, Client: 1, Operation: 1, Body: long})),
		sealed(5, bytesOf(someStub())+bytesOf(someStub())), sealed(5, bytesOf(someStub())+entryBytes(some())), sealed(5, entryBytes(some())+bytesOf(someStub())),
		bytesOf(someStub()), entryBytes(some()), entryBytes(full()),
	}
	for _, text := range []string{"", bytesOf(someStub()), entryBytes(some()), entryBytes(full())} {
		good := sealed(77, text)
		for at := range sectorBytes {
			l = append(l, turned(good, at, byte(1+at%255)), good[:at], good[at+1:], good[:at]+noughts[at:])
			if at > 0 {
				l = append(l, noughts[:at]+good[at:])
			}
		}
	}
	return l
}

// hasEntry tells that a prepare sector is something else.
func hasEntry(t *testing.T, p string, want api.Entry, is, can bool) {
	t.Helper()
	if e, ok, read := slot.Entry(p); e != want || ok != is || read != can {
		t.Errorf("Entry(%x): %+v %v %v, not %+v %v %v", p, e, ok, read, want, is, can)
	}
}

// hasStub tells that a header sector is something else.
func hasStub(t *testing.T, h string, want api.Stub, is, can bool) {
	t.Helper()
	if s, ok, read := slot.Stub(h); s != want || ok != is || read != can {
		t.Errorf("Stub(%x): %+v %v %v, not %+v %v %v", h, s, ok, read, want, is, can)
	}
}

// judged tells that a slot is something else for an operation.
func judged(t *testing.T, p, h string, n int, want api.Item) {
	t.Helper()
	if got := slot.Judge(p, h, n); got != want {
		t.Errorf("Judge for %d: %+v, not %+v, of %x and %x", n, got, want, p, h)
	}
}

// sectorIs tells that a call answered another sector.
func sectorIs(t *testing.T, what string, got string, failed api.Errno, want string) {
	t.Helper()
	if got != want || failed != api.OK {
		t.Errorf("%s: %x %d, not %x", what, got, failed, want)
	}
}

// refused tells that a call answered a sector, or another error.
func refused(t *testing.T, what string, got string, failed api.Errno) {
	t.Helper()
	if got != "" || failed != api.ErrForm {
		t.Errorf("%s: %x %d", what, got, failed)
	}
}

// holds: what a slot with an entry is for its operation.
func holds(e api.Entry) api.Item {
	return api.Item{Kind: api.Holds, Stub: stubOf(e), Entry: e}
}

// TestParts is about these tests: all of a stub's numbers are asked for, each by its name.
func TestParts(t *testing.T) {
	if n := reflect.TypeFor[api.Stub]().NumField(); n != len(parts())+2 {
		t.Fatalf("a stub has %d numbers", n)
	}
	for _, p := range parts() {
		var s api.Stub
		*p.of(&s) = 7
		if reflect.ValueOf(s).FieldByName(p.name).Int() != 7 || bytesOf(s)[8*p.place] != 7 {
			t.Errorf("%s is another", p.name)
		}
	}
	if api.SectorBytes != sectorBytes || api.HeadBytes != headBytes || api.MaxNumber != top || api.MaxBody != longest {
		t.Error("another limit")
	}
	if api.Lacks != 0 || api.Holds != 1 || api.Faulty != 2 || api.Unsure != 3 {
		t.Error("another kind")
	}
}

// TestExamples is the chapter's.
func TestExamples(t *testing.T) {
	void := slot.Void("")
	for _, n := range []int{math.MinInt, -1, 0, 1, 3, 11, top, top + 1, math.MaxInt} {
		judged(t, void, void, n, api.Item{})
		judged(t, noughts, noughts, n, api.Item{Kind: 3})
	}
	e := api.Entry{Op: 3, Client: 1, Operation: 1}
	p, failed := slot.Prepare("", e)
	if failed != api.OK {
		t.Fatal(failed)
	}
	judged(t, p, noughts, 3, api.Item{Kind: 1, Stub: slot.StubOf(e), Entry: e})
	judged(t, p, noughts, 11, api.Item{})
}

// TestKnown is P12.1 and P12.2 by bytes and sums that were reckoned apart from this program.
func TestKnown(t *testing.T) {
	for _, x := range []struct {
		e        api.Entry
		sum      uint64
		last     byte   // of the sector that is sealed over
		p, pEnd  string // the prepare sector's first bytes, and its last ones
		h, hEnd  string // the header sector's likewise, all of its text among them
		void     string
		voidEnds string
	}{
		{
			api.Entry{Op: 1, Client: 7, Operation: 1}, 0xC8896F53ECA4F2AD, 0,
			"018000eb95ba9300000000ff0001000000000000000000000000000000000000", "b96e4b1801",
			"0128000100000000000000000000000000000000000000000000000000000000000000adf2a4ec536f89c8", "7458c92601",
			"010000", "e8fd639f01",
		},
		{
			api.Entry{View: 4, Op: 5, Under: 3, Parent: 6, Client: 7, Session: 8, Request: 9, Operation: 2, Body: "ab"}, 0xF603C3D8987CCC95, 41,
			"", "", "", "", "2a0000", "9ccd71f32a",
		},
		{
			api.Entry{View: 4, Op: 5, Under: 3, Parent: 6, Client: 7, Session: 8, Request: 9, Operation: 2, Body: "ab"}, 0xF603C3D8987CCC95, 65,
			"42820022e596653629a2e2ff0002000200000006000000000000000400000000", "c7f082bc42",
			"422800050000000000000004000000000000000300000000000000060000000000000095cc7c98d8c303f6", "4c19334542", "", "",
		},
		{
			api.Entry{View: top, Op: top, Under: top, Parent: math.MaxUint64, Client: top, Session: top, Request: top, Operation: 255, Body: strings.Repeat("z", longest)}, 0x35A5720E00EA34B0, 255,
			"0048015a90e8ae4cce2d93ff00ff00c8000000ffffffffffffffffffffffffff", "5de43eab00",
			"002800ffffffffffffff00ffffffffffffff00ffffffffffffff00ffffffffffffffffb034ea000e72a535", "7016f2e900",
			"000000", "64c1cf9c00",
		},
		{
			api.Entry{View: 258, Op: 772, Under: 1, Parent: 0x0102030405060708, Client: 11, Session: 5, Request: 1, Operation: 3, Body: "\x00"}, 0x7DDE0D696098CD2C, 254,
			"ff8100822bacd451537d52ff0003000100000008070605040302010201000000", "421e2fb5ff",
			"ff280004030000000000000201000000000000010000000000000008070605040302012ccd9860690dde7d", "869b2f2eff", "", "",
		},
	} {
		old := turned(noughts, 383, x.last)
		s := api.Stub{Op: x.e.Op, View: x.e.View, Under: x.e.Under, Parent: x.e.Parent, Sum: x.sum}
		if got := slot.StubOf(x.e); got != s {
			t.Errorf("StubOf(%+v): %+v, not %+v", x.e, got, s)
		}
		p, failed := slot.Prepare(old, x.e)
		beginsAndEnds(t, p, x.p, x.pEnd)
		sectorIs(t, "Prepare", p, failed, sealed(x.last+1, entryBytes(x.e)))
		h, failed := slot.Header(old, s)
		beginsAndEnds(t, h, x.h, x.hEnd)
		sectorIs(t, "Header", h, failed, sealed(x.last+1, bytesOf(s)))
		void := slot.Void(old)
		beginsAndEnds(t, void, x.void, x.voidEnds)
		hasEntry(t, p, x.e, true, true)
		hasStub(t, h, s, true, true)
		judged(t, p, h, x.e.Op, api.Item{Kind: 1, Stub: s, Entry: x.e})
		judged(t, void, h, x.e.Op, api.Item{Kind: 2, Stub: s})
	}
}

// beginsAndEnds tells that a sector has other bytes at its ends.
func beginsAndEnds(t *testing.T, sector, first, last string) {
	t.Helper()
	got := hex.EncodeToString([]byte(sector))
	if len(sector) != sectorBytes || !strings.HasPrefix(got, first) || !strings.HasSuffix(got, last) {
		t.Errorf("%s, not %s..%s", got, first, last)
	}
}

// TestStubOf is P12.1: an entry's stub; of one that may not be zero.
func TestStubOf(t *testing.T) {
	for _, e := range entries() {
		if got := slot.StubOf(e); got != stubOf(e) {
			t.Errorf("StubOf(%+v): %+v, not %+v", e, got, stubOf(e))
		}
	}
	for _, e := range wrongEntries() {
		if got := slot.StubOf(e); got != (api.Stub{}) {
			t.Errorf("StubOf(%+v): %+v", e, got)
		}
	}
}

// TestPrepare is P12.1: the sector of each entry that may be, over whatever a sector was; and that it is told again (P12.2).
func TestPrepare(t *testing.T) {
	for _, old := range olds() {
		for _, e := range []api.Entry{least(), some(), full()} {
			got, failed := slot.Prepare(old, e)
			sectorIs(t, "Prepare", got, failed, sealed(guard(old), entryBytes(e)))
		}
		for _, e := range []api.Entry{{}, {Op: 1, Operation: 1}, {Op: 1, Client: 1, Operation: 1, Under: 1}} {
			got, failed := slot.Prepare(old, e)
			refused(t, "Prepare", got, failed)
		}
	}
	for _, e := range entries() {
		got, failed := slot.Prepare("\x08", e)
		sectorIs(t, "Prepare", got, failed, sealed(9, entryBytes(e)))
		hasEntry(t, got, e, true, true)
	}
	for _, e := range wrongEntries() {
		got, failed := slot.Prepare(noughts, e)
		refused(t, "Prepare", got, failed)
	}
}

// TestHeader is P12.1: the sector of each stub that may be, over whatever a sector was; and that it is told again (P12.2).
func TestHeader(t *testing.T) {
	for _, old := range olds() {
		for _, s := range []api.Stub{{Op: 1}, someStub(), stubOf(full())} {
			got, failed := slot.Header(old, s)
			sectorIs(t, "Header", got, failed, sealed(guard(old), bytesOf(s)))
		}
		for _, s := range []api.Stub{{}, {Op: 1, Under: 1}, {Op: top + 1}} {
			got, failed := slot.Header(old, s)
			refused(t, "Header", got, failed)
		}
	}
	for _, s := range stubs() {
		got, failed := slot.Header("\x08", s)
		sectorIs(t, "Header", got, failed, sealed(9, bytesOf(s)))
		hasStub(t, got, s, true, true)
	}
	for _, s := range wrongStubs() {
		got, failed := slot.Header(noughts, s)
		refused(t, "Header", got, failed)
	}
}

// TestHeaderViews is P12.1 and P12.2: Under is 0 to View, which is 0 to MaxNumber.
func TestHeaderViews(t *testing.T) {
	ends := append([]int{0, 1, 2, 3, top - 1, top}, bad()...)
	for _, view := range ends {
		for _, under := range ends {
			s := someStub()
			s.View, s.Under = view, under
			got, failed := slot.Header("", s)
			if view >= 0 && view <= top && under >= 0 && under <= view {
				sectorIs(t, "Header", got, failed, sealed(1, bytesOf(s)))
				hasStub(t, sealed(1, bytesOf(s)), s, true, true)
			} else {
				refused(t, "Header", got, failed)
				hasStub(t, sealed(1, bytesOf(s)), api.Stub{}, false, false)
			}
		}
	}
}

// TestVoid is P12.1 and P12.2: a sector with no bytes, over whatever a sector was, is void, of either kind.
func TestVoid(t *testing.T) {
	l := olds()
	for c := range 256 {
		l = append(l, turned(noughts, 383, byte(c)))
	}
	for _, old := range l {
		got := slot.Void(old)
		sectorIs(t, "Void", got, api.OK, sealed(guard(old), ""))
		hasEntry(t, got, api.Entry{}, false, true)
		hasStub(t, got, api.Stub{}, false, true)
	}
}

// TestEntry is P12.2: the entry of a prepare sector, whatever stands at both ends; one that may not be can't be read.
func TestEntry(t *testing.T) {
	for g := range 256 {
		hasEntry(t, sealed(byte(g), entryBytes(anyEntry(int64(g)))), anyEntry(int64(g)), true, true)
	}
	for _, e := range wrongEntries() {
		if text := entryBytes(e); len(text) <= 376 && e.Operation == e.Operation&255 { // others stand in no sector
			hasEntry(t, sealed(1, text), api.Entry{}, false, false)
		}
	}
	for _, s := range stubs() {
		hasEntry(t, sealed(1, bytesOf(s)), api.Entry{}, false, false)
	}
	other := []byte(entryBytes(least()))
	other[8] = 254 // a header of another kind
	binary.LittleEndian.PutUint32(other, sumOf(other[4:headBytes]))
	hasEntry(t, sealed(1, string(other)), api.Entry{}, false, false)
}

// TestStub is P12.2: the stub of a header sector, whatever stands at both ends; one that may not be can't be read.
func TestStub(t *testing.T) {
	for g := range 256 {
		s := stubOf(anyEntry(int64(g)))
		hasStub(t, sealed(byte(g), bytesOf(s)), s, true, true)
	}
	for _, s := range stubs() {
		hasStub(t, sealed(1, bytesOf(s)), s, true, true)
	}
	for _, s := range wrongStubs() {
		hasStub(t, sealed(1, bytesOf(s)), api.Stub{}, false, false)
	}
	for _, e := range entries() {
		hasStub(t, sealed(1, entryBytes(e)), api.Stub{}, false, false)
	}
	for n := 1; n <= 376; n++ {
		want, is := api.Stub{}, n == stubBytes
		if is {
			want = someStub()
		}
		hasStub(t, sealed(1, strings.Repeat(bytesOf(someStub()), 10)[:n]), want, is, is)
	}
}

// TestStubBytes is P12.2: whatever one byte is, a header sector has the stub that has just these bytes, or can't be read.
func TestStubBytes(t *testing.T) {
	for _, good := range []api.Stub{{Op: 1}, someStub(), stubOf(full())} {
		for at := range stubBytes {
			for mask := 1; mask < 256; mask++ {
				text := turned(bytesOf(good), at, byte(mask))
				s, is, can := slot.Stub(sealed(1, text))
				if is != can || is && bytesOf(s) != text || !is && s != (api.Stub{}) {
					t.Fatalf("Stub of %x: %+v %v %v", text, s, is, can)
				}
				if place := at / 8; place >= 3 && !is || place < 3 && at%8 == 7 && is {
					t.Fatalf("Stub of %x: %v", text, is)
				}
			}
		}
	}
}

// TestUnreadable is P12.2: what is neither void nor a kind's can't be read.
func TestUnreadable(t *testing.T) {
	for _, x := range unreadable() {
		hasEntry(t, x, api.Entry{}, false, false)
		hasStub(t, x, api.Stub{}, false, false)
		judged(t, x, x, 3, api.Item{Kind: 3})
	}
}

// sector: one of a slot's, and what it has.
type sector struct {
	bytes string
	entry api.Entry
	stub  api.Stub
	can   bool // be read
}

// unlike: entries that differ from an entry by a number of its stub, or by its body alone.
func unlike(e api.Entry) []api.Entry {
	var l []api.Entry
	for _, change := range []func(*api.Entry){
		func(e *api.Entry) { e.View++ },
		func(e *api.Entry) { e.Under-- },
		func(e *api.Entry) { e.Parent ^= 1 << 63 },
		func(e *api.Entry) { e.Parent ^= 1 },
		func(e *api.Entry) { e.Client++ },
		func(e *api.Entry) { e.Body += "x" },
	} {
		other := e
		change(&other)
		l = append(l, other)
	}
	return l
}

// prepares: prepare sectors of all kinds.
func prepares() []sector {
	l := []sector{{bytes: noughts}, {bytes: ""}, {bytes: sealed(7, bytesOf(stubOf(some())))}, {bytes: turned(sealed(7, entryBytes(some())), 150, 1)}, {bytes: sealed(1, ""), can: true}, {bytes: sealed(200, ""), can: true}}
	first, later, behind := some(), some(), some()
	first.Op, later.Op, behind.Op = 1, 11, 4
	for _, e := range append(unlike(some()), some(), first, later, behind, full()) {
		l = append(l, sector{bytes: sealed(byte(len(l)), entryBytes(e)), entry: e, can: true})
	}
	return l
}

// headers: header sectors of all kinds.
func headers() []sector {
	l := []sector{{bytes: noughts}, {bytes: ""}, {bytes: sealed(7, entryBytes(some()))}, {bytes: turned(sealed(7, bytesOf(stubOf(some()))), 20, 1)}, {bytes: sealed(1, ""), can: true}, {bytes: sealed(200, ""), can: true}}
	var has []api.Stub
	for _, x := range prepares() {
		if x.entry.Op != 0 {
			has = append(has, stubOf(x.entry))
		}
	}
	for _, change := range []func(*api.Stub){
		func(s *api.Stub) { s.Op++ },
		func(s *api.Stub) { s.Op += 256 },
		func(s *api.Stub) { s.View++ },
		func(s *api.Stub) { s.Under-- },
		func(s *api.Stub) { s.Parent ^= 1 },
		func(s *api.Stub) { s.Sum ^= 1 },
		func(s *api.Stub) { s.Sum ^= 1 << 63 },
	} {
		s := stubOf(some())
		change(&s)
		has = append(has, s)
	}
	for _, s := range has {
		l = append(l, sector{bytes: sealed(byte(len(l)), bytesOf(s)), stub: s, can: true})
	}
	return l
}

// table is the chapter's: what a slot is for an operation.
func table(p, h sector, n int) api.Item {
	noted := h.stub.Op != 0 && h.stub.Op == n
	kept := p.entry.Op != 0
	switch {
	case noted && kept && stubOf(p.entry) == h.stub:
		return holds(p.entry)
	case noted:
		return api.Item{Kind: api.Faulty, Stub: h.stub}
	case h.can:
		return api.Item{Kind: api.Lacks}
	case kept && p.entry.Op == n:
		return holds(p.entry)
	case p.can:
		return api.Item{Kind: api.Lacks}
	}
	return api.Item{Kind: api.Unsure}
}

// TestJudge is P12.2: the chapter's table, of each prepare sector and each header sector, for each operation.
func TestJudge(t *testing.T) {
	seen := map[int]int{}
	for _, p := range prepares() {
		for _, h := range headers() {
			for _, n := range []int{math.MinInt, -3, -1, 0, 1, 2, 3, 4, 5, 11, 259, 1<<32 + 3, top, top + 1, top + 4, math.MaxInt} {
				want := table(p, h, n)
				judged(t, p.bytes, h.bytes, n, want)
				seen[want.Kind]++
			}
		}
	}
	if len(seen) != 4 {
		t.Errorf("not all kinds: %v", seen)
	}
}

// TestJudgeStub is P12.2: an entry one number of whose stub is another in the header sector is not what was kept.
func TestJudgeStub(t *testing.T) {
	for _, e := range append(entries()[:20], anyEntry(100), anyEntry(101)) {
		p, s := sealed(1, entryBytes(e)), stubOf(e)
		judged(t, p, sealed(2, bytesOf(s)), e.Op, holds(e))
		view, under := s, s
		view.View, under.Under = s.View-1, s.Under-1
		others := []api.Stub{view, under}
		view.View, under.Under = s.View+1, s.Under+1
		others = append(others, view, under)
		for bit := range 64 {
			parent, sum := s, s
			parent.Parent ^= 1 << bit
			sum.Sum ^= 1 << bit
			others = append(others, parent, sum)
		}
		for _, other := range others {
			if h, failed := slot.Header("", other); failed == api.OK {
				judged(t, p, h, e.Op, api.Item{Kind: api.Faulty, Stub: other})
				judged(t, p, h, e.Op+1, api.Item{})
			}
		}
		s.Op = max(1, (s.Op+8)&top)
		judged(t, p, sealed(2, bytesOf(s)), e.Op, api.Item{})
		judged(t, p, sealed(2, bytesOf(s)), s.Op, api.Item{Kind: api.Faulty, Stub: s})
	}
}

// TestTorn is P12.3: a sector that begins as what is written, and goes on as what was there, can't be read, wherever the seam is.
func TestTorn(t *testing.T) {
	e := some()
	s := stubOf(e)
	for _, old := range []string{noughts, sealed(1, ""), sealed(2, entryBytes(full())), sealed(3, entryBytes(e)), sealed(255, bytesOf(s)), sealed(4, bytesOf(stubOf(full())))} {
		p, _ := slot.Prepare(old, e)
		h, _ := slot.Header(old, s)
		void := slot.Void(old)
		for seam := 1; seam < sectorBytes; seam++ {
			hasEntry(t, p[:seam]+old[seam:], api.Entry{}, false, false)
			hasStub(t, h[:seam]+old[seam:], api.Stub{}, false, false)
			hasEntry(t, void[:seam]+old[seam:], api.Entry{}, false, false)
			hasStub(t, void[:seam]+old[seam:], api.Stub{}, false, false)
		}
	}
}

// with: a disk with a slot's sectors, the prepare sector ahead.
func with(t *testing.T, p, h string) *disk.Disk {
	t.Helper()
	d, _ := disk.New(2)
	for i, sector := range []string{p, h} {
		if failed := d.Write(i, sector); failed != api.OK {
			t.Fatalf("disk.Write: %d", failed)
		}
	}
	if failed := d.Flush(); failed != api.OK {
		t.Fatalf("disk.Flush: %d", failed)
	}
	return d
}

// put is how P12.3 puts an entry into a slot, till the power goes.
func put(t *testing.T, d *disk.Disk, e api.Entry) {
	t.Helper()
	p, failed := slot.Prepare(d.Lasts(0), e)
	h, alsoFailed := slot.Header(d.Lasts(1), slot.StubOf(e))
	if failed != api.OK || alsoFailed != api.OK {
		t.Fatalf("%d %d", failed, alsoFailed)
	}
	_ = d.Write(0, p) == api.OK && d.Flush() == api.OK && d.Write(1, h) == api.OK && d.Flush() == api.OK
}

// picks: all that can become of a write that was under way.
func picks() []int {
	l := []int{-1, 0, 1}
	for c := range sectorBytes + 1 {
		l = append(l, 2+3*c)
	}
	return l
}

// TestPower is P12.3: wherever the power goes while an entry is put into a slot that lacked it, the slot lacks it or holds it.
func TestPower(t *testing.T) {
	e := some()
	for _, p := range prepares() {
		if p.bytes == "" {
			continue // no sector of a disk
		}
		for _, h := range headers() {
			if !h.can || h.stub.Op == e.Op {
				continue
			}
			judged(t, p.bytes, h.bytes, e.Op, api.Item{})
			for fuse := 1; fuse <= 5; fuse++ {
				powered(t, p.bytes, h.bytes, e, fuse)
			}
		}
	}
}

// lasts: does anything last of a write that was under way, by a pick?
func lasts(pick int) bool {
	return pick == 1 || pick > 2
}

// powered tells that a slot is what it should not be behind a loss of power at the step fuse of four: it holds e as soon as a byte of its header sector was written.
func powered(t *testing.T, p, h string, e api.Entry, fuse int) {
	t.Helper()
	after := []int{0}
	if fuse == 2 || fuse == 4 { // a write is under way
		after = picks()
	}
	for _, pick := range after {
		d := with(t, p, h)
		d.Fuse(fuse)
		put(t, d, e)
		if d.On() != (fuse == 5) || d.Steps() != 3+min(fuse, 4) {
			t.Fatalf("a fuse of %d: %d steps", fuse, d.Steps())
		}
		d.Start([]int{pick})
		want := api.Item{}
		if fuse == 5 || fuse == 4 && lasts(pick) {
			want = holds(e)
		}
		if got := slot.Judge(d.Lasts(0), d.Lasts(1), e.Op); got != want {
			t.Errorf("the power went at %d, and came by %d: %+v, not %+v", fuse, pick, got, want)
		}
	}
}

// TestPowerAgain is P12.3: a slot that lacks an entry behind a loss of power is one into which it can be put once more.
func TestPowerAgain(t *testing.T) {
	e := some()
	for _, pick := range picks() {
		d := with(t, sealed(9, entryBytes(full())), sealed(4, ""))
		for fuse := range 2 {
			d.Fuse(fuse + 1)
			put(t, d, e)
			d.Start([]int{pick})
			judged(t, d.Lasts(0), d.Lasts(1), e.Op, api.Item{})
		}
		put(t, d, e)
		judged(t, d.Lasts(0), d.Lasts(1), e.Op, holds(e))
	}
}

// TestAgain is the rule that an answer hangs on what is handed in alone: nothing stays from call to call.
func TestAgain(t *testing.T) {
	p, h := sealed(1, entryBytes(some())), sealed(1, bytesOf(stubOf(some())))
	for _, other := range append(wrongEntries(), entries()...) {
		sector, _ := slot.Prepare(p, other)
		slot.Header(h, slot.StubOf(other))
		slot.Judge(sector, h, other.Op)
		judged(t, p, h, 3, holds(some()))
		judged(t, p, sector, 3, holds(some()))
		judged(t, p, slot.Void(h), 3, api.Item{})
	}
}

// TestApart is the rules: answers share no memory with what is handed in, which is neither changed nor kept.
func TestApart(t *testing.T) {
	good := sealed(1, entryBytes(full()))
	bytes := []byte(good)
	lent := unsafe.String(&bytes[0], len(bytes))
	e, _, _ := slot.Entry(lent)
	item := slot.Judge(lent, noughts, top)
	void := slot.Void(lent)
	if string(bytes) != good {
		t.Fatal("what was handed in was changed")
	}
	clear(bytes)
	if e != full() || item != holds(full()) || void != sealed(2, "") {
		t.Errorf("an answer shares a sector: %+v %+v", e, item)
	}

	body := []byte("a body")
	e = some()
	e.Body = unsafe.String(&body[0], len(body))
	p, _ := slot.Prepare("", e)
	if string(body) != "a body" {
		t.Fatal("a body was changed")
	}
	clear(body)
	if p != sealed(1, entryBytes(some())) {
		t.Errorf("a sector shares a body: %x", p)
	}
}

// TestTextsApart is the rules: no two answers share a text's memory.
func TestTextsApart(t *testing.T) {
	good := sealed(1, entryBytes(full()))
	h := sealed(1, bytesOf(stubOf(full())))
	places := map[*byte]bool{unsafe.StringData(good): true, unsafe.StringData(h): true}
	for range 2 {
		p, _ := slot.Prepare(good, full())
		header, _ := slot.Header(h, stubOf(full()))
		e, _, _ := slot.Entry(good)
		for _, text := range []string{p, header, slot.Void(good), e.Body, slot.Judge(good, h, top).Entry.Body, slot.Judge(good, noughts, top).Entry.Body} {
			places[unsafe.StringData(text)] = true
		}
	}
	if len(places) != 14 {
		t.Errorf("%d texts, not 14", len(places))
	}
}
