package session_test

import (
	"encoding/binary"
	"math"
	"math/rand"
	"slices"
	"strings"
	"testing"
	"unsafe"

	"comptor/api"
	"comptor/session"
)

const (
	top  = 1<<56 - 1 // the greatest number
	most = 200       // bytes of a reply
)

// bad: numbers that none may be.
func bad() []int {
	return []int{math.MinInt, -1 << 56, -256, -1, 1 << 56, 1<<56 + 1, 1 << 62, math.MaxInt}
}

// packed is P8.3's words on a table's bytes.
func packed(l ...api.Session) string {
	b := []byte{byte(len(l))}
	for _, s := range l {
		for _, n := range []int{s.Client, s.Session, s.Request, s.Op} {
			b = binary.LittleEndian.AppendUint64(b, uint64(n))
		}
		b = append(binary.LittleEndian.AppendUint16(b, uint16(len(s.Reply))), s.Reply...)
	}
	return string(b)
}

// with: a table that has these, in order.
func with(t *testing.T, l ...api.Session) *session.Table {
	t.Helper()
	made, e := session.Unpack(packed(l...))
	if e != api.OK || made == nil {
		t.Fatalf("Unpack: %v %d", made, e)
	}
	return made
}

// firstOf: the first of sessions that is the client's.
func firstOf(l []api.Session, client int) int {
	return slices.IndexFunc(l, func(s api.Session) bool { return s.Client == client })
}

// has tells that a table has other sessions than these.
func has(t *testing.T, table *session.Table, l ...api.Session) {
	t.Helper()
	if got := table.List(); !slices.Equal(got, l) {
		t.Errorf("List: %v, not %v", got, l)
	}
	if got := table.Pack(); got != packed(l...) {
		t.Errorf("Pack: %x, not %x", got, packed(l...))
	}
	clients := append(bad(), 0, 1, 2, 3, 4, 5, 6, 7, 8, top)
	for _, s := range l {
		clients = append(clients, s.Client)
	}
	for _, client := range clients {
		var want api.Session
		i := firstOf(l, client)
		if i >= 0 {
			want = l[i]
		}
		if got, ok := table.Look(client); got != want || ok != (i >= 0) {
			t.Errorf("Look(%d): %v %v, not %v", client, got, ok, want)
		}
	}
}

// opens tells that Open answers something else.
func opens(t *testing.T, table *session.Table, client, op, loser int, e api.Errno) {
	t.Helper()
	if got, is := table.Open(client, op); got != loser || is != e {
		t.Errorf("Open(%d, %d): %d %d, not %d %d", client, op, got, is, loser, e)
	}
}

// notes tells that Note answers something else.
func notes(t *testing.T, table *session.Table, client, request, op int, reply string, e api.Errno) {
	t.Helper()
	if got := table.Note(client, request, op, reply); got != e {
		t.Errorf("Note(%d, %d, %d, %.9q): %d, not %d", client, request, op, reply, got, e)
	}
}

// is tells that a request is something else.
func is(t *testing.T, table *session.Table, client, number, request, want int) {
	t.Helper()
	if got := table.Verdict(client, number, request); got != want {
		t.Errorf("Verdict(%d, %d, %d): %d, not %d", client, number, request, got, want)
	}
}

// three: sessions of the clients 4, 5 and 6, with unlike numbers.
func three() []api.Session {
	return []api.Session{
		{Client: 4, Session: 9, Request: 3, Op: 12, Reply: "abc"},
		{Client: 5, Session: 8, Request: 0, Op: 8},
		{Client: 6, Session: 7, Request: 900, Op: 13, Reply: strings.Repeat("z", most)},
	}
}

// TestExamples is the chapter's.
func TestExamples(t *testing.T) {
	table := session.New()
	opens(t, table, 7, 1, 0, api.OK)
	notes(t, table, 7, 1, 2, "a", api.OK)
	is(t, table, 7, 1, 1, 2)
	is(t, table, 7, 1, 2, 1)
	is(t, table, 7, 2, 2, 5)
	is(t, table, 7, 1, 3, 4)
}

// TestKnown is P8.1 to P8.3 by bytes that were written out by hand.
func TestKnown(t *testing.T) {
	table := session.New()
	opens(t, table, 258, 5, 0, 0)
	opens(t, table, 3, 1<<56-1, 0, 0)
	notes(t, table, 258, 1, 772, "ab", 0)
	want := "\x02" +
		"\x02\x01\x00\x00\x00\x00\x00\x00" + "\x05\x00\x00\x00\x00\x00\x00\x00" + "\x01\x00\x00\x00\x00\x00\x00\x00" + "\x04\x03\x00\x00\x00\x00\x00\x00" + "\x02\x00ab" +
		"\x03\x00\x00\x00\x00\x00\x00\x00" + "\xff\xff\xff\xff\xff\xff\xff\x00" + "\x00\x00\x00\x00\x00\x00\x00\x00" + "\xff\xff\xff\xff\xff\xff\xff\x00" + "\x00\x00"
	if got := table.Pack(); got != want {
		t.Errorf("%x", got)
	}
	again, e := session.Unpack(want)
	if e != 0 {
		t.Fatal(e)
	}
	has(t, again, api.Session{Client: 258, Session: 5, Request: 1, Op: 772, Reply: "ab"}, api.Session{Client: 3, Session: 1<<56 - 1, Op: 1<<56 - 1})
}

// TestNew is a table without sessions.
func TestNew(t *testing.T) {
	table := session.New()
	has(t, table)
	if got := table.Pack(); got != "\x00" {
		t.Errorf("%x", got)
	}
	is(t, table, 0, 0, 0, 5)
	is(t, table, 1, 1, 1, 5)
	notes(t, table, 1, 1, 1, "", 8)
	has(t, table)
}

// TestNil is the chapter's word on a nil table.
func TestNil(t *testing.T) {
	var table *session.Table
	for _, n := range append(bad(), 0, 1, 2, top) {
		opens(t, table, n, 1, 0, api.ErrNil)
		opens(t, table, 1, n, 0, api.ErrNil)
		notes(t, table, n, 1, 1, "", api.ErrNil)
		notes(t, table, 1, n, 1, "", api.ErrNil)
		notes(t, table, 1, 1, n, strings.Repeat("a", most+1), api.ErrNil)
		is(t, table, n, n, n, 5)
		is(t, table, 0, 0, n, 5)
	}
	has(t, table)
	if got := table.Pack(); got != "\x00" {
		t.Errorf("%x", got)
	}
}

// TestOpen is P8.1: sessions in the order in which they were opened, up to three.
func TestOpen(t *testing.T) {
	table := session.New()
	opens(t, table, 7, 9, 0, 0)
	has(t, table, api.Session{Client: 7, Session: 9, Op: 9})
	opens(t, table, 1, top, 0, 0)
	has(t, table, api.Session{Client: 7, Session: 9, Op: 9}, api.Session{Client: 1, Session: top, Op: top})
	opens(t, table, top, 1, 0, 0)
	has(t, table, api.Session{Client: 7, Session: 9, Op: 9}, api.Session{Client: 1, Session: top, Op: top}, api.Session{Client: top, Session: 1, Op: 1})
}

// TestOpenWrong is P8.1: numbers that can't be, who has a session, and which of both is told.
func TestOpenWrong(t *testing.T) {
	for n := range 4 {
		table := with(t, three()[:n]...)
		for _, wrong := range append(bad(), 0) {
			opens(t, table, wrong, 1, 0, api.ErrArg)
			opens(t, table, 1, wrong, 0, api.ErrArg)
			opens(t, table, wrong, wrong, 0, api.ErrArg)
			opens(t, table, 4, wrong, 0, api.ErrArg)
		}
		for _, s := range three()[:n] {
			opens(t, table, s.Client, s.Session, 0, api.ErrTwice)
			opens(t, table, s.Client, top, 0, api.ErrTwice)
			opens(t, table, s.Client, 1, 0, api.ErrTwice)
		}
		has(t, table, three()[:n]...)
	}
	table := with(t, api.Session{}, api.Session{Client: 4})
	opens(t, table, 0, 1, 0, api.ErrArg)
	opens(t, table, 4, 1, 0, api.ErrTwice)
	has(t, table, api.Session{}, api.Session{Client: 4})
}

// TestOut is P8.1: of three sessions the one with the least Op goes, the first of them, whatever else it has.
func TestOut(t *testing.T) {
	for _, c := range []struct {
		ops  [3]int
		goes int
	}{
		{[3]int{1, 2, 3}, 0},
		{[3]int{2, 1, 3}, 1},
		{[3]int{3, 1, 2}, 1},
		{[3]int{3, 2, 1}, 2},
		{[3]int{2, 3, 1}, 2},
		{[3]int{1, 3, 2}, 0},
		{[3]int{5, 5, 5}, 0},
		{[3]int{5, 5, 6}, 0},
		{[3]int{6, 5, 5}, 1},
		{[3]int{5, 6, 5}, 0},
		{[3]int{6, 6, 5}, 2},
		{[3]int{0, 0, 0}, 0},
		{[3]int{1, 0, 0}, 1},
		{[3]int{top, top, top}, 0},
		{[3]int{top, top - 1, top}, 1},
		{[3]int{256, 1, 65536}, 1},
	} {
		all := three()
		for i := range all {
			all[i].Op = c.ops[i]
			// The other numbers go the other way.
			all[i].Session, all[i].Request = top-c.ops[i], top-c.ops[i]
		}
		table := with(t, all...)
		loser := all[c.goes].Client
		opens(t, table, 8, 20, loser, 0)
		left := append(slices.Delete(all, c.goes, c.goes+1), api.Session{Client: 8, Session: 20, Op: 20})
		has(t, table, left...)
		is(t, table, loser, 0, 0, 5)
		notes(t, table, loser, 1, 1, "", api.ErrNone)
		has(t, table, left...)
	}
}

// TestOutAgain is P8.1: one after the other is put out, the one that was put out among them, and an Op that is noted keeps one.
func TestOutAgain(t *testing.T) {
	table := session.New()
	for op := 1; op <= 40; op++ {
		loser := 0
		if op > 3 {
			loser = 1 + (op-4)%4
		}
		opens(t, table, 1+(op-1)%4, op, loser, 0)
	}
	has(t, table, api.Session{Client: 2, Session: 38, Op: 38}, api.Session{Client: 3, Session: 39, Op: 39}, api.Session{Client: 4, Session: 40, Op: 40})
	notes(t, table, 2, 1, 41, "", 0)
	notes(t, table, 4, 1, 2, "", 0)
	opens(t, table, 1, 42, 4, 0)
	opens(t, table, 4, 43, 3, 0)
	opens(t, table, 3, 44, 2, 0)
	has(t, table, api.Session{Client: 1, Session: 42, Op: 42}, api.Session{Client: 4, Session: 43, Op: 43}, api.Session{Client: 3, Session: 44, Op: 44})
}

// TestOutNobody is P8.1: one that is put out may be the client 0, of a table that was told so; and equal clients go one by one.
func TestOutNobody(t *testing.T) {
	table := with(t, api.Session{Client: 2, Op: 1}, api.Session{Client: 0, Op: 0}, api.Session{Client: 2, Op: 2})
	opens(t, table, 5, 9, 0, 0)
	has(t, table, api.Session{Client: 2, Op: 1}, api.Session{Client: 2, Op: 2}, api.Session{Client: 5, Session: 9, Op: 9})
	opens(t, table, 2, 10, 0, api.ErrTwice)
	opens(t, table, 6, 10, 2, 0)
	opens(t, table, 2, 11, 0, api.ErrTwice)
	opens(t, table, 7, 11, 2, 0)
	opens(t, table, 2, 12, 5, 0)
	has(t, table, api.Session{Client: 6, Session: 10, Op: 10}, api.Session{Client: 7, Session: 11, Op: 11}, api.Session{Client: 2, Session: 12, Op: 12})
}

// TestVerdict is P8.2: what requests are, from the session's last one.
func TestVerdict(t *testing.T) {
	for _, last := range []int{0, 1, 2, 255, 256, 1 << 32, top - 1, top} {
		table := with(t, api.Session{Client: 3, Session: 6, Request: 77}, api.Session{Client: 4, Session: 5, Request: last})
		for _, c := range []struct {
			request int
			want    int
		}{
			{math.MinInt, 3}, {-1, 3}, {last - 256, 3}, {last - 2, 3}, {last - 1, 3},
			{last, 2}, {last + 1, 1}, {last + 2, 4}, {last + 3, 4}, {last + 256, 4}, {last + 1<<32, 4}, {math.MaxInt, 4},
		} {
			is(t, table, 4, 5, c.request, c.want)
			for _, number := range append(bad(), 0, 4, 6, 5+256, 5+1<<32, top) {
				is(t, table, 4, number, c.request, 5)
			}
			for _, client := range append(bad(), 0, 3, 5, 4+256, 4+1<<32, top) {
				is(t, table, client, 5, c.request, 5)
			}
		}
	}
}

// TestVerdictFirst is P8.2: of equal clients the first one's session is meant, and noted.
func TestVerdictFirst(t *testing.T) {
	all := []api.Session{{Client: 4, Session: 5, Request: 1}, {Client: 4, Session: 6, Request: 9}, {Client: 4, Session: 5, Request: 20}}
	table := with(t, all...)
	has(t, table, all...)
	is(t, table, 4, 5, 1, 2)
	is(t, table, 4, 5, 20, 4)
	is(t, table, 4, 6, 9, 5)
	is(t, table, 4, 6, 10, 5)
	notes(t, table, 4, 19, 3, "x", 0)
	all[0] = api.Session{Client: 4, Session: 5, Request: 19, Op: 3, Reply: "x"}
	has(t, table, all...)
	is(t, table, 4, 5, 20, 1)
}

// TestVerdictChangesNothing is P8.2: to ask changes nothing.
func TestVerdictChangesNothing(t *testing.T) {
	table := with(t, three()...)
	for request := range 6 {
		is(t, table, 4, 9, request, []int{3, 3, 3, 2, 1, 4}[request])
	}
	has(t, table, three()...)
}

// TestNote is P8.2: what is noted at each place, numbers at their ends and replies of all lengths.
func TestNote(t *testing.T) {
	for i := range 3 {
		for _, c := range [][2]int{{0, 0}, {0, top}, {top, 0}, {top, top}, {1, 2}, {256, 65536}} {
			for _, size := range []int{0, 1, 199, 200} {
				all, table := three(), with(t, three()...)
				reply := strings.Repeat("\xfe", size)
				notes(t, table, all[i].Client, c[0], c[1], reply, 0)
				all[i].Request, all[i].Op, all[i].Reply = c[0], c[1], reply
				has(t, table, all...)
				is(t, table, all[i].Client, all[i].Session, c[0], 2)
			}
		}
	}
}

// TestNoteWrong is P8.2: what can't be noted, and which fault is told.
func TestNoteWrong(t *testing.T) {
	table := with(t, three()...)
	long := strings.Repeat("a", most+1)
	for _, wrong := range bad() {
		for _, reply := range []string{"", "a", long} {
			notes(t, table, wrong, 1, 1, reply, api.ErrNone)
			notes(t, table, 9, wrong, 1, reply, api.ErrNone)
			notes(t, table, 9, 1, wrong, reply, api.ErrNone)
			notes(t, table, 5, wrong, 1, reply, api.ErrArg)
			notes(t, table, 5, 1, wrong, reply, api.ErrArg)
			notes(t, table, 5, wrong, wrong, reply, api.ErrArg)
		}
	}
	for _, client := range []int{0, 1, 3, 7, 4 + 256, 4 + 1<<32} {
		notes(t, table, client, 1, 1, "", api.ErrNone)
		notes(t, table, client, 1, 1, long, api.ErrNone)
	}
	for _, size := range []int{201, 202, 256, 400, 65535, 65536, 65736, 1 << 20} {
		for _, s := range three() {
			notes(t, table, s.Client, 0, top, strings.Repeat("a", size), api.ErrLong)
		}
	}
	has(t, table, three()...)
}

// isForm tells that bytes are a table's that should be none's.
func isForm(t *testing.T, s string) {
	t.Helper()
	if table, e := session.Unpack(s); table != nil || e != api.ErrForm {
		t.Errorf("Unpack of %d bytes %.60x: %v %d", len(s), s, table, e)
	}
}

// TestUnpack is P8.3: the table whose bytes they are: so many sessions, numbers at their ends, replies of all lengths.
func TestUnpack(t *testing.T) {
	for n := range 4 {
		has(t, with(t, three()[:n]...), three()[:n]...)
	}
	for size := range most + 1 {
		all := three()
		all[1].Reply, all[2].Reply = strings.Repeat("\x03", size), strings.Repeat("\xff", most-size)
		has(t, with(t, all...), all...)
	}
	for field := range 4 {
		for _, n := range []int{0, 1, 255, 256, 1 << 32, 1 << 48, top - 1, top} {
			all := three()
			*[]*int{&all[1].Client, &all[1].Session, &all[1].Request, &all[1].Op}[field] = n
			has(t, with(t, all...), all...)
		}
	}
}

// TestUnpackNone is P8.3: bytes that lack some, or have some more, or too many sessions, too great numbers, or too long replies.
func TestUnpackNone(t *testing.T) {
	isForm(t, "")
	for n := range 4 {
		s := packed(three()[:n]...)
		for i := range s {
			isForm(t, s[:i])
		}
		for _, more := range []string{"\x00", "\x01", strings.Repeat("\x00", 34), s} {
			isForm(t, s+more)
		}
		for other := range 256 {
			if other != n {
				isForm(t, string([]byte{byte(other)})+s[1:])
			}
		}
	}
	for n := 4; n < 256; n++ {
		isForm(t, packed(make([]api.Session, n)...))
	}
	for field := range 4 {
		for i := range 3 {
			for _, wrong := range bad() {
				all := three()
				*[]*int{&all[i].Client, &all[i].Session, &all[i].Request, &all[i].Op}[field] = wrong
				isForm(t, packed(all...))
			}
		}
	}
	for i := range 3 {
		for _, size := range []int{201, 202, 255, 256, 257, 400, 1000, 65535} {
			all := three()
			all[i].Reply = strings.Repeat("\x00", size)
			isForm(t, packed(all...))
		}
	}
	// Told from its first byte on, this has the bytes of one session.
	isForm(t, packed(api.Session{Op: -56 << 56}, api.Session{Reply: strings.Repeat("a", 165)}))
	isForm(t, strings.Repeat("\x01", 1<<20))
	isForm(t, strings.Repeat("\x00", 1<<20))
}

// TestUnpackAny is P8.3: bytes that are a table's are so many as they say; one byte turned is another table's, or none's.
func TestUnpackAny(t *testing.T) {
	r := rand.New(rand.NewSource(1))
	taken := 0
	for range 30000 {
		b := []byte(packed(three()[:r.Intn(4)]...))
		for range 1 + r.Intn(2) {
			b[r.Intn(len(b))] = byte(r.Intn(256))
		}
		table, e := session.Unpack(string(b))
		if mayBe(b) {
			taken++
			if e != api.OK || table.Pack() != string(b) {
				t.Errorf("Unpack(%x): %d", b, e)
			}
		} else if e != api.ErrForm || table != nil {
			t.Errorf("Unpack(%x): %v %d", b, table, e)
		}
	}
	if taken < 10000 || taken > 29000 {
		t.Errorf("%d of 30000 are tables", taken)
	}
}

// mayBe: are bytes a table's?
func mayBe(b []byte) bool {
	if len(b) == 0 || b[0] > 3 {
		return false
	}
	n, b := b[0], b[1:]
	for range n {
		if len(b) < 34 || b[7]|b[15]|b[23]|b[31] != 0 {
			return false
		}
		size := int(b[32]) | int(b[33])<<8
		if size > 200 || len(b) < 34+size {
			return false
		}
		b = b[34+size:]
	}
	return len(b) == 0
}

// reckoning is the chapter's words on a table, one call after the other.
type reckoning []api.Session

// open is P8.1's.
func (l *reckoning) open(client, op int) (int, api.Errno) {
	if client < 1 || client > top || op < 1 || op > top {
		return 0, 1
	}
	if firstOf(*l, client) >= 0 {
		return 0, 7
	}
	loser := 0
	if len(*l) == 3 {
		least := min((*l)[0].Op, (*l)[1].Op, (*l)[2].Op)
		i := slices.IndexFunc(*l, func(s api.Session) bool { return s.Op == least })
		loser = (*l)[i].Client
		*l = slices.Concat((*l)[:i], (*l)[i+1:])
	}
	*l = append(*l, api.Session{Client: client, Session: op, Op: op})
	return loser, 0
}

// note is P8.2's.
func (l *reckoning) note(client, request, op int, reply string) api.Errno {
	i := firstOf(*l, client)
	switch {
	case i < 0:
		return 8
	case min(request, op) < 0 || max(request, op) > top:
		return 1
	case len(reply) > 200:
		return 5
	}
	(*l)[i].Request, (*l)[i].Op, (*l)[i].Reply = request, op, reply
	return 0
}

// verdict is P8.2's.
func (l *reckoning) verdict(client, number, request int) int {
	i := firstOf(*l, client)
	if i < 0 || (*l)[i].Session != number {
		return 5
	}
	switch d := request - (*l)[i].Request; {
	case d == 1:
		return 1
	case d == 0:
		return 2
	case d < 0:
		return 3
	}
	return 4
}

// few: a number, mostly a small one.
func few(r *rand.Rand, n int) int {
	if r.Intn(20) == 0 {
		return []int{-1, 0, top, top + 1}[r.Intn(4)]
	}
	return r.Intn(n)
}

// TestAsReckoned is P8.1 to P8.3: calls as they come, against the chapter's words; a table that was packed goes on as it would have.
func TestAsReckoned(t *testing.T) {
	r := rand.New(rand.NewSource(2))
	seen := map[[2]int]int{}
	for range 200 {
		table, want := session.New(), &reckoning{}
		for range 100 {
			client, number, request, op := few(r, 6), few(r, 6), few(r, 6), few(r, 6)
			switch call := r.Intn(4); call {
			case 0:
				loser, e := want.open(client, op)
				opens(t, table, client, op, loser, e)
				seen[[2]int{call, int(e)}]++
			case 1:
				reply := strings.Repeat("r", few(r, 220)&255)
				e := want.note(client, request, op, reply)
				notes(t, table, client, request, op, reply, e)
				seen[[2]int{call, int(e)}]++
			case 2:
				verdict := want.verdict(client, number, request)
				is(t, table, client, number, request, verdict)
				seen[[2]int{call, verdict}]++
			case 3:
				table = with(t, table.List()...)
			}
			has(t, table, *want...)
		}
	}
	for _, came := range [][2]int{{0, 0}, {0, 1}, {0, 7}, {1, 0}, {1, 1}, {1, 5}, {1, 8}, {2, 1}, {2, 2}, {2, 3}, {2, 4}, {2, 5}} {
		if seen[came] < 20 {
			t.Errorf("%v came %d times", came, seen[came])
		}
	}
}

// TestApart is the rules: answers share no memory with the table, and what is handed in is neither changed nor kept.
func TestApart(t *testing.T) {
	bytes := []byte(packed(three()...))
	before := string(bytes)
	table, e := session.Unpack(unsafe.String(&bytes[0], len(bytes)))
	if e != api.OK || string(bytes) != before {
		t.Error("what was handed in was changed")
	}
	clear(bytes)
	has(t, table, three()...)
	all := table.List()
	clear(all[:cap(all)])
	has(t, table, three()...)
	reply := []byte("noted")
	notes(t, table, 4, 4, 14, unsafe.String(&reply[0], len(reply)), 0)
	if string(reply) != "noted" {
		t.Error("a reply was changed")
	}
	clear(reply)
	want := three()
	want[0].Request, want[0].Op, want[0].Reply = 4, 14, "noted"
	has(t, table, want...)
}

// TestTextsApart is the rules: no two answers share a text's memory.
func TestTextsApart(t *testing.T) {
	table := with(t, three()...)
	places := map[*byte]bool{}
	for range 2 {
		one, _ := table.Look(4)
		for _, s := range append(table.List(), one) {
			if s.Reply != "" {
				places[unsafe.StringData(s.Reply)] = true
			}
		}
	}
	if len(places) != 6 {
		t.Errorf("%d texts, not 6", len(places))
	}
}

// TestOld is the rules: what was answered stays as it was, whatever is done behind it, and the other way about.
func TestOld(t *testing.T) {
	table := with(t, three()...)
	all, pack := table.List(), table.Pack()
	one, _ := table.Look(5)
	notes(t, table, 5, 77, 88, "later", 0)
	opens(t, table, 9, 99, 4, 0)
	if !slices.Equal(all, three()) || pack != packed(three()...) || one != three()[1] {
		t.Error("an answer was changed behind it")
	}
	table = with(t, three()[:2]...)
	longer := append(table.List(), api.Session{Client: 70})
	opens(t, table, 9, 99, 0, 0)
	if longer[2].Client != 70 {
		t.Error("an answer's spare room is the table's")
	}
	has(t, table, three()[0], three()[1], api.Session{Client: 9, Session: 99, Op: 99})
}

// TestTwo is the rule that what a table answers hangs on what it was told alone: two of them know nothing of each other.
func TestTwo(t *testing.T) {
	one, two := session.New(), session.New()
	opens(t, one, 4, 1, 0, 0)
	has(t, two)
	opens(t, two, 4, 2, 0, 0)
	notes(t, one, 4, 1, 3, "a", 0)
	has(t, one, api.Session{Client: 4, Session: 1, Request: 1, Op: 3, Reply: "a"})
	has(t, two, api.Session{Client: 4, Session: 2, Op: 2})
	again := with(t, one.List()...)
	notes(t, again, 4, 2, 4, "b", 0)
	has(t, one, api.Session{Client: 4, Session: 1, Request: 1, Op: 3, Reply: "a"})
	has(t, session.New())
}
