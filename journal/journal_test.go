package journal_test

import (
	"cmp"
	"encoding/binary"
	"encoding/hex"
	"hash/crc32"
	"math"
	"math/rand"
	"slices"
	"strings"
	"testing"
	"unsafe"

	"comptor/api"
	"comptor/crc"
	"comptor/disk"
	"comptor/journal"
)

const (
	sectorBytes = 384
	headBytes   = 128
	stubBytes   = 40
	sectors     = 32
	slots       = 8
	prepares    = 4  // where the prepare sectors begin
	headers     = 12 // where the header sectors begin
	top         = 1<<56 - 1
	lastCheck   = top - slots
	longest     = 200 // bytes of a body
)

var noughts = strings.Repeat("\x00", sectorBytes)

// sumOf is the library's sum.
func sumOf(b []byte) uint32 {
	return crc32.Checksum(b, crc32.MakeTable(crc32.Castagnoli))
}

// sealed is chapter 4's words on a sealed sector.
func sealed(g byte, text string) string {
	b := make([]byte, sectorBytes)
	b[0], b[383] = g, g
	binary.LittleEndian.PutUint16(b[1:], uint16(len(text)))
	copy(b[3:], text)
	binary.LittleEndian.PutUint32(b[379:], sumOf(b[:379]))
	return string(b)
}

// opened is chapter 4's words on what a sealed sector has.
func opened(sector string) (string, bool) {
	n := int(sector[1]) + 256*int(sector[2])
	if n > 376 || sealed(sector[0], sector[3:3+n]) != sector {
		return "", false
	}
	return sector[3 : 3+n], true
}

// turned: a text one byte of which is turned.
func turned(s string, at int, mask byte) string {
	b := []byte(s)
	b[at] ^= mask
	return string(b)
}

// entryBytes is the words of chapters 5 and 9 on an entry's bytes, though it may not be.
func entryBytes(e api.Entry) string {
	b := make([]byte, headBytes)
	b[8], b[10] = 255, byte(e.Operation)
	binary.LittleEndian.PutUint32(b[12:], uint32(len(e.Body)))
	binary.LittleEndian.PutUint64(b[16:], e.Parent)
	for _, x := range [][2]int{{24, e.View}, {32, e.Op}, {48, e.Client}, {56, e.Session}, {64, e.Request}, {72, e.Under}} {
		binary.LittleEndian.PutUint64(b[x[0]:], uint64(x[1]))
	}
	binary.LittleEndian.PutUint32(b[4:], sumOf([]byte(e.Body)))
	binary.LittleEndian.PutUint32(b, sumOf(b[4:]))
	return string(b) + e.Body
}

// stubText is chapter 12's words on a stub's bytes.
func stubText(s api.Stub) string {
	var b []byte
	for _, n := range []uint64{uint64(s.Op), uint64(s.View), uint64(s.Under), s.Parent, s.Sum} {
		b = binary.LittleEndian.AppendUint64(b, n)
	}
	return string(b)
}

// stubOf is chapter 12's words on the stub of an entry that may be.
func stubOf(e api.Entry) api.Stub {
	return api.Stub{Op: e.Op, View: e.View, Under: e.Under, Parent: e.Parent, Sum: crc.Chain(e.Parent, entryBytes(e))}
}

// entryIn is chapter 12's words on a prepare sector: its entry, zero, if it has none, and whether it can be read. (The entries of these tests may be.)
func entryIn(p string) (api.Entry, bool) {
	text, ok := opened(p)
	if text == "" || len(text) < headBytes {
		return api.Entry{}, ok && text == ""
	}
	number := func(at int) int { return int(binary.LittleEndian.Uint64([]byte(text[at:]))) }
	e := api.Entry{
		View: number(24), Op: number(32), Under: number(72), Parent: uint64(number(16)),
		Client: number(48), Session: number(56), Request: number(64), Operation: int(text[10]), Body: text[headBytes:],
	}
	if entryBytes(e) != text {
		return api.Entry{}, false
	}
	return e, true
}

// stubIn is chapter 12's words on a header sector likewise.
func stubIn(h string) (api.Stub, bool) {
	text, ok := opened(h)
	if len(text) != stubBytes {
		return api.Stub{}, ok && text == ""
	}
	number := func(i int) uint64 { return binary.LittleEndian.Uint64([]byte(text[8*i:])) }
	return api.Stub{Op: int(number(0)), View: int(number(1)), Under: int(number(2)), Parent: number(3), Sum: number(4)}, true
}

// holds, faulty and unsure: what a slot is.
func holds(e api.Entry) api.Item {
	return api.Item{Kind: api.Holds, Stub: stubOf(e), Entry: e}
}

func faulty(e api.Entry) api.Item {
	return api.Item{Kind: api.Faulty, Stub: stubOf(e)}
}

func unsure() api.Item {
	return api.Item{Kind: api.Unsure}
}

// judged is chapter 12's table.
func judged(p, h string, n int) api.Item {
	e, readP := entryIn(p)
	s, readH := stubIn(h)
	switch {
	case readH && s.Op == n && e.Op != 0 && stubOf(e) == s:
		return holds(e)
	case readH && s.Op == n:
		return api.Item{Kind: api.Faulty, Stub: s}
	case readH:
		return api.Item{}
	case e.Op == n:
		return holds(e)
	case readP:
		return api.Item{}
	}
	return unsure()
}

// mayBe is chapter 9's words.
func mayBe(e api.Entry) bool {
	for _, n := range []int{e.Op - 1, e.Client - 1, e.View, e.Under, e.Session, e.Request} {
		if n < 0 || n > top || n == top && (n == e.Op-1 || n == e.Client-1) {
			return false
		}
	}
	return e.Under <= e.View && e.Operation >= 1 && e.Operation <= 255 && len(e.Body) <= longest
}

// step: one of a disk's that counts: a write to a sector, or a flush.
type step struct {
	at    int // below 0: a flush
	bytes string
}

// model is the chapter's words on a journal and its disk.
type model struct {
	sectors [sectors]string
	check   int
	items   map[int]api.Item // of operations: what is not there is lacked
	steps   []step           // of the last call
}

func (m *model) write(at int, text string) {
	m.sectors[at] = sealed(m.sectors[at][sectorBytes-1]+1, text)
	m.steps = append(m.steps, step{at, m.sectors[at]})
}

func (m *model) flush() {
	m.steps = append(m.steps, step{at: -1})
}

func (m *model) lay(at int, text string) {
	m.write(at, text)
	m.flush()
}

// slot: where an operation's two sectors are.
func slot(n int) (int, int) {
	return prepares + n%slots, headers + n%slots
}

// set: what an operation's slot is.
func (m *model) set(n int, item api.Item) {
	if item == (api.Item{}) {
		delete(m.items, n)
	} else {
		m.items[n] = item
	}
}

// has: is an operation in the window?
func (m *model) has(n int) bool {
	return n >= m.check+1 && n <= m.check+slots
}

// rising: the window's operations in the order of their slots.
func (m *model) rising() []int {
	var l []int
	for s := range slots {
		for n := m.check + 1; n <= m.check+slots; n++ {
			if n%slots == s {
				l = append(l, n)
			}
		}
	}
	return l
}

func (m *model) clean(n int) {
	at, beside := slot(n)
	e, readP := entryIn(m.sectors[at])
	s, readH := stubIn(m.sectors[beside])
	if !readP || e.Op == n {
		m.lay(at, "")
	}
	if !readH || s.Op == n {
		m.lay(beside, "")
	}
}

func (m *model) format() {
	for s := range slots {
		m.write(prepares+s, "")
		m.write(headers+s, "")
	}
	m.flush()
}

func (m *model) open(check int) api.Errno {
	if check < 0 || check > lastCheck {
		return api.ErrArg
	}
	m.check, m.items = check, map[int]api.Item{}
	for _, n := range m.rising() {
		at, beside := slot(n)
		item := judged(m.sectors[at], m.sectors[beside], n)
		m.set(n, item)
		if _, can := stubIn(m.sectors[beside]); item.Kind == api.Holds && !can {
			m.lay(beside, stubText(item.Stub))
		}
		if item.Kind == api.Lacks {
			m.clean(n)
		}
	}
	return api.OK
}

func (m *model) head() int {
	head := m.check
	for n, item := range m.items {
		if item.Kind == api.Holds || item.Kind == api.Faulty {
			head = max(head, n)
		}
	}
	return head
}

func (m *model) put(e api.Entry) api.Errno {
	if !mayBe(e) {
		return api.ErrForm
	}
	if !m.has(e.Op) {
		return api.ErrArg
	}
	at, beside := slot(e.Op)
	item := m.items[e.Op]
	switch {
	case item.Kind == api.Holds && item.Entry == e:
		return api.OK
	case item.Kind == api.Faulty && item.Stub == stubOf(e):
		m.lay(at, entryBytes(e))
	default:
		if item.Kind == api.Holds || item.Kind == api.Faulty {
			m.lay(beside, "")
		}
		m.lay(at, entryBytes(e))
		m.lay(beside, stubText(stubOf(e)))
	}
	m.set(e.Op, holds(e))
	return api.OK
}

func (m *model) void(n int) api.Errno {
	if !m.has(n) {
		return api.ErrArg
	}
	at, beside := slot(n)
	switch m.items[n].Kind {
	case api.Holds, api.Faulty:
		m.lay(beside, "")
		m.lay(at, "")
	case api.Unsure:
		m.lay(at, "")
		m.lay(beside, "")
	}
	m.set(n, api.Item{})
	return api.OK
}

func (m *model) shift(check int) api.Errno {
	if check < m.check || check > lastCheck {
		return api.ErrArg
	}
	m.check = check
	for n := range m.items {
		if !m.has(n) {
			delete(m.items, n)
		}
	}
	return api.OK
}

func (m *model) read(n int) (api.Entry, api.Errno) {
	if !m.has(n) {
		return api.Entry{}, api.ErrArg
	}
	item := m.items[n]
	switch item.Kind {
	case api.Lacks:
		return api.Entry{}, api.ErrNone
	case api.Faulty, api.Unsure:
		return api.Entry{}, api.ErrLost
	}
	at, _ := slot(n)
	if e, _ := entryIn(m.sectors[at]); e.Op != 0 && stubOf(e) == item.Stub {
		return e, api.OK
	}
	m.set(n, api.Item{Kind: api.Faulty, Stub: item.Stub})
	return api.Entry{}, api.ErrLost
}

func (m *model) scrub() api.Errno {
	for _, n := range m.rising() {
		at, beside := slot(n)
		item := m.items[n]
		switch item.Kind {
		case api.Holds, api.Faulty:
			if e, _ := entryIn(m.sectors[at]); e.Op == 0 || stubOf(e) != item.Stub {
				m.set(n, api.Item{Kind: api.Faulty, Stub: item.Stub})
			}
			if s, _ := stubIn(m.sectors[beside]); s != item.Stub {
				m.lay(beside, stubText(item.Stub))
			}
		case api.Lacks:
			m.clean(n)
		}
	}
	return api.OK
}

// pair is a journal, and the chapter's words on it.
type pair struct {
	d *disk.Disk
	j *journal.Journal
	m *model
}

// call is one of a journal's, and the chapter's words on it.
type call struct {
	name string
	do   func(*pair) (api.Entry, api.Errno)
	say  func(*model) (api.Entry, api.Errno)
}

// plain: a call that answers no entry.
func plain(name string, do func(*pair) api.Errno, say func(*model) api.Errno) call {
	return call{
		name,
		func(p *pair) (api.Entry, api.Errno) { return api.Entry{}, do(p) },
		func(m *model) (api.Entry, api.Errno) { return api.Entry{}, say(m) },
	}
}

func put(e api.Entry) call {
	return plain("Put", func(p *pair) api.Errno { return p.j.Put(e) }, func(m *model) api.Errno { return m.put(e) })
}

func void(n int) call {
	return plain("Void", func(p *pair) api.Errno { return p.j.Void(n) }, func(m *model) api.Errno { return m.void(n) })
}

func shift(check int) call {
	return plain("Shift", func(p *pair) api.Errno { return p.j.Shift(check) }, func(m *model) api.Errno { return m.shift(check) })
}

func scrub() call {
	return plain("Scrub", func(p *pair) api.Errno { return p.j.Scrub() }, (*model).scrub)
}

func read(n int) call {
	return call{
		"Read",
		func(p *pair) (api.Entry, api.Errno) { return p.j.Read(n) },
		func(m *model) (api.Entry, api.Errno) { return m.read(n) },
	}
}

// open makes the pair's journal anew.
func open(check int) call {
	do := func(p *pair) api.Errno {
		j, failed := journal.Open(p.d, check)
		if (j == nil) != (failed != api.OK) {
			panic("a journal beside an error, or none without one")
		}
		if j != nil {
			p.j = j
		}
		return failed
	}
	return plain("Open", do, func(m *model) api.Errno { return m.open(check) })
}

// raw: sectors become others, whatever the journal knows.
func raw(t *testing.T, p *pair, what map[int]string) {
	t.Helper()
	for at, bytes := range what {
		if failed := p.d.Write(at, bytes); failed != api.OK {
			t.Fatalf("disk.Write: %d", failed)
		}
		p.m.sectors[at] = bytes
	}
	if failed := p.d.Flush(); failed != api.OK {
		t.Fatalf("disk.Flush: %d", failed)
	}
}

// fresh: a formatted disk, and the journal with this checkpoint on it.
func fresh(t *testing.T, check int) *pair {
	t.Helper()
	d, _ := disk.New(sectors)
	p := &pair{d: d, m: &model{}}
	blank := map[int]string{}
	for at := range sectors {
		p.m.sectors[at] = noughts
		if at >= prepares && at < headers+slots {
			blank[at] = sealed(1, "")
		}
	}
	raw(t, p, blank)
	made(t, p, open(check))
	return p
}

// made: a call is made, and answers what the chapter says, by the steps that it says.
func made(t *testing.T, p *pair, c call) {
	t.Helper()
	p.m.steps = nil
	before := p.d.Steps()
	e, failed := c.do(p)
	want, wrong := c.say(p.m)
	if e != want || failed != wrong {
		t.Fatalf("%s: %+v %d, not %+v %d", c.name, e, failed, want, wrong)
	}
	if n := p.d.Steps() - before; n != len(p.m.steps) || p.d.Pending() != 0 {
		t.Fatalf("%s: %d steps, not %d, and %d writes under way", c.name, n, len(p.m.steps), p.d.Pending())
	}
}

// same tells that a journal, or its disk, is not what the chapter says.
func same(t *testing.T, p *pair, what string) {
	t.Helper()
	if p.j.Check() != p.m.check || p.j.Head() != p.m.head() {
		t.Fatalf("%s: Check %d and Head %d, not %d and %d", what, p.j.Check(), p.j.Head(), p.m.check, p.m.head())
	}
	for n := p.m.check - 9; n <= p.m.check+18; n++ {
		want := p.m.items[n]
		if got := p.j.Item(n); got != want {
			t.Fatalf("%s: Item(%d) is %+v, not %+v", what, n, got, want)
		}
	}
	for at, want := range p.m.sectors {
		if p.d.Lasts(at) != want {
			t.Fatalf("%s: the sector %d is %x, not %x", what, at, p.d.Lasts(at), want)
		}
	}
}

// lasting: what a write leaves of a sector, by a pick.
func lasting(old, bytes string, pick int) string {
	c := 0
	switch pick = max(pick, 0); pick % 3 {
	case 1:
		c = sectorBytes
	case 2:
		c = pick / 3 % (sectorBytes + 1)
	}
	return bytes[:c] + old[c:]
}

// behind: what sectors are, when the power went at a step, and came back by these picks.
func behind(l [sectors]string, steps []step, fuse int, picks []int) [sectors]string {
	var under []step
	for _, s := range steps[:fuse-1] {
		if s.at >= 0 {
			under = append(under, s)
			continue
		}
		for _, w := range under {
			l[w.at] = w.bytes
		}
		under = nil
	}
	for k, w := range under {
		if len(picks) > 0 {
			l[w.at] = lasting(l[w.at], w.bytes, picks[k%len(picks)])
		}
	}
	return l
}

// cut: the power goes at a step of a call, and comes back by these picks; the journal is opened once more. A call of fewer steps ends, and then the power goes: did it?
func cut(t *testing.T, p *pair, c call, fuse int, picks []int) bool {
	t.Helper()
	p.m.steps = nil
	before, check := p.m.sectors, p.m.check
	p.d.Fuse(fuse)
	e, failed := c.do(p)
	want, wrong := c.say(p.m)
	done := fuse > len(p.m.steps)
	if !done {
		want, wrong = api.Entry{}, api.ErrDown
		p.m.sectors = behind(before, p.m.steps, fuse, picks)
	} else {
		check = p.m.check
		if failed := p.d.Cut(); failed != api.OK {
			t.Fatalf("%s: the power is gone: %d", c.name, failed)
		}
	}
	if e != want || failed != wrong || p.d.On() {
		t.Fatalf("%s till %d of %d steps: %+v %d, not %+v %d", c.name, fuse, len(p.m.steps), e, failed, want, wrong)
	}
	p.d.Start(picks)
	for at, want := range p.m.sectors {
		if p.d.Lasts(at) != want {
			t.Fatalf("%s till %d of %d steps, by %d: the sector %d is %x, not %x", c.name, fuse, len(p.m.steps), picks, at, p.d.Lasts(at), want)
		}
	}
	made(t, p, open(check))
	same(t, p, c.name)
	return done
}

// some: an entry whose numbers are unlike.
func some() api.Entry {
	return api.Entry{View: 9, Op: 3, Under: 8, Parent: 0xFEDCBA9876543210, Client: 7, Session: 2, Request: 5, Operation: 4, Body: "a body"}
}

// twins: two entries that are unlike, and have one stub.
func twins() (api.Entry, api.Entry) {
	e := api.Entry{View: 4, Op: 3, Under: 3, Client: 7, Session: 2, Request: 5, Operation: 4}
	twin := e
	e.Body = "\xdd\xc3\x13\x37\x87\x8b\xbf\x67\xfb\x52\x2a\xf7"
	twin.Body = "\x2e\xc2\x99\x30\x64\x00\xbb\x46\xf1\x27\xeb\x65"
	return e, twin
}

// entryAt: one that may be in a place, and looks like any.
func entryAt(op int, seed int64) api.Entry {
	r := rand.New(rand.NewSource(seed*1e6 + int64(op)))
	body := make([]byte, []int{0, 1, r.Intn(longest), longest}[r.Intn(4)])
	r.Read(body)
	e := api.Entry{
		View: r.Intn(top + 1), Op: op, Parent: r.Uint64(), Client: 1 + r.Intn(top),
		Session: r.Intn(top + 1), Request: r.Intn(top + 1), Operation: 1 + r.Intn(255), Body: string(body),
	}
	e.Under = r.Intn(e.View + 1)
	return e
}

// bad: numbers that none may be.
func bad(more ...int) []int {
	return append(more, math.MinInt, math.MinInt+1, -1<<56, -256, -8, -1, top+1, top+2, 1<<62, math.MaxInt-1, math.MaxInt)
}

// wrongEntries: some that may not be, for one reason each, most of them in the place 3.
func wrongEntries() []api.Entry {
	l := []api.Entry{{}}
	for _, x := range []struct {
		of    func(*api.Entry) *int
		wrong []int
	}{
		{func(e *api.Entry) *int { return &e.Op }, bad(0)},
		{func(e *api.Entry) *int { return &e.Client }, bad(0)},
		{func(e *api.Entry) *int { return &e.View }, bad()},
		{func(e *api.Entry) *int { return &e.Under }, bad(10, top)},
		{func(e *api.Entry) *int { return &e.Session }, bad()},
		{func(e *api.Entry) *int { return &e.Request }, bad()},
		{func(e *api.Entry) *int { return &e.Operation }, bad(0, 256, 257, top)},
	} {
		for _, n := range x.wrong {
			e := some()
			*x.of(&e) = n
			l = append(l, e)
		}
	}
	for _, n := range []int{longest + 1, 248, 249, 376, 377, 65536 + longest} {
		e := some()
		e.Body = strings.Repeat("\x00", n)
		l = append(l, e)
	}
	return l
}

// TestLimits is about these tests: their numbers are api's.
func TestLimits(t *testing.T) {
	if api.SectorBytes != sectorBytes || api.HeadBytes != headBytes || api.Sectors != sectors || api.Slots != slots || api.MaxNumber != top || api.MaxBody != longest {
		t.Error("another limit")
	}
	if api.Copies != prepares || api.Copies+api.Slots != headers || api.Lacks != 0 || api.Holds != 1 || api.Faulty != 2 || api.Unsure != 3 {
		t.Error("another place, or another kind")
	}
	e, twin := twins()
	if e == twin || stubOf(e) != stubOf(twin) || !mayBe(e) || !mayBe(twin) {
		t.Error("no twins")
	}
	for _, e := range wrongEntries() {
		if mayBe(e) {
			t.Errorf("%+v may be", e)
		}
	}
}

// is tells that a journal is something else, by its own calls: what isn't named of the window is lacked.
func is(t *testing.T, j *journal.Journal, check, head int, items map[int]api.Item) {
	t.Helper()
	if j.Check() != check || j.Head() != head {
		t.Errorf("Check %d and Head %d, not %d and %d", j.Check(), j.Head(), check, head)
	}
	for n := check - 8; n <= check+17; n++ {
		if got := j.Item(n); got != items[n] {
			t.Errorf("Item(%d): %+v, not %+v", n, got, items[n])
		}
	}
}

// well tells of an error.
func well(t *testing.T, failed api.Errno) {
	t.Helper()
	if failed != api.OK {
		t.Fatalf("the error %d", failed)
	}
}

// wrong tells that an error is another.
func wrong(t *testing.T, what string, failed, want api.Errno) {
	t.Helper()
	if failed != want {
		t.Errorf("%s: %d, not %d", what, failed, want)
	}
}

// TestExamples is the chapter's.
func TestExamples(t *testing.T) {
	d, _ := disk.New(sectors)
	well(t, journal.Format(d))
	j, failed := journal.Open(d, 0)
	well(t, failed)
	is(t, j, 0, 0, nil)
	var before [sectors]string
	for at := range sectors {
		before[at] = d.Lasts(at)
	}
	e := api.Entry{Op: 1, Client: 7, Operation: 1}
	well(t, j.Put(e))
	is(t, j, 0, 1, map[int]api.Item{1: holds(e)})
	for at := range sectors {
		if (d.Lasts(at) != before[at]) != (at == 5 || at == 13) {
			t.Errorf("the sector %d", at)
		}
	}
}

// TestKnown is P13.1 and P13.3 by bytes that were reckoned apart from this program.
func TestKnown(t *testing.T) {
	d, _ := disk.New(sectors)
	well(t, journal.Format(d))
	j, failed := journal.Open(d, 0)
	well(t, failed)
	e := api.Entry{Op: 1, Client: 7, Operation: 1}
	well(t, j.Put(e))
	stub := api.Stub{Op: 1, Sum: 0xC8896F53ECA4F2AD}
	is(t, j, 0, 1, map[int]api.Item{1: {Kind: api.Holds, Stub: stub, Entry: e}})
	beginsAndEnds(t, d.Lasts(5), "028000eb95ba9300000000ff0001000000000000000000000000000000000000", "2d2bbf1c02")
	beginsAndEnds(t, d.Lasts(13), "0228000100000000000000000000000000000000000000000000000000000000000000adf2a4ec536f89c8", "e01d3d2202")
	other := api.Entry{View: 258, Op: 1, Under: 1, Parent: 0x0102030405060708, Client: 11, Session: 5, Request: 1, Operation: 3, Body: "\x00"}
	well(t, j.Put(other)) // the header sector is laid void first: its ends are one more
	beginsAndEnds(t, d.Lasts(5), "03810053e74f1051537d52ff0003000100000008070605040302010201", "bab1f31a03")
	beginsAndEnds(t, d.Lasts(13), "04280001000000000000000201000000000000010000000000000008070605040302013b3b2eabf0a69452", "2901cc9404")
	well(t, j.Void(1))
	beginsAndEnds(t, d.Lasts(5), "040000", "54337f9204")
	beginsAndEnds(t, d.Lasts(13), "050000", "d80fd39105")
	is(t, j, 0, 0, nil)
}

// beginsAndEnds tells that a sector has other bytes at its ends.
func beginsAndEnds(t *testing.T, sector, first, last string) {
	t.Helper()
	got := hex.EncodeToString([]byte(sector))
	if len(sector) != sectorBytes || !strings.HasPrefix(got, first) || !strings.HasSuffix(got, last) {
		t.Errorf("%s, not %s..%s", got, first, last)
	}
}

// TestFormat is P13.1: whatever the disk had, void sectors sealed over it, slot by slot, the prepare sector first, and a flush behind all; the others stay.
func TestFormat(t *testing.T) {
	format := plain("Format", func(p *pair) api.Errno { return journal.Format(p.d) }, func(m *model) api.Errno { m.format(); return api.OK })
	build := func() *pair {
		d, _ := disk.New(sectors)
		p := &pair{d: d, m: &model{}}
		had := map[int]string{}
		for at := range sectors {
			had[at] = turned(sealed(byte(17*at), entryBytes(entryAt(1+at, 5))), 100+at, 9)
		}
		raw(t, p, had)
		return p
	}
	p := build()
	made(t, p, format)
	if len(p.m.steps) != 17 {
		t.Errorf("%d steps", len(p.m.steps))
	}
	made(t, p, open(0))
	if len(p.m.steps) != 0 {
		t.Errorf("then %d steps", len(p.m.steps))
	}
	same(t, p, "Format")
	is(t, p.j, 0, 0, nil)
	for fuse := 1; fuse <= 18; fuse++ {
		for _, picks := range [][]int{nil, {1}, {0, 1}, {1, 0}, {2 + 3*200}, {1, 1, 0, 2 + 3*5}} {
			cut(t, build(), format, fuse, picks)
		}
	}
}

// TestOpenNoughts is P13.1: of a disk that was never formatted each slot is unsure, and nothing is laid.
func TestOpenNoughts(t *testing.T) {
	d, _ := disk.New(sectors)
	j, failed := journal.Open(d, 0)
	well(t, failed)
	want := map[int]api.Item{}
	for n := 1; n <= 8; n++ {
		want[n] = unsure()
	}
	is(t, j, 0, 0, want)
	if d.Steps() != 0 {
		t.Errorf("%d steps", d.Steps())
	}
}

// TestOpenChecks is P13.1: a checkpoint is 0 to MaxNumber less 8; one that can't be is told ahead of the disk's errors.
func TestOpenChecks(t *testing.T) {
	p := fresh(t, 0)
	off, _ := disk.New(sectors)
	off.Cut()
	for _, check := range bad(lastCheck+1, lastCheck+2, lastCheck+7, top-1, top) {
		for _, d := range []*disk.Disk{p.d, nil, off} {
			if j, failed := journal.Open(d, check); j != nil || failed != api.ErrArg {
				t.Errorf("Open at %d: %v %d", check, j, failed)
			}
		}
	}
	for _, check := range []int{0, 1, 7, 8, 9, 255, 1 << 32, lastCheck - 1, lastCheck} {
		p := fresh(t, check)
		made(t, p, open(check))
		same(t, p, "Open")
		is(t, p.j, check, check, nil)
		made(t, p, put(entryAt(check+8, 1)))
		same(t, p, "Put")
		is(t, p.j, check, check+8, map[int]api.Item{check + 8: holds(entryAt(check+8, 1))})
		made(t, p, put(entryAt(check+1, 1)))
		same(t, p, "Put")
	}
}

// TestOpenMends is P13.1 by hand: what a slot is for its operation, and which of its sectors are laid, and with what.
func TestOpenMends(t *testing.T) {
	e, other, later := some(), some(), entryAt(11, 1)
	other.View++
	entryOf := func(e api.Entry) string { return sealed(7, entryBytes(e)) }
	stubFor := func(e api.Entry) string { return sealed(7, stubText(stubOf(e))) }
	empty := sealed(7, "")
	for i, x := range []struct {
		p, h   string
		want   api.Item
		pSince string // "": it stays
		hSince string
	}{
		{entryOf(e), stubFor(e), holds(e), "", ""},
		{entryOf(e), noughts, holds(e), "", sealed(1, stubText(stubOf(e)))},
		{entryOf(e), entryOf(e), holds(e), "", sealed(8, stubText(stubOf(e)))},
		{entryOf(other), stubFor(e), faulty(e), "", ""},
		{entryOf(later), stubFor(e), faulty(e), "", ""},
		{empty, stubFor(e), faulty(e), "", ""},
		{noughts, stubFor(e), faulty(e), "", ""},
		{entryOf(e), empty, api.Item{}, sealed(8, ""), ""},
		{entryOf(e), stubFor(later), api.Item{}, sealed(8, ""), ""},
		{entryOf(later), stubFor(later), api.Item{}, "", ""},
		{entryOf(later), empty, api.Item{}, "", ""},
		{entryOf(later), noughts, api.Item{}, "", sealed(1, "")},
		{empty, noughts, api.Item{}, "", sealed(1, "")},
		{noughts, empty, api.Item{}, sealed(1, ""), ""},
		{noughts, stubFor(later), api.Item{}, sealed(1, ""), ""},
		{empty, empty, api.Item{}, "", ""},
		{noughts, noughts, unsure(), "", ""},
		{stubFor(e), entryOf(e), unsure(), "", ""},
	} {
		p := fresh(t, 0)
		raw(t, p, map[int]string{7: x.p, 15: x.h})
		j, failed := journal.Open(p.d, 0)
		well(t, failed)
		if got := j.Item(3); got != x.want {
			t.Errorf("%d: %+v, not %+v", i, got, x.want)
		}
		if got := p.d.Lasts(7); got != cmp.Or(x.pSince, x.p) {
			t.Errorf("%d: the prepare sector is %x", i, got)
		}
		if got := p.d.Lasts(15); got != cmp.Or(x.hSince, x.h) {
			t.Errorf("%d: the header sector is %x", i, got)
		}
	}
}

// TestWindow is P13.2 and P13.3: of what is not in the window there is no item, and nothing is put, voided or read; the slot of each that is there is that of its remainder.
func TestWindow(t *testing.T) {
	for _, check := range []int{0, 1, 5, 8, 1 << 20, lastCheck} {
		p := fresh(t, check)
		for n := check + 1; n <= check+8; n++ {
			e := entryAt(n, 3)
			made(t, p, put(e))
			same(t, p, "Put")
			if got, _ := entryIn(p.d.Lasts(prepares + n%8)); got != e {
				t.Errorf("the entry %d is elsewhere", n)
			}
			if got, _ := stubIn(p.d.Lasts(headers + n%8)); got != stubOf(e) {
				t.Errorf("the stub %d is elsewhere", n)
			}
		}
		steps := p.d.Steps()
		for _, n := range append(bad(0), check-1, check, check+9, check+10, check-7, check+16, 1<<32+check+1) {
			if got := p.j.Item(n); n <= check || n > check+8 {
				if got != (api.Item{}) {
					t.Errorf("Item(%d): %+v", n, got)
				}
				wrong(t, "Void", p.j.Void(n), api.ErrArg)
				if e, failed := p.j.Read(n); e != (api.Entry{}) || failed != api.ErrArg {
					t.Errorf("Read(%d): %+v %d", n, e, failed)
				}
				if e := entryAt(n, 3); mayBe(e) {
					wrong(t, "Put", p.j.Put(e), api.ErrArg)
				}
			}
		}
		same(t, p, "what is not in the window")
		if p.d.Steps() != steps {
			t.Errorf("%d steps", p.d.Steps()-steps)
		}
	}
}

// TestWrongEntries is P13.3: an entry that may not be is refused, ahead of one that is not in the window, and nothing is done.
func TestWrongEntries(t *testing.T) {
	for _, check := range []int{0, 3, 100} {
		p := fresh(t, check)
		steps := p.d.Steps()
		for _, e := range wrongEntries() {
			wrong(t, "Put", p.j.Put(e), api.ErrForm)
		}
		same(t, p, "wrong entries")
		if p.d.Steps() != steps {
			t.Error("something was laid")
		}
	}
}

// TestHead is P13.2: the greatest operation that is held, or faulty, whatever lacks, or is unsure of, what is ahead of it and behind.
func TestHead(t *testing.T) {
	for _, check := range []int{0, 5, 8, 4093} {
		for kinds := range 1 << 8 { // two bits each of four operations of the window
			p := fresh(t, check)
			places := []int{check + 1, check + 3, check + 7, check + 8}
			head, want := check, map[int]api.Item{}
			for i, n := range places {
				e := entryAt(n, 1)
				at, beside := slot(n)
				switch kinds >> (2 * i) % 4 {
				case api.Holds:
					raw(t, p, map[int]string{at: sealed(3, entryBytes(e)), beside: sealed(3, stubText(stubOf(e)))})
					head, want[n] = n, holds(e)
				case api.Faulty:
					raw(t, p, map[int]string{at: noughts, beside: sealed(3, stubText(stubOf(e)))})
					head, want[n] = n, faulty(e)
				case api.Unsure:
					raw(t, p, map[int]string{at: noughts, beside: noughts})
					want[n] = unsure()
				}
			}
			made(t, p, open(check))
			is(t, p.j, check, head, want)
		}
	}
}

// kinds: what a slot is in the journal, before a call: by its place 0 to 4 lacked, held, faulty, unsure, and held by the twin.
const kinds = 5

// slotWith: a journal whose slot 3 is of a kind for the operation n, with the entry e, and whose sectors then became others.
func slotWith(t *testing.T, kind int, e, twin api.Entry, p, h string) *pair {
	t.Helper()
	x := fresh(t, e.Op-3)
	at, beside := slot(e.Op)
	switch kind {
	case 1:
		made(t, x, put(e))
	case 2:
		made(t, x, put(e))
		raw(t, x, map[int]string{at: noughts})
		made(t, x, read(e.Op))
	case 3:
		raw(t, x, map[int]string{at: noughts, beside: noughts})
		made(t, x, open(e.Op-3))
	case 4:
		made(t, x, put(twin))
	}
	raw(t, x, map[int]string{at: p, beside: h})
	return x
}

// sectorsFor: a slot's prepare sectors, and its header sectors, of all kinds for the entry e.
func sectorsFor(e, twin api.Entry) ([]string, []string) {
	later, other := entryAt(e.Op+8, 1), e
	other.View++
	p := []string{noughts, turned(sealed(2, entryBytes(e)), 140, 4), sealed(7, stubText(stubOf(e)))}
	h := []string{noughts, turned(sealed(2, stubText(stubOf(e))), 20, 4), sealed(7, entryBytes(e))}
	for i, x := range []api.Entry{e, twin, other, later} {
		p = append(p, sealed(byte(255+i), entryBytes(x)))
		if x != twin {
			h = append(h, sealed(byte(60+i), stubText(stubOf(x))))
		}
	}
	near := stubOf(e)
	near.Sum ^= 1 << 63
	return append(p, sealed(9, "")), append(h, sealed(9, ""), sealed(9, stubText(near)))
}

// callsFor: all calls on the slot of the entry e, and such as make another checkpoint.
func callsFor(e, twin api.Entry) []call {
	other, later := e, entryAt(e.Op+8, 1)
	other.View++
	return []call{
		put(e), put(twin), put(other), void(e.Op), read(e.Op), scrub(), shift(e.Op - 1), shift(e.Op), put(later),
		open(e.Op - 3), open(e.Op - 1), open(e.Op), open(e.Op + 3),
	}
}

// TestSlot is P13.1 to P13.5: whatever a slot is, and whatever its sectors became, each call does, answers and knows what the chapter says; and two of them do.
func TestSlot(t *testing.T) {
	e, twin := twins()
	ps, hs := sectorsFor(e, twin)
	for kind := range kinds {
		for _, p := range ps {
			for _, h := range hs {
				for i := range callsFor(e, twin) {
					x := slotWith(t, kind, e, twin, p, h)
					c := callsFor(e, twin)[i]
					made(t, x, c)
					same(t, x, c.name)
					for _, next := range []call{callsFor(e, twin)[(i*5+kind)%13], scrub(), read(e.Op), shift(e.Op), scrub()} {
						made(t, x, next)
						same(t, x, c.name+" and "+next.name)
					}
				}
			}
		}
	}
}

// TestSlotPower is P13.1 to P13.5: step by step, wherever the power goes, the sectors are laid one behind the other as the chapter says.
func TestSlotPower(t *testing.T) {
	e, twin := twins()
	ps, hs := sectorsFor(e, twin)
	for kind := range kinds {
		for i, p := range ps {
			for k, h := range hs {
				if (i+k)%3 != 0 {
					continue
				}
				for at := range 6 {
					for fuse := 1; fuse <= 7; fuse++ {
						x := slotWith(t, kind, e, twin, p, h)
						c := callsFor(e, twin)[at]
						if cut(t, x, c, fuse, []int{2 + 3*(1+(61*fuse+17*i+k)%383)}) {
							break
						}
					}
				}
			}
		}
	}
}

// TestPutLays is P13.3 by hand: which sectors are laid for an entry, and in which order.
func TestPutLays(t *testing.T) {
	e := some()
	other := e
	other.View++
	for _, x := range []struct {
		name  string
		first func(p *pair)
		then  call
		want  []int // sectors
	}{
		{"lacked", func(p *pair) {}, put(e), []int{7, 15}},
		{"held", func(p *pair) { made(t, p, put(e)) }, put(e), nil},
		{"another one held", func(p *pair) { made(t, p, put(other)) }, put(e), []int{15, 7, 15}},
		{"faulty", func(p *pair) { made(t, p, put(e)); rot(t, p, 7); made(t, p, scrub()) }, put(e), []int{7}},
		{"another one faulty", func(p *pair) { made(t, p, put(other)); rot(t, p, 7); made(t, p, scrub()) }, put(e), []int{15, 7, 15}},
		{"unsure", func(p *pair) { made(t, p, put(e)); rot(t, p, 7); rot(t, p, 15); made(t, p, open(0)) }, put(e), []int{7, 15}},
		{"void lacked", func(p *pair) {}, void(3), nil},
		{"void held", func(p *pair) { made(t, p, put(e)) }, void(3), []int{15, 7}},
		{"void faulty", func(p *pair) { made(t, p, put(e)); rot(t, p, 7); made(t, p, scrub()) }, void(3), []int{15, 7}},
		{"void unsure", func(p *pair) { made(t, p, put(e)); rot(t, p, 7); rot(t, p, 15); made(t, p, open(0)) }, void(3), []int{7, 15}},
	} {
		for fuse := 1; fuse <= 2*len(x.want); fuse++ {
			p := fresh(t, 0)
			x.first(p)
			before := p.m.sectors
			p.d.Fuse(fuse)
			if _, failed := x.then.do(p); failed != api.ErrDown {
				t.Fatalf("%s: %d", x.name, failed)
			}
			p.d.Start([]int{1})
			for at := range sectors {
				if (p.d.Lasts(at) != before[at]) != slices.Contains(x.want[:fuse/2], at) {
					t.Errorf("%s till %d: the sector %d", x.name, fuse, at)
				}
			}
		}
		p := fresh(t, 0)
		x.first(p)
		made(t, p, x.then)
		same(t, p, x.name)
		if len(p.m.steps) != 2*len(x.want) {
			t.Errorf("%s: %d steps", x.name, len(p.m.steps))
		}
		if x.then.name == "Put" {
			is(t, p.j, 0, 3, map[int]api.Item{3: holds(e)})
		} else {
			is(t, p.j, 0, 0, nil)
		}
	}
}

// rot: a byte of a sector is turned, unless the sector has a mark.
func rot(t *testing.T, p *pair, at int) {
	t.Helper()
	rotByte(t, p, at, 3+at*11, 1)
}

func rotByte(t *testing.T, p *pair, at, i int, mask byte) {
	t.Helper()
	switch failed := p.d.Rot(at, i, int(mask)); failed {
	case api.OK:
		p.m.sectors[at] = turned(p.m.sectors[at], i, mask)
	case api.ErrTwice:
	default:
		t.Fatalf("disk.Rot: %d", failed)
	}
}

// TestShift is P13.4: a checkpoint is what it was, to MaxNumber less 8; what was not in the window ahead is lacked, though it stands on the disk; the disk is not asked.
func TestShift(t *testing.T) {
	for _, check := range []int{0, 1, 6, 8, 1000, lastCheck - 20} {
		for far := range 20 {
			p := fresh(t, check)
			want := map[int]api.Item{}
			for n := check + 1; n <= check+8; n++ {
				if n%3 != 0 {
					made(t, p, put(entryAt(n, 1)))
					if n > check+far {
						want[n] = holds(entryAt(n, 1))
					}
				}
			}
			steps := p.d.Steps()
			p.d.Cut()
			well(t, p.j.Shift(check+far))
			head := check + far
			for n := range want {
				head = max(head, n)
			}
			is(t, p.j, check+far, head, want)
			for _, wrongCheck := range append(bad(lastCheck+1, top), check+far-1, check-1) {
				wrong(t, "Shift", p.j.Shift(wrongCheck), api.ErrArg)
			}
			is(t, p.j, check+far, head, want)
			well(t, p.j.Shift(check+far))
			is(t, p.j, check+far, head, want)
			if p.d.Steps() != steps {
				t.Error("the disk was asked")
			}
		}
	}
	p := fresh(t, 0)
	made(t, p, put(entryAt(8, 1)))
	for _, check := range []int{1, 1 << 40, lastCheck - 1, lastCheck, lastCheck} {
		made(t, p, shift(check))
		same(t, p, "Shift")
	}
	wrong(t, "Shift", p.j.Shift(lastCheck-1), api.ErrArg)
	wrong(t, "Shift", p.j.Shift(lastCheck+1), api.ErrArg)
}

// TestShiftStands is P13.4 and P13.5: what stands on the disk for an operation that came into the window is lacked, and cleaned.
func TestShiftStands(t *testing.T) {
	p := fresh(t, 8)
	e := entryAt(11, 1)
	made(t, p, put(e))
	made(t, p, open(0)) // a checkpoint ahead
	is(t, p.j, 0, 0, nil)
	well(t, p.j.Shift(8))
	is(t, p.j, 8, 8, nil)
	if got, failed := p.j.Read(11); got != (api.Entry{}) || failed != api.ErrNone {
		t.Errorf("Read: %+v %d", got, failed)
	}
	made(t, p, open(8))
	is(t, p.j, 8, 11, map[int]api.Item{11: holds(e)})
	made(t, p, open(0))
	made(t, p, shift(8))
	made(t, p, scrub())
	same(t, p, "Scrub")
	if text, ok := opened(p.d.Lasts(7)); text != "" || !ok {
		t.Error("the prepare sector is not cleaned")
	}
	if text, ok := opened(p.d.Lasts(15)); text != "" || !ok {
		t.Error("the header sector is not cleaned")
	}
}

// TestRead is P13.4: the disk's entry; a slot that lost it is faulty from then on.
func TestRead(t *testing.T) {
	e := some()
	p := fresh(t, 0)
	for n := 1; n <= 8; n++ {
		if got, failed := p.j.Read(n); got != (api.Entry{}) || failed != api.ErrNone {
			t.Errorf("Read(%d): %+v %d", n, got, failed)
		}
	}
	made(t, p, put(e))
	for range 2 {
		if got, failed := p.j.Read(3); got != e || failed != api.OK {
			t.Errorf("Read: %+v %d", got, failed)
		}
	}
	rot(t, p, 15) // the header sector is not asked
	if got, failed := p.j.Read(3); got != e || failed != api.OK {
		t.Errorf("Read: %+v %d", got, failed)
	}
	rot(t, p, 7)
	is(t, p.j, 0, 3, map[int]api.Item{3: holds(e)})
	for range 2 {
		if got, failed := p.j.Read(3); got != (api.Entry{}) || failed != api.ErrLost {
			t.Errorf("Read: %+v %d", got, failed)
		}
		is(t, p.j, 0, 3, map[int]api.Item{3: faulty(e)})
	}
	raw(t, p, map[int]string{7: sealed(1, entryBytes(e))}) // it is faulty till it is put once more, or opened
	if got, failed := p.j.Read(3); got != (api.Entry{}) || failed != api.ErrLost {
		t.Errorf("Read: %+v %d", got, failed)
	}
	well(t, p.j.Put(e))
	if got, failed := p.j.Read(3); got != e || failed != api.OK {
		t.Errorf("Read: %+v %d", got, failed)
	}
}

// TestScrub is P13.5: whichever sectors of all slots rotted.
func TestScrub(t *testing.T) {
	for seed := range 300 {
		r := rand.New(rand.NewSource(int64(seed)))
		check := []int{0, 3, 8, 77}[r.Intn(4)]
		p := fresh(t, check)
		for n := check + 1; n <= check+8; n++ {
			if r.Intn(3) > 0 {
				made(t, p, put(entryAt(n, int64(seed))))
			}
		}
		for at := prepares; at < headers+slots; at++ {
			if r.Intn(3) == 0 {
				rotByte(t, p, at, r.Intn(sectorBytes), byte(1+r.Intn(255)))
			}
		}
		for range 2 {
			made(t, p, scrub())
			same(t, p, "Scrub")
		}
		if len(p.m.steps) != 0 {
			t.Fatalf("a scrub behind a scrub takes %d steps", len(p.m.steps))
		}
		for n := check + 1; n <= check+8; n++ {
			at, beside := slot(n)
			item := p.j.Item(n)
			if s, can := stubIn(p.d.Lasts(beside)); !can || s != item.Stub {
				t.Fatalf("the slot of %d is %+v, and its header sector has %+v", n, item, s)
			}
			if e, can := entryIn(p.d.Lasts(at)); can == (item.Kind == api.Faulty) || e != item.Entry {
				t.Fatalf("the slot of %d is %+v, and its prepare sector has %+v", n, item, e)
			}
		}
	}
}

// TestNil is the chapter's words on a journal that is not there.
func TestNil(t *testing.T) {
	var j *journal.Journal
	if j.Check() != 0 || j.Head() != 0 || j.Item(0) != (api.Item{}) || j.Item(1) != (api.Item{}) {
		t.Error("something of nobody")
	}
	wrong(t, "Put", j.Put(some()), api.ErrNil)
	wrong(t, "Put", j.Put(api.Entry{}), api.ErrNil)
	wrong(t, "Void", j.Void(1), api.ErrNil)
	wrong(t, "Void", j.Void(-1), api.ErrNil)
	wrong(t, "Shift", j.Shift(0), api.ErrNil)
	wrong(t, "Shift", j.Shift(-1), api.ErrNil)
	wrong(t, "Scrub", j.Scrub(), api.ErrNil)
	for _, n := range []int{-1, 0, 1} {
		if e, failed := j.Read(n); e != (api.Entry{}) || failed != api.ErrNil {
			t.Errorf("Read(%d): %+v %d", n, e, failed)
		}
	}
}

// TestNoDisk is P13.1 on disks that are not there, have no power, or lack a slot's sectors: the first error is the answer.
func TestNoDisk(t *testing.T) {
	wrong(t, "Format", journal.Format(nil), api.ErrNil)
	if j, failed := journal.Open(nil, 0); j != nil || failed != api.ErrNil {
		t.Errorf("Open: %v %d", j, failed)
	}
	off, _ := disk.New(sectors)
	off.Cut()
	wrong(t, "Format", journal.Format(off), api.ErrDown)
	if j, failed := journal.Open(off, 0); j != nil || failed != api.ErrDown {
		t.Errorf("Open: %v %d", j, failed)
	}
	for n := 1; n <= 22; n++ {
		d, _ := disk.New(n)
		want, writes := api.ErrArg, 2*max(0, n-headers)
		if n >= headers+slots {
			want, writes = api.OK, 0 // all are flushed
		}
		wrong(t, "Format", journal.Format(d), want)
		if d.Pending() != writes {
			t.Errorf("Format of %d sectors: %d writes under way", n, d.Pending())
		}
		j, failed := journal.Open(d, 0)
		if (j == nil) != (want != api.OK) || failed != want {
			t.Errorf("Open of %d sectors: %v %d", n, j, failed)
		}
	}
}

// TestNoPower is the chapter's words on a disk's errors: who asks the disk is told them; who doesn't ask it is not.
func TestNoPower(t *testing.T) {
	e, other := entryAt(3, 1), entryAt(3, 2)
	p := fresh(t, 0)
	made(t, p, put(e))
	made(t, p, put(entryAt(5, 1)))
	rot(t, p, prepares+5)
	made(t, p, read(5))
	p.d.Cut()
	want := map[int]api.Item{3: holds(e), 5: faulty(entryAt(5, 1))}
	for range 2 {
		is(t, p.j, 0, 5, want)
		well(t, p.j.Put(e)) // it is there already
		well(t, p.j.Void(4))
		wrong(t, "Put", p.j.Put(api.Entry{}), api.ErrForm)
		wrong(t, "Put", p.j.Put(entryAt(9, 1)), api.ErrArg)
		wrong(t, "Void", p.j.Void(9), api.ErrArg)
		for n, failed := range map[int]api.Errno{0: api.ErrArg, 3: api.ErrDown, 4: api.ErrNone, 5: api.ErrLost, 9: api.ErrArg} {
			if got, alsoFailed := p.j.Read(n); got != (api.Entry{}) || alsoFailed != failed {
				t.Errorf("Read(%d): %+v %d", n, got, alsoFailed)
			}
		}
	}
	for _, call := range []func() api.Errno{
		func() api.Errno { return p.j.Put(other) },
		func() api.Errno { return p.j.Put(entryAt(4, 1)) },
		func() api.Errno { return p.j.Put(entryAt(5, 1)) },
		func() api.Errno { return p.j.Void(3) },
		func() api.Errno { return p.j.Void(5) },
		p.j.Scrub,
	} {
		wrong(t, "without power", call(), api.ErrDown)
		is(t, p.j, 0, 5, want)
	}
}

// TestScrubAsks is P13.5: both sectors of each slot are read, of one that is unsure, or faulty, too.
func TestScrubAsks(t *testing.T) {
	for s := range slots {
		d, _ := disk.New(sectors)
		j, failed := journal.Open(d, 0)
		well(t, failed)
		if s > 0 {
			well(t, d.Write(headers+s, sealed(1, stubText(stubOf(entryAt(s, 1))))))
			j, failed = journal.Open(d, 0)
			well(t, failed)
		}
		well(t, j.Scrub())
		well(t, d.Cut())
		wrong(t, "Scrub", j.Scrub(), api.ErrDown)
	}
}

// picks: what can become of a write that was under way, a tear at each end of what stands there among it.
func picks() []int {
	l := []int{0, 1}
	for _, c := range []int{0, 1, 2, 3, 10, 42, 43, 44, 131, 200, 379, 382, 383, 384} {
		l = append(l, 2+3*c)
	}
	return l
}

// still tells that what was kept is lacked, or is another, though it was only some sectors that rotted.
func still(t *testing.T, p *pair, e api.Entry, rotted bool, what string) {
	t.Helper()
	got := p.j.Item(e.Op)
	if got != holds(e) && (!rotted || got != faulty(e) && got != unsure()) {
		t.Fatalf("%s: %+v, not %+v", what, got, holds(e))
	}
}

// TestKept is P13.6: what was put is held, wherever the power goes in any later call, unless its sectors rot; then it is faulty, or unsure, or held.
func TestKept(t *testing.T) {
	e, other := entryAt(3, 1), entryAt(4, 9)
	other.Op = 4
	calls := []call{
		put(e), put(entryAt(2, 1)), put(entryAt(4, 1)), put(entryAt(8, 1)), put(other), void(2), void(4), void(8),
		shift(1), shift(2), scrub(), open(0), open(1), open(2), read(3), read(4),
	}
	for mask := range 4 { // which of its sectors rot
		for when := range 2 { // ahead of the call, or behind the loss of power
			for _, c := range calls {
				for fuse := 1; fuse <= 7; fuse++ {
					for _, pick := range picks() {
						p := fresh(t, 0)
						made(t, p, put(e))
						made(t, p, put(entryAt(4, 1)))
						if when == 0 {
							rotBoth(t, p, mask)
						}
						done := cut(t, p, c, fuse, []int{pick})
						if when == 1 {
							rotBoth(t, p, mask)
							made(t, p, open(p.m.check))
						}
						still(t, p, e, mask != 0, c.name)
						made(t, p, scrub())
						still(t, p, e, mask != 0, c.name+" and Scrub")
						if done {
							break
						}
					}
				}
			}
		}
	}
}

// rotBoth: the sectors of the slot 3 rot, or one of them.
func rotBoth(t *testing.T, p *pair, mask int) {
	t.Helper()
	for i, at := range []int{7, 15} {
		if mask>>i&1 == 1 {
			rot(t, p, at)
		}
	}
}

// TestWalk is P13.1 to P13.6: calls as they come, with losses of power and sectors that rot, against the chapter's words; what was kept is never lacked, and without rot nothing is faulty or unsure.
func TestWalk(t *testing.T) {
	for seed := range 160 {
		r := rand.New(rand.NewSource(int64(seed)))
		check := []int{0, 0, 3, 1 << 40, lastCheck - 5}[r.Intn(5)]
		p := fresh(t, check)
		w := walk{p: p, kept: map[int]api.Entry{}, rotted: map[int]bool{}, rots: seed%2 == 1}
		for range 80 {
			w.go1(t, r)
			same(t, p, "the walk")
			w.asPromised(t)
		}
	}
}

// walk is a pair on its way, and what it must have kept.
type walk struct {
	p      *pair
	kept   map[int]api.Entry
	rotted map[int]bool // by operation: a sector of its slot did
	rots   bool
}

// go1: one thing happens.
func (w *walk) go1(t *testing.T, r *rand.Rand) {
	t.Helper()
	p := w.p
	n := p.m.check + r.Intn(10)
	var c call
	var e api.Entry
	switch r.Intn(10) {
	case 0, 1, 2, 3:
		e = entryAt(max(1, n), int64(r.Intn(3)))
		c = put(e)
	case 4:
		c = void(n)
	case 5:
		c = read(n)
	case 6:
		c = scrub()
	case 7:
		c = shift(p.m.check + r.Intn(3) - 1)
	case 8:
		c = open(p.m.check)
	case 9:
		if w.rots {
			w.rotOne(t, r)
		}
		return
	}
	if c.name == "Void" || c.name == "Put" && w.kept[e.Op] != e {
		delete(w.kept, n)
		delete(w.kept, e.Op)
	}
	had := p.m.check
	if r.Intn(3) == 0 {
		fuse := 1 + r.Intn(7)
		if !cut(t, p, c, fuse, []int{[]int{0, 1, 2 + 3*r.Intn(385)}[r.Intn(3)]}) {
			e = api.Entry{}
		}
	} else {
		made(t, p, c)
	}
	if e.Op > had && e.Op <= had+8 {
		w.kept[e.Op] = e
		if !w.rots {
			delete(w.rotted, e.Op)
		}
	}
	for n := range w.kept {
		if n <= p.m.check {
			delete(w.kept, n)
		}
	}
}

// rotOne: a sector of the journal does.
func (w *walk) rotOne(t *testing.T, r *rand.Rand) {
	t.Helper()
	at := prepares + r.Intn(2*slots)
	rotByte(t, w.p, at, r.Intn(sectorBytes), byte(1+r.Intn(255)))
	for n := w.p.m.check + 1; n <= w.p.m.check+8; n++ {
		if at, beside := slot(n); w.p.d.Marked(at) || w.p.d.Marked(beside) {
			w.rotted[n] = true
		}
	}
}

// asPromised is P13.6.
func (w *walk) asPromised(t *testing.T) {
	t.Helper()
	for _, e := range w.kept {
		still(t, w.p, e, w.rots && w.rotted[e.Op], "the walk")
	}
	for n := w.p.m.check + 1; n <= w.p.m.check+8; n++ {
		if kind := w.p.j.Item(n).Kind; !w.rots && kind != api.Lacks && kind != api.Holds {
			t.Fatalf("nothing rotted, and the slot of %d is %d", n, kind)
		}
	}
}

// TestApartFromEachOther is rule 4: two journals know nothing of each other.
func TestApartFromEachOther(t *testing.T) {
	p, q := fresh(t, 0), fresh(t, 8)
	made(t, p, put(entryAt(3, 1)))
	made(t, q, put(entryAt(11, 1)))
	made(t, q, shift(10))
	made(t, p, void(3))
	made(t, p, put(entryAt(4, 1)))
	same(t, p, "the one")
	same(t, q, "the other")
}

// TestApart is the rules: what is handed in is neither changed nor kept.
func TestApart(t *testing.T) {
	p := fresh(t, 0)
	body := []byte(some().Body)
	e := some()
	e.Body = unsafe.String(&body[0], len(body))
	well(t, p.j.Put(e))
	if string(body) != some().Body {
		t.Fatal("a body was changed")
	}
	clear(body)
	is(t, p.j, 0, 3, map[int]api.Item{3: holds(some())})
	if got, failed := p.j.Read(3); got != some() || failed != api.OK {
		t.Errorf("Read: %+v %d", got, failed)
	}
}

// TestTextsApart is the rules: no two answers share a text's memory, nor does one with what was handed in.
func TestTextsApart(t *testing.T) {
	p := fresh(t, 0)
	e := some()
	well(t, p.j.Put(e))
	places := map[*byte]bool{unsafe.StringData(e.Body): true}
	for range 2 {
		for range 2 {
			got, _ := p.j.Read(3)
			for _, text := range []string{got.Body, p.j.Item(3).Entry.Body} {
				places[unsafe.StringData(text)] = true
			}
		}
		made(t, p, open(0))
	}
	if len(places) != 9 {
		t.Errorf("%d texts, not 9", len(places))
	}
	one := p.j.Item(3)
	body := unsafe.Slice(unsafe.StringData(one.Entry.Body), len(one.Entry.Body))
	clear(body)
	is(t, p.j, 0, 3, map[int]api.Item{3: holds(e)})
}
