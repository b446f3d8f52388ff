package store_test

import (
	"encoding/binary"
	"encoding/hex"
	"fmt"
	"hash/crc32"
	"math"
	"math/rand"
	"slices"
	"strings"
	"testing"
	"unsafe"

	"comptor/api"
	"comptor/disk"
	"comptor/entry"
	"comptor/grid"
	"comptor/journal"
	"comptor/machine"
	"comptor/store"
	"comptor/super"
)

const (
	sectorBytes = 384
	sectors     = 32
	copies      = 4
	slots       = 8
	prepares    = 4  // where the prepare sectors begin
	headers     = 12 // where the header sectors begin
	areas       = 20 // where the areas begin
	blocks      = 6
	blockBytes  = 320
	mostSize    = 1920
	top         = 1<<56 - 1
	lastCheck   = top - slots
	newBytes    = 31   // of a machine that did nothing
	fullBytes   = 1445 // of the fullest machine
	longest     = 200  // bytes of a reply, and of a body
)

var noughts = strings.Repeat("\x00", sectorBytes)

// little: numbers by the library, the lowest byte first.
func little(l ...uint64) string {
	var b []byte
	for _, n := range l {
		b = binary.LittleEndian.AppendUint64(b, n)
	}
	return string(b)
}

// sealed is chapter 4's words on a sealed sector.
func sealed(g byte, text string) string {
	b := make([]byte, sectorBytes)
	b[0], b[383] = g, g
	binary.LittleEndian.PutUint16(b[1:], uint16(len(text)))
	copy(b[3:], text)
	binary.LittleEndian.PutUint32(b[379:], crc32.Checksum(b[:379], crc32.MakeTable(crc32.Castagnoli)))
	return string(b)
}

// chain is chapter 2's words.
func chain(h uint64, s string) uint64 {
	h ^= 0xCBF29CE484222325
	for _, c := range binary.LittleEndian.AppendUint64([]byte(s), uint64(len(s))) {
		h = (h ^ uint64(c)) * 1099511628211
		h ^= h >> 29
	}
	return h
}

// superBytes is chapter 11's words on a superblock's bytes.
func superBytes(s api.Super) string {
	return little(uint64(s.Seq), uint64(s.Who), uint64(s.Count), uint64(s.View), uint64(s.LogView)) +
		little(uint64(s.Check.Op), uint64(s.Check.View), s.Check.Sum, uint64(s.Area), uint64(s.Size)) +
		little(s.Sums[:]...) + little(s.Parent)
}

// next is chapter 11's words on the superblock behind one.
func next(s api.Super) api.Super {
	if s.Seq == top {
		return s
	}
	parent := chain(0, superBytes(s))
	s.Seq, s.Parent = s.Seq+1, parent
	return s
}

// pieces is chapter 14's words on the blocks of a text.
func pieces(s string) []string {
	var l []string
	for len(s) > 0 {
		n := min(len(s), blockBytes)
		l, s = append(l, s[:n]), s[n:]
	}
	return l
}

// sumsOf is chapter 14's words on the sums of a text that has blocks.
func sumsOf(s string) [blocks]uint64 {
	var sums [blocks]uint64
	for i, block := range pieces(s) {
		sums[i] = chain(uint64(i), block)
	}
	return sums
}

// place: where a block of an area lies.
func place(area, i int) int {
	return areas + blocks*area + i
}

// text: how many bytes s has, in two bytes, and s.
func text(s string) string {
	return string(binary.LittleEndian.AppendUint16(nil, uint16(len(s)))) + s
}

// packed is the words of chapters 7, 8 and 10 on the bytes of a machine with so many sessions, accounts and transfers, whose replies are these.
func packed(mark api.Mark, replies []string, accounts, transfers int) string {
	sessions := string([]byte{byte(len(replies))})
	for i, reply := range replies {
		sessions += little(uint64(7+i), uint64(1+i), 5, uint64(9+i)) + text(reply)
	}
	books := string([]byte{byte(accounts)})
	for i := range uint64(accounts) {
		books += little(100+i) + "\x00" + little(i, 2*i)
	}
	books += string([]byte{byte(transfers)})
	for i := range uint64(transfers) {
		books += little(200+i, 100, 101, i)
	}
	return little(uint64(mark.Op), uint64(mark.View), mark.Sum) + text(sessions) + text(books)
}

// sized: the bytes of some machine of so many bytes, as many as some machine has; its replies look like any.
func sized(mark api.Mark, size int, seed int64) string {
	r := rand.New(rand.NewSource(seed))
	for n := range 4 {
		for accounts := range 9 {
			for transfers := range 17 {
				rest := size - newBytes - 34*n - 25*accounts - 32*transfers
				if rest < 0 || rest > longest*n {
					continue
				}
				replies := make([]string, n)
				for i := range replies {
					b := make([]byte, min(rest, longest))
					r.Read(b)
					replies[i], rest = string(b), rest-len(b)
				}
				return packed(mark, replies, accounts, transfers)
			}
		}
	}
	panic("no machine has so many bytes")
}

// sizes: of machines, at the blocks' ends and elsewhere.
func sizes() []int {
	return []int{newBytes, 65, 319, 320, 321, 500, 639, 640, 641, 700, 959, 960, 961, 1000, 1279, 1280, 1281, 1300, fullBytes}
}

// of: the machine with these bytes.
func of(t *testing.T, bytes string) *machine.Machine {
	t.Helper()
	m, e := machine.Unpack(bytes)
	if e != api.OK {
		t.Fatalf("machine.Unpack: %d", e)
	}
	return m
}

// entryAt: one that may be in a place, and looks like any.
func entryAt(op int, seed int64) api.Entry {
	r := rand.New(rand.NewSource(seed*1e6 + int64(op)))
	body := make([]byte, r.Intn(longest+1))
	r.Read(body)
	e := api.Entry{
		View: r.Intn(top + 1), Op: op, Parent: r.Uint64(), Client: 1 + r.Intn(top),
		Session: r.Intn(top + 1), Request: r.Intn(top + 1), Operation: 1 + r.Intn(255), Body: string(body),
	}
	e.Under = r.Intn(e.View + 1)
	return e
}

// bad: numbers that nothing has here.
func bad(more ...int) []int {
	return append(more, math.MinInt, math.MinInt+1, -1<<56, -1<<32, -256, -21, -20, -6, -2, -1, top+1, top+2, 1<<62, math.MaxInt-1, math.MaxInt)
}

// answer is what a call answers.
type answer struct {
	text    string // a machine's bytes, or a block
	there   bool
	missing string // the numbers of blocks
	failed  api.Errno
}

// machineAnswer: what State answers.
func machineAnswer(m *machine.Machine, missing []int, failed api.Errno) answer {
	a := answer{there: m != nil, missing: fmt.Sprint(missing), failed: failed}
	if m != nil {
		a.text = m.Pack()
	}
	return a
}

// twin is the chapter's words on a store, by the calls of the layers below, on a disk of its own.
type twin struct {
	d     *disk.Disk
	super api.Super
	j     *journal.Journal
}

func (w *twin) format(who, count int) api.Errno {
	if count != 3 && count != 5 || who < 1 || who > count {
		return api.ErrArg
	}
	if failed := journal.Format(w.d); failed != api.OK {
		return failed
	}
	fresh := packed(api.Mark{}, nil, 0, 0)
	if failed := grid.Write(w.d, 0, fresh); failed != api.OK {
		return failed
	}
	return super.Write(w.d, api.Super{Seq: 1, Who: who, Count: count, Size: len(fresh), Sums: sumsOf(fresh)})
}

func (w *twin) open() api.Errno {
	s, _, failed := super.Read(w.d)
	if failed != api.OK {
		return failed
	}
	if failed := super.Write(w.d, s); failed != api.OK {
		return failed
	}
	j, failed := journal.Open(w.d, s.Check.Op)
	if failed != api.OK {
		return failed
	}
	w.super, w.j = s, j
	return api.OK
}

func (w *twin) state() answer {
	s := w.super
	bytes, missing, failed := grid.Load(w.d, s.Area, s.Size, s.Sums)
	if failed != api.OK || len(missing) > 0 {
		return machineAnswer(nil, missing, failed)
	}
	m, failed := machine.Unpack(bytes)
	if failed != api.OK || m.Mark() != s.Check {
		return machineAnswer(nil, nil, api.ErrLost)
	}
	return machineAnswer(m, nil, api.OK)
}

// size: how many bytes the state's block i must have.
func (w *twin) size(i int) (int, bool) {
	if i < 0 || i >= blocks || i*blockBytes >= w.super.Size {
		return 0, false
	}
	return min(blockBytes, w.super.Size-i*blockBytes), true
}

func (w *twin) block(i int) answer {
	if _, has := w.size(i); !has {
		return answer{failed: api.ErrArg}
	}
	bytes, there, failed := grid.Block(w.d, w.super.Area, i, w.super.Sums[i])
	return answer{text: bytes, there: there, failed: failed}
}

func (w *twin) fill(i int, block string) api.Errno {
	if n, has := w.size(i); !has || chain(uint64(i), block) != w.super.Sums[i] || len(block) != n {
		return api.ErrArg
	}
	return grid.Put(w.d, w.super.Area, i, block)
}

// write: the superblock becomes another.
func (w *twin) write(s api.Super) api.Errno {
	failed := super.Write(w.d, s)
	if failed == api.OK {
		w.super = s
	}
	return failed
}

func (w *twin) promise(view int) api.Errno {
	if view < 0 || view > top {
		return api.ErrArg
	}
	if view <= w.super.View {
		if view < w.super.View {
			return api.ErrOrder
		}
		return api.OK
	}
	s := next(w.super)
	s.View = view
	return w.write(s)
}

func (w *twin) adopt(view int) api.Errno {
	if view != w.super.View {
		return api.ErrOrder
	}
	if view == w.super.LogView {
		return api.OK
	}
	s := next(w.super)
	s.LogView = view
	return w.write(s)
}

func (w *twin) keep(bytes string, mark api.Mark) api.Errno {
	if mark.Op <= w.super.Check.Op {
		return api.ErrOrder
	}
	if mark.Op > lastCheck {
		return api.ErrArg
	}
	area := 1 - w.super.Area
	if failed := grid.Write(w.d, area, bytes); failed != api.OK {
		return failed
	}
	s := next(w.super)
	s.Check, s.Area, s.Size, s.Sums = mark, area, len(bytes), sumsOf(bytes)
	if failed := w.write(s); failed != api.OK {
		return failed
	}
	return w.j.Shift(mark.Op)
}

func (w *twin) scrub() api.Errno {
	if failed := super.Write(w.d, w.super); failed != api.OK {
		return failed
	}
	return w.j.Scrub()
}

// pair is a store, and the chapter's words on it.
type pair struct {
	d *disk.Disk
	s *store.Store
	w *twin
}

// call is one of a store's, and the chapter's words on it.
type call struct {
	name string
	do   func(*pair) answer
	say  func(*twin) answer
}

// plain: a call that answers an error alone.
func plain(name string, do func(*pair) api.Errno, say func(*twin) api.Errno) call {
	return call{
		name,
		func(p *pair) answer { return answer{failed: do(p)} },
		func(w *twin) answer { return answer{failed: say(w)} },
	}
}

func format(who, count int) call {
	do := func(p *pair) api.Errno { return store.Format(p.d, who, count) }
	return plain("Format", do, func(w *twin) api.Errno { return w.format(who, count) })
}

// open makes the pair's store anew.
func open() call {
	do := func(p *pair) api.Errno {
		s, failed := store.Open(p.d)
		if (s == nil) != (failed != api.OK) {
			panic("a store beside an error, or none without one")
		}
		if s != nil {
			p.s = s
		}
		return failed
	}
	return plain("Open", do, (*twin).open)
}

func state() call {
	return call{"State", func(p *pair) answer { return machineAnswer(p.s.State()) }, (*twin).state}
}

func block(i int) call {
	do := func(p *pair) answer {
		bytes, there, failed := p.s.Block(i)
		return answer{text: bytes, there: there, failed: failed}
	}
	return call{fmt.Sprintf("Block(%d)", i), do, func(w *twin) answer { return w.block(i) }}
}

func fill(i int, block string) call {
	do := func(p *pair) api.Errno { return p.s.Fill(i, block) }
	return plain(fmt.Sprintf("Fill(%d)", i), do, func(w *twin) api.Errno { return w.fill(i, block) })
}

func promise(view int) call {
	do := func(p *pair) api.Errno { return p.s.Promise(view) }
	return plain(fmt.Sprintf("Promise(%d)", view), do, func(w *twin) api.Errno { return w.promise(view) })
}

func adopt(view int) call {
	do := func(p *pair) api.Errno { return p.s.Adopt(view) }
	return plain(fmt.Sprintf("Adopt(%d)", view), do, func(w *twin) api.Errno { return w.adopt(view) })
}

// keep: a machine of so many bytes.
func keep(mark api.Mark, size int) call {
	bytes := sized(mark, size, int64(mark.Op+size))
	do := func(p *pair) api.Errno {
		m, failed := machine.Unpack(bytes)
		if failed != api.OK {
			panic("no machine")
		}
		return p.s.Keep(m)
	}
	return plain(fmt.Sprintf("Keep(%d)", mark.Op), do, func(w *twin) api.Errno { return w.keep(bytes, mark) })
}

func scrub() call {
	return plain("Scrub", func(p *pair) api.Errno { return p.s.Scrub() }, (*twin).scrub)
}

// put and void are the journal's calls.
func put(e api.Entry) call {
	do := func(p *pair) api.Errno { return p.s.Journal().Put(e) }
	return plain("Put", do, func(w *twin) api.Errno { return w.j.Put(e) })
}

func void(n int) call {
	do := func(p *pair) api.Errno { return p.s.Journal().Void(n) }
	return plain("Void", do, func(w *twin) api.Errno { return w.j.Void(n) })
}

// blank: two disks of so many noughts.
func blank(t *testing.T, n int) *pair {
	t.Helper()
	d, failed := disk.New(n)
	other, alsoFailed := disk.New(n)
	if failed != api.OK || alsoFailed != api.OK {
		t.Fatalf("disk.New(%d): %d %d", n, failed, alsoFailed)
	}
	return &pair{d: d, w: &twin{d: other}}
}

// both does something to both disks.
func (p *pair) both(t *testing.T, what func(d *disk.Disk) api.Errno) {
	t.Helper()
	for _, d := range []*disk.Disk{p.d, p.w.d} {
		if failed := what(d); failed != api.OK {
			t.Fatalf("the disk: %d", failed)
		}
	}
}

// raw: sectors of both disks become others, and last.
func raw(t *testing.T, p *pair, what map[int]string) {
	t.Helper()
	p.both(t, func(d *disk.Disk) api.Errno {
		for at := range sectors {
			bytes, has := what[at]
			if !has {
				continue
			}
			if failed := d.Write(at, bytes); failed != api.OK {
				return failed
			}
		}
		return d.Flush()
	})
}

// rot: a byte of a sector of both disks is turned.
func rot(t *testing.T, p *pair, at int) {
	t.Helper()
	p.both(t, func(d *disk.Disk) api.Errno { return d.Rot(at, 5, 1) })
}

// made: a call is made, and answers what the chapter says, by the steps that it says.
func made(t *testing.T, p *pair, c call) answer {
	t.Helper()
	got, want := c.do(p), c.say(p.w)
	if got != want {
		t.Fatalf("%s: %+v, not %+v", c.name, got, want)
	}
	if p.d.Steps() != p.w.d.Steps() || p.d.Pending() != p.w.d.Pending() || p.d.On() != p.w.d.On() {
		t.Fatalf("%s: %d steps and %d writes under way, not %d and %d", c.name, p.d.Steps(), p.d.Pending(), p.w.d.Steps(), p.w.d.Pending())
	}
	return got
}

// well: a call is made, and done.
func well(t *testing.T, p *pair, c call) {
	t.Helper()
	if a := made(t, p, c); a.failed != api.OK {
		t.Fatalf("%s: %d", c.name, a.failed)
	}
}

// wrong: a call is made, and refused; nothing has changed.
func wrong(t *testing.T, p *pair, c call, want api.Errno) {
	t.Helper()
	steps := p.d.Steps()
	if a := made(t, p, c); a.failed != want {
		t.Fatalf("%s: %d, not %d", c.name, a.failed, want)
	}
	if p.d.Steps() != steps {
		t.Fatalf("%s: %d steps", c.name, p.d.Steps()-steps)
	}
	if p.s != nil {
		same(t, p, c.name)
	}
}

// likeDisk tells that what lasts on a store's disk is not what the chapter says.
func likeDisk(t *testing.T, p *pair, what string) {
	t.Helper()
	for at := range sectors {
		if got, want := p.d.Lasts(at), p.w.d.Lasts(at); got != want {
			t.Fatalf("%s: the sector %d is %x, not %x", what, at, got, want)
		}
	}
}

// same tells that a store, or its disk, is not what the chapter says.
func same(t *testing.T, p *pair, what string) {
	t.Helper()
	if got := p.s.Super(); got != p.w.super {
		t.Fatalf("%s: Super %+v, not %+v", what, got, p.w.super)
	}
	j, want := p.s.Journal(), p.w.j
	if j.Check() != want.Check() || j.Head() != want.Head() {
		t.Fatalf("%s: the journal's Check %d and Head %d, not %d and %d", what, j.Check(), j.Head(), want.Check(), want.Head())
	}
	for n := want.Check() - 9; n <= want.Check()+18; n++ {
		if j.Item(n) != want.Item(n) {
			t.Fatalf("%s: the journal's Item(%d) is %+v, not %+v", what, n, j.Item(n), want.Item(n))
		}
	}
	likeDisk(t, p, what)
}

// cut: the power goes at a step of a call, or behind it, and comes back by these picks; the store is opened once more. Was the call done?
func cut(t *testing.T, p *pair, c call, fuse int, picks ...int) bool {
	t.Helper()
	p.both(t, func(d *disk.Disk) api.Errno { return d.Fuse(fuse) })
	got := made(t, p, c)
	done := p.d.On()
	if !done && (got.failed != api.ErrDown || got.text != "" || got.there) {
		t.Fatalf("%s till the step %d: %+v", c.name, fuse, got)
	}
	if done {
		p.both(t, (*disk.Disk).Cut)
	}
	p.both(t, func(d *disk.Disk) api.Errno { return d.Start(picks) })
	likeDisk(t, p, c.name)
	return done
}

// reopened: the store is opened once more, and is what the chapter says.
func reopened(t *testing.T, p *pair, what string) {
	t.Helper()
	well(t, p, open())
	same(t, p, what)
}

// picks: what can become of a write that was under way.
func picks() []int {
	l := []int{0, 1}
	for _, c := range []int{1, 3, 12, 100, 200, 383} {
		l = append(l, 2+3*c)
	}
	return l
}

// fresh: a formatted disk of the replica 2 of 3, and its store.
func fresh(t *testing.T) *pair {
	t.Helper()
	p := blank(t, sectors)
	well(t, p, format(2, 3))
	reopened(t, p, "fresh")
	return p
}

// some: a superblock the numbers of which are unlike; its checkpoint is 500 bytes in the area 1.
func some() (api.Super, string) {
	mark := api.Mark{Op: 7, View: 5, Sum: 0xFEDCBA9876543210}
	bytes := sized(mark, 500, 1)
	return api.Super{
		Seq: 6, Who: 4, Count: 5, View: 10, LogView: 9, Check: mark,
		Area: 1, Size: len(bytes), Sums: sumsOf(bytes), Parent: 0x0123456789ABCDEF,
	}, bytes
}

// laid: what a disk's sectors are by a superblock, and the blocks of its area.
func laid(s api.Super, l ...string) map[int]string {
	what := map[int]string{}
	for i := range copies {
		what[i] = sealed(byte(3*i), superBytes(s))
	}
	for i := range 2 * slots {
		what[prepares+i] = sealed(byte(i), "")
	}
	for i, block := range l {
		what[place(s.Area, i)] = sealed(byte(5*i), block)
	}
	return what
}

// with: the store with a superblock, and the blocks of its area; all other ones are noughts.
func with(t *testing.T, s api.Super, l ...string) *pair {
	t.Helper()
	p := blank(t, sectors)
	raw(t, p, laid(s, l...))
	reopened(t, p, "with")
	return p
}

// busy: a store that has done all kinds of things: the checkpoint 4, of 700 bytes, with the View 6 and the LogView 5, and some entries.
func busy(t *testing.T) *pair {
	t.Helper()
	p := fresh(t)
	for _, c := range []call{
		promise(3), adopt(3), put(entryAt(1, 1)), put(entryAt(2, 1)), put(entryAt(4, 1)), put(entryAt(5, 1)), put(entryAt(8, 1)),
		promise(5), adopt(5), keep(api.Mark{Op: 4, View: 3, Sum: 44}, 700), put(entryAt(10, 1)), promise(6),
	} {
		well(t, p, c)
		same(t, p, c.name)
	}
	return p
}

// alike: the store on disks that are what those of another one are.
func alike(t *testing.T, p *pair) *pair {
	t.Helper()
	q := blank(t, sectors)
	what := map[int]string{}
	for at := range sectors {
		what[at] = p.d.Lasts(at)
	}
	raw(t, q, what)
	well(t, q, open())
	return q
}

// TestLimits is about these tests: their numbers are the document's.
func TestLimits(t *testing.T) {
	if api.SectorBytes != sectorBytes || api.Sectors != sectors || api.Copies != copies || api.Slots != slots || api.Blocks != blocks ||
		api.BlockBytes != blockBytes || api.MaxNumber != top || place(1, blocks-1) != sectors-1 || blocks*blockBytes != mostSize {
		t.Error("another limit")
	}
	for _, size := range sizes() {
		mark := api.Mark{Op: 3, View: 2, Sum: 1}
		bytes := sized(mark, size, 1)
		if m := of(t, bytes); len(bytes) != size || m.Mark() != mark || m.Pack() != bytes {
			t.Errorf("a machine of %d bytes, not %d", len(bytes), size)
		}
	}
	if got := machine.New().Pack(); got != packed(api.Mark{}, nil, 0, 0) || len(got) != newBytes {
		t.Errorf("a new machine: %x", got)
	}
}

// TestExamples is the chapter's.
func TestExamples(t *testing.T) {
	d, _ := disk.New(sectors)
	if failed := store.Format(d, 1, 3); failed != api.OK {
		t.Fatalf("Format: %d", failed)
	}
	s, failed := store.Open(d)
	if failed != api.OK || s.Super().Seq != 1 {
		t.Fatalf("Open: %d, %+v", failed, s.Super())
	}
	m, missing, failed := s.State()
	if failed != api.OK || len(missing) != 0 || m.Mark() != (api.Mark{}) || m.Pack() != machine.New().Pack() {
		t.Errorf("State: %v %v %d", m, missing, failed)
	}
}

// sectorIs tells that a sector doesn't begin and end so.
func sectorIs(t *testing.T, d *disk.Disk, at int, first, last string) {
	t.Helper()
	got := hex.EncodeToString([]byte(d.Lasts(at)))
	if !strings.HasPrefix(got, first) || !strings.HasSuffix(got, last) {
		t.Errorf("the sector %d: %s, not %s .. %s", at, got, first, last)
	}
}

// TestKnown is P15.1, P15.3 and P15.4 by bytes and sums that were reckoned apart from this program.
func TestKnown(t *testing.T) {
	d, _ := disk.New(sectors)
	if failed := store.Format(d, 1, 3); failed != api.OK || d.Steps() != 17+2+8 || d.Pending() != 0 {
		t.Fatalf("Format: %d, %d steps", failed, d.Steps())
	}
	for at := range copies {
		sectorIs(t, d, at, "0188000100000000000000010000000000000003000000", "50d736bd01")
	}
	for at := prepares; at < areas; at++ {
		sectorIs(t, d, at, "0100000000000000", "01")
	}
	sectorIs(t, d, place(0, 0), "011f0000000000000000000000000000000000000000000000000001000002000000", "01")
	for at := place(0, 1); at < sectors; at++ {
		sectorIs(t, d, at, hex.EncodeToString([]byte(noughts)), "")
	}
	s, failed := store.Open(d)
	want := api.Super{Seq: 1, Who: 1, Count: 3, Size: 31, Sums: [blocks]uint64{0xbfd87d9f571834bc}}
	if failed != api.OK || d.Steps() != 27 || s.Super() != want {
		t.Fatalf("Open: %d, %d steps, %+v", failed, d.Steps(), s.Super())
	}
	if failed := s.Promise(4); failed != api.OK || d.Steps() != 35 {
		t.Fatalf("Promise: %d, %d steps", failed, d.Steps())
	}
	want.Seq, want.View, want.Parent = 2, 4, 0x46c18befe14569ca
	copiesAre(t, d, s, want, "60fc538a02")
	if failed := s.Adopt(4); failed != api.OK || d.Steps() != 43 {
		t.Fatalf("Adopt: %d, %d steps", failed, d.Steps())
	}
	want.Seq, want.LogView, want.Parent = 3, 4, 0x1baf93baa6f8a8fb
	copiesAre(t, d, s, want, "7c4e767b03")
	m := machine.New()
	e := entry.Next(api.Mark{}, api.Entry{View: 4, Client: 7, Operation: api.Register})
	if _, failed := m.Apply(e); failed != api.OK {
		t.Fatalf("machine.Apply: %d", failed)
	}
	if failed := s.Keep(m); failed != api.OK || d.Steps() != 53 || s.Journal().Check() != 1 {
		t.Fatalf("Keep: %d, %d steps", failed, d.Steps())
	}
	want = api.Super{
		Seq: 4, Who: 1, Count: 3, View: 4, LogView: 4, Check: api.Mark{Op: 1, View: 4, Sum: 0x145dc87865d8794d},
		Area: 1, Size: 65, Sums: [blocks]uint64{0x363d619523de3a4d}, Parent: 0xbdd71c76cddf287a,
	}
	copiesAre(t, d, s, want, "efe375eb04")
	sectorIs(t, d, place(1, 0), "014100010000000000000004000000000000004d79d86578c85d1423000107000000000000000100", "4157e19801")
	sectorIs(t, d, place(0, 0), "011f00", "01")
	if failed := s.Scrub(); failed != api.OK || d.Steps() != 53 {
		t.Fatalf("Scrub: %d, %d steps", failed, d.Steps())
	}
}

// copiesAre tells that a store, or one of its copies, has another superblock.
func copiesAre(t *testing.T, d *disk.Disk, s *store.Store, want api.Super, last string) {
	t.Helper()
	if s.Super() != want {
		t.Errorf("Super: %+v, not %+v", s.Super(), want)
	}
	for at := range copies {
		sectorIs(t, d, at, last[8:]+"8800"+hex.EncodeToString([]byte(superBytes(want))), last)
	}
}

// TestFormat is P15.1: each replica of each group, on a disk of noughts and on one that was a replica's.
func TestFormat(t *testing.T) {
	for _, count := range []int{3, 5} {
		for who := 1; who <= count; who++ {
			s, bytes := some()
			for _, p := range []*pair{blank(t, sectors), busy(t), with(t, s, pieces(bytes)...)} {
				well(t, p, format(who, count))
				likeDisk(t, p, "Format")
				reopened(t, p, "Format")
				want := api.Super{Seq: 1, Who: who, Count: count, Size: newBytes, Sums: sumsOf(machine.New().Pack())}
				if got := p.s.Super(); got != want {
					t.Errorf("Format(%d, %d): %+v, not %+v", who, count, got, want)
				}
				if a := made(t, p, state()); a.text != machine.New().Pack() {
					t.Errorf("Format(%d, %d): the state is %+v", who, count, a)
				}
				if p.s.Journal().Head() != 0 || p.s.Journal().Check() != 0 {
					t.Errorf("Format(%d, %d): something is in the journal", who, count)
				}
			}
		}
	}
}

// TestFormatWrong is P15.1: groups and replicas that can't be, ahead of all that the disk says.
func TestFormatWrong(t *testing.T) {
	counts := bad(0, 1, 2, 4, 6, 7, 8, 9, 256+3, 1<<32+3, 1<<32+5, top)
	for _, count := range append(counts, 3, 5) {
		for _, who := range bad(0, 1, 2, 3, 4, 5, 6, 7, 256+1, 1<<32+1, top) {
			if (count == 3 || count == 5) && who >= 1 && who <= count {
				continue
			}
			p := blank(t, sectors)
			wrong(t, p, format(who, count), api.ErrArg)
			if failed := store.Format(nil, who, count); failed != api.ErrArg {
				t.Errorf("Format(nil, %d, %d): %d", who, count, failed)
			}
			p.both(t, (*disk.Disk).Cut)
			wrong(t, p, format(who, count), api.ErrArg)
		}
	}
}

// TestFormatPower is P15.1: the power goes at each step of a Format: the order of the steps.
func TestFormatPower(t *testing.T) {
	base := busy(t)
	for _, pick := range picks() {
		for fuse := 1; ; fuse++ {
			p := alike(t, base)
			done := cut(t, p, format(3, 5), fuse, pick)
			made(t, p, open())
			same(t, p, "Format")
			if done {
				break
			}
		}
	}
}

// TestDisks is P15.1: disks that are not there, are off, or lack sectors.
func TestDisks(t *testing.T) {
	if failed := store.Format(nil, 1, 3); failed != api.ErrNil {
		t.Errorf("Format: %d", failed)
	}
	if s, failed := store.Open(nil); s != nil || failed != api.ErrNil {
		t.Errorf("Open: %v %d", s, failed)
	}
	for n := 1; n <= 64; n++ {
		p := blank(t, n)
		made(t, p, format(1, 3))
		made(t, p, open())
		likeDisk(t, p, "a short disk")
	}
	s, _ := some()
	for n := copies; n <= areas; n++ { // the superblock is there, but not the whole journal
		p := blank(t, n)
		for at, bytes := range laid(s) {
			if at < n {
				p.both(t, func(d *disk.Disk) api.Errno { return d.Write(at, bytes) })
			}
		}
		if a := made(t, p, open()); (a.failed == api.OK) != (n == areas) {
			t.Errorf("Open of %d sectors: %d", n, a.failed)
		}
	}
	p := fresh(t)
	p.both(t, (*disk.Disk).Cut)
	wrong(t, p, format(1, 3), api.ErrDown)
	wrong(t, p, open(), api.ErrDown)
}

// TestOpen is P15.1: all fours of copies, of one superblock, of the next one, of an older one, and of none.
func TestOpen(t *testing.T) {
	s, bytes := some()
	behind := next(s)
	behind.View, behind.LogView = 12, 11
	older := s
	older.Seq, older.Check.Op = 5, 6
	kinds := []string{sealed(1, superBytes(s)), sealed(2, superBytes(behind)), sealed(3, superBytes(older)), noughts}
	for n := range 256 {
		p := blank(t, sectors)
		what := laid(s, pieces(bytes)...)
		newest := api.Super{}
		for i := range copies {
			kind := n >> (2 * i) & 3
			what[i] = kinds[kind]
			if known := []api.Super{s, behind, older, {}}[kind]; known.Seq > newest.Seq {
				newest = known
			}
		}
		raw(t, p, what)
		if newest.Seq == 0 {
			wrong(t, p, open(), api.ErrLost)
			continue
		}
		reopened(t, p, "Open")
		if p.s.Super() != newest || p.s.Journal().Check() != newest.Check.Op {
			t.Fatalf("Open: %+v, not %+v", p.s.Super(), newest)
		}
		for i := range copies {
			if got := p.d.Lasts(i)[3:139]; got != superBytes(newest) {
				t.Fatalf("Open: the copy %d: %x", i, got)
			}
		}
		steps := p.d.Steps()
		reopened(t, p, "Open once more")
		if p.d.Steps() != steps {
			t.Fatalf("Open once more: %d steps", p.d.Steps()-steps)
		}
	}
}

// TestOpenChecks is P15.1: checkpoints at their ends, and beyond what the journal takes; the superblock is written ahead of that.
func TestOpenChecks(t *testing.T) {
	for _, op := range []int{0, 1, 4, 8, 255, 1 << 40, lastCheck - 1, lastCheck, lastCheck + 1, lastCheck + 2, top - 1, top} {
		s, _ := some()
		s.Check.Op = op
		p := blank(t, sectors)
		raw(t, p, laid(s))
		rot(t, p, 2)
		want := api.OK
		if op > lastCheck {
			want = api.ErrArg
		}
		steps := p.d.Steps()
		a := made(t, p, open())
		if a.failed != want || p.d.Steps() != steps+2 {
			t.Errorf("Open with the checkpoint %d: %d, %d steps", op, a.failed, p.d.Steps()-steps)
		}
		likeDisk(t, p, "Open")
		if want == api.OK {
			same(t, p, "Open")
		}
	}
}

// TestOpenFirst is P15.1: the first error is told: that of the disk, as the superblock is written, ahead of what the journal says of the checkpoint.
func TestOpenFirst(t *testing.T) {
	s, _ := some()
	s.Check.Op = lastCheck + 1
	for fuse := 1; fuse <= 3; fuse++ {
		p := blank(t, sectors)
		raw(t, p, laid(s))
		rot(t, p, 2)
		p.both(t, func(d *disk.Disk) api.Errno { return d.Fuse(fuse) })
		want := api.ErrDown
		if fuse == 3 { // the copy was written by then
			want = api.ErrArg
		}
		if a := made(t, p, open()); a.failed != want {
			t.Errorf("Open till the step %d: %d, not %d", fuse, a.failed, want)
		}
	}
}

// TestOpenMends is P15.1: the journal is opened by the checkpoint, and mended.
func TestOpenMends(t *testing.T) {
	for _, rots := range [][]int{{prepares}, {headers}, {prepares, headers}, {prepares + 5}, {headers + 5}, {prepares + 2, headers + 5}, {prepares + 5, headers + 5}} {
		p := busy(t)
		for _, at := range rots {
			rot(t, p, at)
		}
		reopened(t, p, "Open")
	}
	p := busy(t)
	rot(t, p, prepares) // of 8
	rot(t, p, headers+5)
	reopened(t, p, "Open")
	j := p.s.Journal()
	if j.Check() != 4 || j.Head() != 10 || j.Item(8).Kind != api.Faulty || j.Item(5).Entry != entryAt(5, 1) || p.d.Marked(headers+5) {
		t.Errorf("Open: Check %d, Head %d, 8 is %+v", j.Check(), j.Head(), j.Item(8))
	}
}

// TestOpenPower is P15.1: the power goes at each step of an Open: the superblock is written ahead of what is mended in the journal.
func TestOpenPower(t *testing.T) {
	base := busy(t)
	for _, pick := range picks() {
		for fuse := 1; ; fuse++ {
			p := alike(t, base)
			for _, at := range []int{0, 2, prepares + 6, headers + 5, headers + 6} {
				rot(t, p, at)
			}
			done := cut(t, p, open(), fuse, pick)
			reopened(t, p, "Open")
			if done {
				if fuse != 1+4+2 {
					t.Errorf("Open: %d steps", fuse-1)
				}
				break
			}
		}
	}
}

// TestJournal is P15.1: it is the store's own, at each call the same.
func TestJournal(t *testing.T) {
	p := fresh(t)
	j := p.s.Journal()
	well(t, p, put(entryAt(3, 1)))
	if j.Item(3).Entry != entryAt(3, 1) || p.s.Journal() != j || j.Head() != 3 {
		t.Errorf("the journal: %+v", j.Item(3))
	}
	well(t, p, keep(api.Mark{Op: 2}, 65))
	if j.Check() != 2 || p.s.Journal() != j || j.Item(3).Entry != entryAt(3, 1) || j.Item(2).Kind != api.Lacks {
		t.Errorf("the journal behind Keep: %d", j.Check())
	}
	reopened(t, p, "Open")
}

// TestState is P15.2: of machines of all sizes, in each area; what stands in the other one plays no part.
func TestState(t *testing.T) {
	for _, size := range sizes() {
		for area := range 2 {
			s, _ := some()
			bytes := sized(s.Check, size, 3)
			s.Area, s.Size, s.Sums = area, size, sumsOf(bytes)
			p := with(t, s, pieces(bytes)...)
			if a := made(t, p, state()); a != (answer{text: bytes, there: true, missing: "[]"}) {
				t.Errorf("State of %d bytes: %+v", size, a)
			}
			other := map[int]string{}
			for i := range blocks {
				other[place(1-area, i)] = sealed(1, "another")
			}
			raw(t, p, other)
			if a := made(t, p, state()); a != (answer{text: bytes, there: true, missing: "[]"}) {
				t.Errorf("State of %d bytes beside others: %+v", size, a)
			}
			same(t, p, "State")
		}
	}
}

// TestStateMissing is P15.2: all sets of blocks that rot, of five.
func TestStateMissing(t *testing.T) {
	s, _ := some()
	bytes := sized(s.Check, fullBytes, 3)
	s.Size, s.Sums = fullBytes, sumsOf(bytes)
	for set := 1; set < 32; set++ {
		p := with(t, s, pieces(bytes)...)
		var want []int
		for i := range 5 {
			if set>>i&1 == 1 {
				rot(t, p, place(1, i))
				want = append(want, i)
			}
		}
		m, missing, failed := p.s.State()
		if m != nil || !slices.Equal(missing, want) || failed != api.OK {
			t.Errorf("State: %v %v %d, not %v", m, missing, failed, want)
		}
		made(t, p, state())
		for n, i := range want {
			well(t, p, fill(i, pieces(bytes)[i]))
			if _, missing, _ := p.s.State(); !slices.Equal(missing, want[n+1:]) {
				t.Errorf("State: %v, not %v", missing, want[n+1:])
			}
		}
		if a := made(t, p, state()); a.text != bytes {
			t.Errorf("State: %+v", a)
		}
	}
}

// TestStateLost is P15.2: the blocks are there, but are no machine's, or another one's.
func TestStateLost(t *testing.T) {
	s, bytes := some()
	for _, other := range []string{
		bytes[1:], bytes[:499], bytes + "\x00", "\x00", bytes[:24], strings.Repeat("\x00", 31), strings.Repeat("\x00", mostSize), strings.Repeat("x", 700),
		packed(api.Mark{}, nil, 0, 0),
	} {
		lost := s
		lost.Size, lost.Sums = len(other), sumsOf(other)
		p := with(t, lost, pieces(other)...)
		if a := made(t, p, state()); a != (answer{missing: "[]", failed: api.ErrLost}) {
			t.Errorf("State of %d bytes: %+v", len(other), a)
		}
		rot(t, p, place(1, 0)) // which is told instead
		if a := made(t, p, state()); a != (answer{missing: "[0]"}) {
			t.Errorf("State of %d bytes: %+v", len(other), a)
		}
		lost.Check = api.Mark{} // that of the one machine that did nothing
		want := answer{missing: "[]", failed: api.ErrLost}
		if other == packed(api.Mark{}, nil, 0, 0) {
			want = answer{text: other, there: true, missing: "[]"}
		}
		p = with(t, lost, pieces(other)...)
		if a := made(t, p, state()); a != want {
			t.Errorf("State of %d bytes, and no mark: %+v", len(other), a)
		}
	}
	for _, change := range []func(*api.Mark){
		func(m *api.Mark) { m.Op++ },
		func(m *api.Mark) { m.Op-- },
		func(m *api.Mark) { m.View++ },
		func(m *api.Mark) { m.View-- },
		func(m *api.Mark) { m.Sum++ },
		func(m *api.Mark) { m.Sum ^= 1 << 63 },
		func(m *api.Mark) { *m = api.Mark{} },
		func(m *api.Mark) {},
	} {
		lost := s
		change(&lost.Check)
		p := with(t, lost, pieces(bytes)...)
		want := answer{missing: "[]", failed: api.ErrLost}
		if lost == s {
			want = answer{text: bytes, there: true, missing: "[]"}
		}
		if a := made(t, p, state()); a != want {
			t.Errorf("State with the Check %+v: %+v", lost.Check, a)
		}
	}
}

// TestStateNothing is P15.2: a checkpoint of no bytes has no machine, and no blocks.
func TestStateNothing(t *testing.T) {
	s, _ := some()
	s.Size = 0
	p := with(t, s)
	if a := made(t, p, state()); a != (answer{missing: "[]", failed: api.ErrLost}) {
		t.Errorf("State: %+v", a)
	}
	for _, i := range bad(0, 1, 5, 6) {
		wrong(t, p, block(i), api.ErrArg)
		wrong(t, p, fill(i, ""), api.ErrArg)
	}
}

// crafted: a store whose checkpoint is some text of so many bytes, which need be no machine's.
func crafted(t *testing.T, area, size int) (*pair, []string) {
	t.Helper()
	s, _ := some()
	b := make([]byte, size)
	rand.New(rand.NewSource(int64(size))).Read(b)
	s.Area, s.Size, s.Sums = area, size, sumsOf(string(b))
	return with(t, s, pieces(string(b))...), pieces(string(b))
}

// craftedSizes: of checkpoints, at the blocks' ends and elsewhere.
func craftedSizes() []int {
	l := []int{1, 2, 60, 500, 700, 1000, 1500}
	for i := 1; i <= blocks; i++ {
		for n := i*blockBytes - 1; n <= min(i*blockBytes+1, mostSize); n++ {
			l = append(l, n)
		}
	}
	return l
}

// TestBlock is P15.2: each block of checkpoints of all sizes, and those that they don't have.
func TestBlock(t *testing.T) {
	for _, size := range craftedSizes() {
		for area := range 2 {
			p, l := crafted(t, area, size)
			for i, want := range l {
				if a := made(t, p, block(i)); a != (answer{text: want, there: true}) {
					t.Errorf("Block(%d) of %d bytes: %+v", i, size, a)
				}
			}
			for _, i := range bad(len(l), len(l)+1, blocks, blocks+1, 256, 1<<32, 1<<58, top) {
				wrong(t, p, block(i), api.ErrArg)
			}
			for i := range l {
				rot(t, p, place(area, i))
				if a := made(t, p, block(i)); a != (answer{}) {
					t.Errorf("Block(%d) of %d bytes, rotten: %+v", i, size, a)
				}
			}
		}
	}
}

// TestBlockSums is P15.2: a block that is there is told by its sum, not by how many bytes it has; the state lacks it.
func TestBlockSums(t *testing.T) {
	s, _ := some()
	for _, size := range []int{0, 1, 59, 60, 61, 320} {
		other := strings.Repeat("o", size)
		s.Size = 700
		s.Sums = [blocks]uint64{1, 2, chain(2, other), 4, 5, 6}
		p := with(t, s, "", "", other)
		if a := made(t, p, block(2)); a != (answer{text: other, there: true}) {
			t.Errorf("Block of %d bytes: %+v", size, a)
		}
		if a := made(t, p, block(1)); a != (answer{}) {
			t.Errorf("Block with another sum: %+v", a)
		}
		want := "[0 1 2]"
		if size == 60 {
			want = "[0 1]"
		}
		if a := made(t, p, state()); a != (answer{missing: want}) {
			t.Errorf("State beside a block of %d bytes: %+v", size, a)
		}
		if size == 60 {
			well(t, p, fill(2, other))
		} else {
			wrong(t, p, fill(2, other), api.ErrArg)
		}
		same(t, p, "Fill")
	}
}

// TestFill is P15.2: each block of checkpoints of all sizes is put anew, over whatever is there.
func TestFill(t *testing.T) {
	for _, size := range craftedSizes() {
		for area := range 2 {
			p, l := crafted(t, area, size)
			for i, want := range l {
				for range 2 {
					steps := p.d.Steps()
					well(t, p, fill(i, want))
					if p.d.Steps() != steps+2 || p.d.Pending() != 0 {
						t.Errorf("Fill(%d) of %d bytes: %d steps", i, size, p.d.Steps()-steps)
					}
					same(t, p, "Fill")
				}
				rot(t, p, place(area, i))
				well(t, p, fill(i, want))
				if a := made(t, p, block(i)); a != (answer{text: want, there: true}) {
					t.Errorf("Block(%d) of %d bytes, filled: %+v", i, size, a)
				}
				same(t, p, "Fill")
			}
		}
	}
}

// TestFillWrong is P15.2: blocks that are others, or of other places, or have other bytes, or too many, or too few.
func TestFillWrong(t *testing.T) {
	for _, size := range craftedSizes() {
		p, l := crafted(t, 0, size)
		for i, want := range l {
			turned := []byte(want)
			turned[len(turned)-1] ^= 1
			for _, other := range []string{
				"", want[:len(want)-1], want[1:], want + "\x00", "\x00" + want, want + want, string(turned), strings.Repeat("\x00", len(want)),
				strings.Repeat("x", 321), strings.Repeat("x", mostSize), strings.Repeat("x", mostSize+1),
			} {
				if other != want {
					wrong(t, p, fill(i, other), api.ErrArg)
				}
			}
			for other := range l {
				if other != i {
					wrong(t, p, fill(other, want), api.ErrArg)
				}
			}
			for _, none := range bad(len(l), len(l)+1, blocks, blocks+1, 256+i, 1<<32+i, 1<<58+i, top) {
				wrong(t, p, fill(none, want), api.ErrArg)
			}
		}
	}
}

// TestFillBeyond is P15.2: a block that the state doesn't have is none, though the superblock has its sum.
func TestFillBeyond(t *testing.T) {
	s, _ := some()
	s.Size = 320
	for i := range blocks {
		s.Sums[i] = chain(uint64(i), "x")
	}
	p := with(t, s, "", "x", "x", "x", "x", "x")
	for i := 1; i < blocks; i++ {
		wrong(t, p, fill(i, "x"), api.ErrArg)
		wrong(t, p, fill(i, ""), api.ErrArg)
		wrong(t, p, block(i), api.ErrArg)
	}
}

// TestFillEmpty is P15.2: a block without bytes is none of a state's, though it has the sum.
func TestFillEmpty(t *testing.T) {
	s, _ := some()
	for i := range blocks {
		s.Sums[i] = chain(uint64(i), "")
	}
	for _, size := range []int{0, 1, 320, 321, 640, 700, mostSize} {
		s.Size = size
		p := with(t, s)
		for i := range blocks {
			wrong(t, p, fill(i, ""), api.ErrArg)
		}
	}
}

// views: at the ends, and elsewhere.
func views() []int {
	return []int{0, 1, 2, 5, 8, 9, 10, 11, 12, 255, 256, 1 << 32, 1 << 55, top - 1, top}
}

// TestPromise is P15.3: each view behind each one, and those that can't be.
func TestPromise(t *testing.T) {
	for _, had := range views() {
		s, bytes := some()
		s.View, s.LogView = had, min(had, 9)
		for _, view := range views() {
			p := with(t, s, pieces(bytes)...)
			steps := p.d.Steps()
			want := s
			switch {
			case view < had:
				wrong(t, p, promise(view), api.ErrOrder)
			case view == had:
				wrong(t, p, promise(view), api.OK)
			default:
				well(t, p, promise(view))
				want = next(s)
				want.View = view
				if p.d.Steps() != steps+2*copies {
					t.Errorf("Promise(%d): %d steps", view, p.d.Steps()-steps)
				}
			}
			for range 2 {
				if p.s.Super() != want {
					t.Errorf("Promise(%d) behind %d: %+v, not %+v", view, had, p.s.Super(), want)
				}
				same(t, p, "Promise")
				reopened(t, p, "Promise")
			}
		}
		p := with(t, s, pieces(bytes)...)
		for _, view := range bad() {
			wrong(t, p, promise(view), api.ErrArg)
		}
	}
}

// TestAdopt is P15.3: the view alone is adopted, once.
func TestAdopt(t *testing.T) {
	for _, view := range views() {
		for _, had := range views() {
			if had > view {
				continue
			}
			s, bytes := some()
			s.View, s.LogView = view, had
			p := with(t, s, pieces(bytes)...)
			for _, other := range append(bad(), views()...) {
				if other != view {
					wrong(t, p, adopt(other), api.ErrOrder)
				}
			}
			want, steps := s, 0
			if had != view {
				want, steps = next(s), 2*copies
				want.LogView = view
			}
			before := p.d.Steps()
			well(t, p, adopt(view))
			if p.s.Super() != want || p.d.Steps() != before+steps {
				t.Errorf("Adopt(%d) behind %d: %+v, %d steps", view, had, p.s.Super(), p.d.Steps()-before)
			}
			same(t, p, "Adopt")
			wrong(t, p, adopt(view), api.OK)
			reopened(t, p, "Adopt")
		}
	}
}

// TestLast is P15.3 and P15.4 behind the last of all superblocks: the next one is it.
func TestLast(t *testing.T) {
	s, bytes := some()
	for _, c := range []call{promise(11), adopt(10), keep(api.Mark{Op: 8}, 65)} {
		for _, seq := range []int{top - 1, top} {
			s.Seq = seq
			p := with(t, s, pieces(bytes)...)
			well(t, p, c)
			same(t, p, c.name)
			if p.s.Super().Seq != top {
				t.Errorf("%s: %+v", c.name, p.s.Super())
			}
			reopened(t, p, c.name)
		}
	}
}

// TestMended is P15.3 and P15.4: copies that rotted are written by what writes the next superblock.
func TestMended(t *testing.T) {
	base := busy(t)
	for _, c := range []call{promise(9), adopt(6), keep(api.Mark{Op: 8, View: 6, Sum: 1}, 1000)} {
		for set := range 16 {
			p := alike(t, base)
			for i := range copies {
				if set>>i&1 == 1 {
					rot(t, p, i)
				}
			}
			well(t, p, c)
			same(t, p, c.name)
			for i := range copies {
				if p.d.Marked(i) || p.d.Lasts(i)[3:139] != superBytes(p.s.Super()) {
					t.Errorf("%s: the copy %d is rotten", c.name, i)
				}
			}
		}
	}
}

// TestKeep is P15.4: machines of all sizes, one behind the other, in one area and the other.
func TestKeep(t *testing.T) {
	p := fresh(t)
	for n := range 3 {
		for k, size := range sizes() {
			was := p.s.Super()
			mark := api.Mark{Op: was.Check.Op + 1 + (n+k)%10, View: k, Sum: uint64(n) << 60}
			steps := p.d.Steps()
			well(t, p, keep(mark, size))
			bytes := sized(mark, size, int64(mark.Op+size))
			want := next(was)
			want.Check, want.Area, want.Size, want.Sums = mark, 1-was.Area, size, sumsOf(bytes)
			if got := p.s.Super(); got != want {
				t.Errorf("Keep: %+v, not %+v", got, want)
			}
			if got := p.d.Steps() - steps; got != len(pieces(bytes))+1+2*copies || p.d.Pending() != 0 {
				t.Errorf("Keep of %d bytes: %d steps", size, got)
			}
			for i, block := range pieces(bytes) {
				if got := p.d.Lasts(place(want.Area, i))[3 : 3+len(block)]; got != block {
					t.Errorf("Keep: the block %d: %x", i, got)
				}
			}
			if a := made(t, p, state()); a != (answer{text: bytes, there: true, missing: "[]"}) {
				t.Errorf("Keep and State: %+v", a)
			}
			if p.s.Journal().Check() != mark.Op {
				t.Errorf("Keep: the journal's Check: %d, not %d", p.s.Journal().Check(), mark.Op)
			}
			same(t, p, "Keep")
			well(t, p, put(entryAt(mark.Op+1+k%8, 1)))
			if k%2 == n%2 {
				reopened(t, p, "Keep")
			}
		}
	}
}

// TestKeepWrong is P15.4: machines that are not there, are not ahead of the checkpoint, or too far.
func TestKeepWrong(t *testing.T) {
	if failed := fresh(t).s.Keep(machine.New()); failed != api.ErrOrder {
		t.Errorf("Keep of a new machine: %d", failed)
	}
	for _, had := range []int{0, 1, 7, 8, 1 << 40, lastCheck - 1, lastCheck} {
		s, _ := some()
		s.Check = api.Mark{Op: had, View: 5, Sum: 9}
		bytes := sized(s.Check, 500, 1)
		s.Sums = sumsOf(bytes)
		p := with(t, s, pieces(bytes)...)
		if failed := p.s.Keep(nil); failed != api.ErrNil {
			t.Errorf("Keep of no machine: %d", failed)
		}
		same(t, p, "Keep of no machine")
		for _, op := range []int{0, 1, 2, 6, 7, 8, 9, 1 << 40, 1<<40 + 1, lastCheck - 2, lastCheck - 1, lastCheck, lastCheck + 1, lastCheck + 2, top - 1, top} {
			mark := api.Mark{Op: op, View: 6, Sum: 10}
			switch {
			case op <= had:
				wrong(t, p, keep(mark, 65), api.ErrOrder)
			case op > lastCheck:
				wrong(t, p, keep(mark, 65), api.ErrArg)
			default:
				q := with(t, s, pieces(bytes)...)
				well(t, q, keep(mark, 65))
				same(t, q, "Keep")
				reopened(t, q, "Keep")
			}
		}
	}
}

// TestKeepMarks is P15.4: the Op alone says what is ahead; a mark's View and Sum may be any.
func TestKeepMarks(t *testing.T) {
	s, bytes := some()
	for _, view := range []int{0, 4, 5, 6, top} {
		for _, sum := range []uint64{0, 1, s.Check.Sum, math.MaxUint64} {
			for op := 6; op <= 8; op++ {
				p := with(t, s, pieces(bytes)...)
				c := keep(api.Mark{Op: op, View: view, Sum: sum}, 321)
				if op > s.Check.Op {
					well(t, p, c)
				} else {
					wrong(t, p, c, api.ErrOrder)
				}
				same(t, p, "Keep")
			}
		}
	}
}

// TestKeepShifts is P15.4: the journal's window goes on by one, by some, and by more than it has.
func TestKeepShifts(t *testing.T) {
	for op := 5; op <= 30; op++ {
		p := busy(t)
		well(t, p, keep(api.Mark{Op: op}, 65))
		same(t, p, "Keep")
		j := p.s.Journal()
		if j.Check() != op {
			t.Errorf("Keep(%d): the journal's Check is %d", op, j.Check())
		}
		for _, n := range []int{5, 8, 10} {
			if (j.Item(n).Entry == entryAt(n, 1)) != (n > op) {
				t.Errorf("Keep(%d): the journal's Item(%d) is %+v", op, n, j.Item(n))
			}
		}
		well(t, p, put(entryAt(op+8, 1)))
		reopened(t, p, "Keep")
	}
}

// TestPower is P15.2 to P15.5: the power goes at each step of each call: the order of the steps.
func TestPower(t *testing.T) {
	base, bytes := busy(t), sized(api.Mark{Op: 4, View: 3, Sum: 44}, 700, 704)
	for _, c := range []call{
		promise(7), adopt(6), keep(api.Mark{Op: 8, View: 6, Sum: 7}, fullBytes), keep(api.Mark{Op: 5, View: 6, Sum: 7}, 65),
		scrub(), fill(0, bytes[:320]), fill(2, bytes[640:]), state(), block(1), open(),
	} {
		for _, rots := range [][]int{nil, {1, 3}, {0, 1, headers + 5, prepares + 6}} {
			for _, pick := range picks() {
				for fuse := 1; ; fuse++ {
					p := alike(t, base)
					for _, at := range rots {
						rot(t, p, at)
					}
					done := cut(t, p, c, fuse, pick)
					reopened(t, p, c.name)
					if done {
						break
					}
				}
			}
		}
	}
}

// TestScrub is P15.5: all sets of copies that rot, and sectors of the journal beside them.
func TestScrub(t *testing.T) {
	for set := range 16 {
		for _, more := range [][]int{nil, {prepares}, {headers}, {prepares + 1, headers + 1}, {prepares + 5, headers + 6}, {prepares + 3, headers + 5}} {
			p := busy(t)
			n := 0
			for i := range copies {
				if set>>i&1 == 1 {
					rot(t, p, i)
					n++
				}
			}
			for _, at := range more {
				rot(t, p, at)
			}
			steps := p.d.Steps()
			well(t, p, scrub())
			same(t, p, "Scrub")
			if got := p.d.Steps() - steps; more == nil && got != 2*n {
				t.Errorf("Scrub: %d steps, not %d", got, 2*n)
			}
			steps = p.d.Steps()
			well(t, p, scrub())
			if p.d.Steps() != steps {
				t.Errorf("Scrub once more: %d steps", p.d.Steps()-steps)
			}
			reopened(t, p, "Scrub")
		}
	}
}

// TestScrubFinds is P15.5: what the journal can't read any more is faulty behind it; blocks are not looked at.
func TestScrubFinds(t *testing.T) {
	p := busy(t)
	for _, at := range []int{prepares + 5, headers, place(1, 0), place(0, 0)} {
		rot(t, p, at)
	}
	if got := p.s.Journal().Item(5); got.Kind != api.Holds {
		t.Errorf("ahead of Scrub 5 is %+v", got)
	}
	well(t, p, scrub())
	same(t, p, "Scrub")
	j := p.s.Journal()
	if j.Item(5).Kind != api.Faulty || j.Item(8).Entry != entryAt(8, 1) || p.d.Marked(headers) || !p.d.Marked(place(1, 0)) || !p.d.Marked(place(0, 0)) {
		t.Errorf("behind Scrub 5 is %+v, 8 is %+v", j.Item(5), j.Item(8))
	}
}

// TestScrubOther is P15.5: the store's superblock is written over whatever copies have.
func TestScrubOther(t *testing.T) {
	p := busy(t)
	s := p.s.Super()
	behind, unlike := next(s), s
	behind.View = 100
	unlike.View = 90
	raw(t, p, map[int]string{0: sealed(9, superBytes(behind)), 1: sealed(9, superBytes(unlike)), 2: noughts})
	well(t, p, scrub())
	same(t, p, "Scrub")
	reopened(t, p, "Scrub")
	if p.s.Super() != s {
		t.Errorf("Scrub: %+v, not %+v", p.s.Super(), s)
	}
}

// TestNil is the chapter's words on a nil store.
func TestNil(t *testing.T) {
	var s *store.Store
	if s.Super() != (api.Super{}) || s.Journal() != nil {
		t.Error("something of nobody")
	}
	if m, missing, failed := s.State(); m != nil || len(missing) != 0 || failed != api.ErrNil {
		t.Errorf("State: %v %v %d", m, missing, failed)
	}
	for _, n := range bad(0, 1, 6, 7) {
		if bytes, there, failed := s.Block(n); bytes != "" || there || failed != api.ErrNil {
			t.Errorf("Block(%d): %q %v %d", n, bytes, there, failed)
		}
		for name, failed := range map[string]api.Errno{"Fill": s.Fill(n, "x"), "Promise": s.Promise(n), "Adopt": s.Adopt(n)} {
			if failed != api.ErrNil {
				t.Errorf("%s(%d): %d", name, n, failed)
			}
		}
	}
	for name, failed := range map[string]api.Errno{"Keep": s.Keep(machine.New()), "Keep of none": s.Keep(nil), "Scrub": s.Scrub()} {
		if failed != api.ErrNil {
			t.Errorf("%s: %d", name, failed)
		}
	}
}

// TestNoPower is the chapter's words on a disk's errors: who asks the disk is told them.
func TestNoPower(t *testing.T) {
	base, bytes := busy(t), sized(api.Mark{Op: 4, View: 3, Sum: 44}, 700, 704)
	for _, c := range []call{
		promise(7), promise(top), adopt(6), keep(api.Mark{Op: 5}, 65), keep(api.Mark{Op: lastCheck}, fullBytes), scrub(),
		state(), block(0), block(2), fill(0, bytes[:320]), fill(2, bytes[640:]), open(), format(1, 3),
	} {
		p := alikeOff(t, base) // one for each call: behind its disk's error a store is of no use any more
		steps := p.d.Steps()
		a := made(t, p, c)
		if a.failed != api.ErrDown || a.text != "" || a.there || p.d.Steps() != steps {
			t.Errorf("%s without power: %+v, %d steps", c.name, a, p.d.Steps()-steps)
		}
	}
}

// alikeOff: likewise, but the power is gone.
func alikeOff(t *testing.T, p *pair) *pair {
	t.Helper()
	q := alike(t, p)
	q.both(t, (*disk.Disk).Cut)
	return q
}

// TestNotAsked is the chapter's words: what is refused, or done already, is told without power too.
func TestNotAsked(t *testing.T) {
	p := alikeOff(t, busy(t))
	for range 2 {
		wrong(t, p, promise(6), api.OK)
		wrong(t, p, promise(5), api.ErrOrder)
		wrong(t, p, promise(-1), api.ErrArg)
		wrong(t, p, promise(top+1), api.ErrArg)
		wrong(t, p, adopt(5), api.ErrOrder)
		wrong(t, p, adopt(7), api.ErrOrder)
		wrong(t, p, keep(api.Mark{Op: 4}, 65), api.ErrOrder)
		wrong(t, p, keep(api.Mark{Op: lastCheck + 1}, 65), api.ErrArg)
		wrong(t, p, block(3), api.ErrArg)
		wrong(t, p, fill(3, "x"), api.ErrArg)
		wrong(t, p, fill(0, "x"), api.ErrArg)
		if failed := p.s.Keep(nil); failed != api.ErrNil {
			t.Errorf("Keep of no machine: %d", failed)
		}
	}
	q := busy(t)
	well(t, q, adopt(6))
	q.both(t, (*disk.Disk).Cut)
	wrong(t, q, adopt(6), api.OK)
}

// floor is what a store must have, wherever the power goes.
type floor struct {
	view, logView int
	check         api.Mark
}

// floorOf: what a store has.
func floorOf(s api.Super) floor {
	return floor{s.View, s.LogView, s.Check}
}

// stands tells that something that was promised, adopted or kept is not there; the calls that were not done may have been.
func stands(t *testing.T, p *pair, was, or floor, done bool, what string) {
	t.Helper()
	got := floorOf(p.s.Super())
	if got != or && (done || got != was) {
		t.Fatalf("%s: %+v is there, ahead of it was %+v, behind it is %+v", what, got, was, or)
	}
	m, missing, failed := p.s.State()
	if failed != api.OK || len(missing) > 0 || m.Mark() != got.check {
		t.Fatalf("%s: the state of %+v: %v, %v, %d", what, got, m.Mark(), missing, failed)
	}
}

// pairsOfCopies: all sets of at most two.
func pairsOfCopies() [][]int {
	l := [][]int{nil}
	for i := range copies {
		l = append(l, []int{i})
		for k := range i {
			l = append(l, []int{k, i})
		}
	}
	return l
}

// TestKept is P15.6: wherever the power goes, and whichever two copies rot, ahead of it or behind it.
func TestKept(t *testing.T) {
	base := busy(t)
	for _, c := range []call{promise(9), adopt(6), keep(api.Mark{Op: 8, View: 6, Sum: 7}, 1000), scrub(), open(), put(entryAt(9, 1)), void(5), put(entryAt(5, 2))} {
		after := alike(t, base)
		well(t, after, c)
		or := floorOf(after.s.Super())
		for _, l := range pairsOfCopies() {
			for _, pick := range []int{0, 1, 2 + 3*100} {
				for ahead := range 2 {
					for fuse := 1; ; fuse++ {
						p := alike(t, base)
						was := floorOf(p.s.Super())
						if ahead == 1 {
							rots(t, p, l)
						}
						done := cut(t, p, c, fuse, pick)
						if ahead == 0 {
							rots(t, p, l)
						}
						reopened(t, p, c.name)
						stands(t, p, was, or, done, c.name)
						if done {
							break
						}
					}
				}
			}
		}
	}
}

// rots: some copies do, but for those that are torn.
func rots(t *testing.T, p *pair, l []int) {
	t.Helper()
	for _, at := range l {
		if !p.d.Marked(at) {
			rot(t, p, at)
		}
	}
}

// TestWalk is P15.1 to P15.6: calls as they come, with losses of power, and sectors that rot, against the chapter's words; what was promised, adopted and kept is there, if at most two copies rot between two scrubs.
func TestWalk(t *testing.T) {
	for seed := range 120 {
		r := rand.New(rand.NewSource(int64(seed)))
		w := &walk{p: fresh(t), r: r, all: seed%2 == 1}
		if seed%5 == 0 {
			s, bytes := some()
			w.p = with(t, s, pieces(bytes)...)
		}
		for range 60 {
			w.step(t)
		}
	}
}

// walk is a pair on its way.
type walk struct {
	p      *pair
	r      *rand.Rand
	all    bool // all sectors may rot, not only copies
	rotted int  // copies, since the last scrub
}

// any: a call as it comes.
func (w *walk) any() call {
	r, s := w.r, w.p.s.Super()
	op := s.Check.Op + r.Intn(10)
	switch r.Intn(12) {
	case 0, 1:
		return promise(s.View + r.Intn(4) - 1)
	case 2, 3:
		return adopt(s.View - r.Intn(4)/3)
	case 4, 5:
		all := sizes()
		return keep(api.Mark{Op: s.Check.Op + r.Intn(6), View: r.Intn(9), Sum: r.Uint64()}, all[r.Intn(len(all))])
	case 6:
		return scrub()
	case 7:
		return put(entryAt(max(op, 1), int64(r.Intn(2))))
	case 8:
		return void(op)
	case 9:
		return open()
	case 10:
		return state()
	}
	i := r.Intn(blocks)
	bytes, _, _ := w.p.s.Block(i)
	return []call{block(i), fill(i, bytes), fill(r.Intn(blocks), bytes)}[r.Intn(3)]
}

// step: one thing happens.
func (w *walk) step(t *testing.T) {
	t.Helper()
	p, r := w.p, w.r
	was := p.s.Super()
	if r.Intn(3) == 0 {
		w.rot(t)
	}
	c := w.any()
	if r.Intn(3) > 0 {
		if a := made(t, p, c); c.name == "Scrub" && a.failed == api.OK {
			w.rotted = 0
		}
		same(t, p, c.name)
	} else {
		cut(t, p, c, 1+r.Intn(20), 0, []int{0, 1, 2 + 3*r.Intn(385)}[r.Intn(3)], 1)
		reopened(t, p, c.name)
	}
	s := p.s.Super()
	if s.View < was.View || s.LogView < was.LogView || s.Check.Op < was.Check.Op || s.Seq < was.Seq || s.Seq > was.Seq+1 {
		t.Fatalf("%s: %+v behind %+v", c.name, s, was)
	}
	if s.Check.Op == was.Check.Op && s.Check != was.Check {
		t.Fatalf("%s: another checkpoint: %+v behind %+v", c.name, s, was)
	}
	if a := made(t, p, state()); !w.all && !a.there {
		t.Fatalf("%s: the state is %+v", c.name, a)
	}
}

// rot: a sector does, if it may.
func (w *walk) rot(t *testing.T) {
	t.Helper()
	at := w.r.Intn(copies)
	if w.all {
		at = w.r.Intn(sectors)
	}
	if at < copies && w.rotted == 2 || w.p.d.Marked(at) {
		return
	}
	if at < copies {
		w.rotted++
	}
	i, mask := w.r.Intn(sectorBytes), 1+w.r.Intn(255)
	w.p.both(t, func(d *disk.Disk) api.Errno { return d.Rot(at, i, mask) })
}

// TestMachineApart is the rules: a machine that was kept goes on, and the state is what was kept; two states know nothing of each other.
func TestMachineApart(t *testing.T) {
	p := fresh(t)
	m := machine.New()
	mark := api.Mark{}
	for n := range 4 {
		e := entry.Next(mark, api.Entry{View: 1, Client: 7 + n, Operation: api.Register})
		mark = entry.MarkOf(e)
		if _, failed := m.Apply(e); failed != api.OK {
			t.Fatalf("machine.Apply: %d", failed)
		}
	}
	kept := m.Pack()
	if failed := p.s.Keep(m); failed != api.OK || m.Pack() != kept {
		t.Fatalf("Keep: %d, and the machine is another", failed)
	}
	e := entry.Next(mark, api.Entry{View: 1, Client: 99, Operation: api.Register})
	for range 2 {
		got, _, failed := p.s.State()
		if failed != api.OK || got.Pack() != kept || p.s.Super().Check != mark {
			t.Fatalf("State: %d, not what was kept", failed)
		}
		got.Apply(e)
		m.Apply(e)
	}
}

// TestApart is the rules: what is handed in is neither changed nor kept, and no two answers share memory, nor does one with an argument.
func TestApart(t *testing.T) {
	p, l := crafted(t, 1, 700)
	own := []byte(l[0])
	if failed := p.s.Fill(0, unsafe.String(&own[0], len(own))); failed != api.OK || string(own) != l[0] {
		t.Fatalf("Fill: %d, or the block was changed", failed)
	}
	clear(own)
	one, _, _ := p.s.Block(0)
	if one != l[0] {
		t.Errorf("Block: %x, not %x", one, l[0])
	}
	clear(unsafe.Slice(unsafe.StringData(one), len(one)))
	other, _, _ := p.s.Block(0)
	if other != l[0] {
		t.Errorf("Block: %x, not %x", other, l[0])
	}
	for i := range l {
		p.d.Rot(place(1, i), 0, 1)
	}
	_, missing, _ := p.s.State()
	clear(missing)
	if _, missing, _ := p.s.State(); !slices.Equal(missing, []int{0, 1, 2}) {
		t.Errorf("State: missing %v", missing)
	}
}

// TestTwo is rule 4: two stores know nothing of each other.
func TestTwo(t *testing.T) {
	p, q := busy(t), fresh(t)
	well(t, q, promise(3))
	well(t, p, keep(api.Mark{Op: 8}, 65))
	well(t, q, put(entryAt(2, 1)))
	well(t, p, promise(8))
	same(t, p, "the one")
	same(t, q, "the other")
}
