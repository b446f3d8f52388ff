package disk_test

import (
	"math"
	"math/rand"
	"slices"
	"strings"
	"testing"
	"unsafe"

	"comptor/api"
	"comptor/disk"
)

const sectorBytes = 384

var noughts = strings.Repeat("\x00", sectorBytes)

// whole: a sector's bytes, all alike.
func whole(c string) string {
	return strings.Repeat(c, sectorBytes)
}

// made: a sector's bytes that look like any.
func made(seed int64) string {
	b := make([]byte, sectorBytes)
	rand.New(rand.NewSource(seed)).Read(b)
	return string(b)
}

// fresh: a disk that New made.
func fresh(t *testing.T, sectors int) *disk.Disk {
	t.Helper()
	d, e := disk.New(sectors)
	if e != api.OK || d == nil {
		t.Fatalf("New(%d): %v %d", sectors, d, e)
	}
	return d
}

// is tells that a call answered another error.
func is(t *testing.T, what string, got, want api.Errno) {
	t.Helper()
	if got != want {
		t.Errorf("%s: %d, not %d", what, got, want)
	}
}

// reads tells that a read was another.
func reads(t *testing.T, d *disk.Disk, i int, want string) {
	t.Helper()
	if s, e := d.Read(i); s != want || e != api.OK {
		t.Errorf("Read(%d): %q %d, not %q", i, s, e, want)
	}
}

// lasts tells that what lasts is another, or has another mark.
func lasts(t *testing.T, d *disk.Disk, i int, want string, marked bool) {
	t.Helper()
	if s := d.Lasts(i); s != want {
		t.Errorf("Lasts(%d): %q, not %q", i, s, want)
	}
	if d.Marked(i) != marked {
		t.Errorf("Marked(%d): %v", i, !marked)
	}
}

// like tells that a disk is off where it is to be on, has other writes under way, or other steps.
func like(t *testing.T, d *disk.Disk, on bool, pending, steps int) {
	t.Helper()
	if d.On() != on || d.Pending() != pending || d.Steps() != steps {
		t.Errorf("on %v, %d under way, %d steps, not %v %d %d", d.On(), d.Pending(), d.Steps(), on, pending, steps)
	}
}

// TestNew is P3.1: 1 to 64 sectors, all of noughts; the disk is on.
func TestNew(t *testing.T) {
	for _, n := range []int{math.MinInt, -64, -1, 0, 65, 66, 128, 256 + 1, 1<<32 + 1, math.MaxInt} {
		if d, e := disk.New(n); d != nil || e != api.ErrArg {
			t.Errorf("New(%d): %v %d", n, d, e)
		}
	}
	for n := 1; n <= 64; n++ {
		d := fresh(t, n)
		like(t, d, true, 0, 0)
		for i := 0; i < n; i++ {
			reads(t, d, i, noughts)
			lasts(t, d, i, noughts, false)
		}
		if s, e := d.Read(n); s != "" || e != api.ErrArg {
			t.Errorf("a disk of %d: Read(%d): %q %d", n, n, s, e)
		}
	}
}

// TestNil is the chapter's word about a nil disk, whatever else is wrong.
func TestNil(t *testing.T) {
	var d *disk.Disk
	for _, i := range []int{0, -1, 64} {
		if s, e := d.Read(i); s != "" || e != api.ErrNil {
			t.Errorf("Read: %q %d", s, e)
		}
		is(t, "Write", d.Write(i, noughts), api.ErrNil)
		is(t, "Write", d.Write(i, ""), api.ErrNil)
		is(t, "Fuse", d.Fuse(i), api.ErrNil)
		is(t, "Start", d.Start([]int{i}), api.ErrNil)
		is(t, "Rot", d.Rot(i, 0, 1), api.ErrNil)
		is(t, "Rot", d.Rot(i, -1, 0), api.ErrNil)
		if d.Marked(i) || d.Lasts(i) != "" {
			t.Error("a sector of nobody")
		}
	}
	is(t, "Flush", d.Flush(), api.ErrNil)
	is(t, "Cut", d.Cut(), api.ErrNil)
	is(t, "Start", d.Start(nil), api.ErrNil)
	if d.On() || d.Pending() != 0 || d.Steps() != 0 {
		t.Error("nobody is on")
	}
}

// TestNoSector is P3.1 and P3.4: calls for a sector that isn't there, on or off, change nothing.
func TestNoSector(t *testing.T) {
	d := fresh(t, 3)
	for _, on := range []bool{true, false} {
		for _, i := range []int{math.MinInt, -1, 3, 4, 64, 1 << 32, math.MaxInt} {
			if s, e := d.Read(i); s != "" || e != api.ErrArg {
				t.Errorf("Read(%d): %q %d", i, s, e)
			}
			is(t, "Write", d.Write(i, noughts), api.ErrArg)
			is(t, "Rot", d.Rot(i, 0, 1), api.ErrArg)
			if d.Lasts(i) != "" || d.Marked(i) {
				t.Errorf("there is a sector %d", i)
			}
		}
		like(t, d, on, 0, 0)
		d.Cut()
	}
}

// TestWrite is P3.1: what is under way is read, and lasts with the flush alone; the last write is read.
func TestWrite(t *testing.T) {
	d := fresh(t, 3)
	is(t, "Write", d.Write(1, whole("a")), api.OK)
	like(t, d, true, 1, 1)
	reads(t, d, 1, whole("a"))
	lasts(t, d, 1, noughts, false)
	is(t, "Write", d.Write(1, whole("b")), api.OK)
	is(t, "Write", d.Write(2, made(1)), api.OK)
	like(t, d, true, 3, 3)
	reads(t, d, 0, noughts)
	reads(t, d, 1, whole("b"))
	reads(t, d, 2, made(1))
	lasts(t, d, 1, noughts, false)
	is(t, "Flush", d.Flush(), api.OK)
	like(t, d, true, 0, 4)
	for i, want := range []string{noughts, whole("b"), made(1)} {
		reads(t, d, i, want)
		lasts(t, d, i, want, false)
	}
	is(t, "Write", d.Write(1, whole("c")), api.OK)
	reads(t, d, 1, whole("c"))
	lasts(t, d, 1, whole("b"), false)
	is(t, "Flush", d.Flush(), api.OK)
	is(t, "Flush", d.Flush(), api.OK)
	like(t, d, true, 0, 7)
	reads(t, d, 1, whole("c"))
}

// TestWriteLength is P3.1: a text that is no sector's is refused, on or off, and neither counts nor burns the fuse.
func TestWriteLength(t *testing.T) {
	d := fresh(t, 2)
	d.Write(0, whole("a"))
	d.Fuse(1)
	for _, on := range []bool{true, false} {
		for _, n := range []int{0, 1, 376, 383, 385, 512, 768, 65536 + 384} {
			is(t, "Write", d.Write(0, strings.Repeat("x", n)), api.ErrArg)
		}
		is(t, "Write", d.Write(2, noughts), api.ErrArg)
		like(t, d, on, 1, 1)
		d.Cut()
	}
	d.Start([]int{1})
	reads(t, d, 0, whole("a"))
}

// TestDown is P3.1 and P3.2: a disk that is off refuses, and none of these calls counts.
func TestDown(t *testing.T) {
	d := fresh(t, 2)
	d.Write(0, whole("a"))
	is(t, "Cut", d.Cut(), api.OK)
	like(t, d, false, 1, 1)
	if s, e := d.Read(0); s != "" || e != api.ErrDown {
		t.Errorf("Read: %q %d", s, e)
	}
	is(t, "Write", d.Write(0, whole("b")), api.ErrDown)
	is(t, "Flush", d.Flush(), api.ErrDown)
	is(t, "Cut", d.Cut(), api.ErrDown)
	for _, n := range []int{-1, 0, 1, 2} {
		is(t, "Fuse", d.Fuse(n), api.ErrDown)
	}
	like(t, d, false, 1, 1)
	lasts(t, d, 0, noughts, false)
	is(t, "Start", d.Start([]int{1}), api.OK)
	like(t, d, true, 0, 1)
	reads(t, d, 0, whole("a"))
	for range 3 {
		is(t, "a Fuse that was refused burns: Flush", d.Flush(), api.OK)
	}
	like(t, d, true, 0, 4)
}

// TestFuse is P3.1 and P3.2: the call at which the fuse is 1 does nothing but count; reads don't burn it.
func TestFuse(t *testing.T) {
	for n := 1; n < 6; n++ {
		for _, flush := range []bool{false, true} {
			d := fresh(t, 2)
			is(t, "Fuse", d.Fuse(n), api.OK)
			for k := 1; k < n; k++ {
				is(t, "Write", d.Write(0, whole("a")), api.OK)
				reads(t, d, 0, whole("a"))
				is(t, "Start", d.Start(nil), api.ErrBusy)
				is(t, "Rot", d.Rot(1, 400, 1), api.ErrArg)
			}
			like(t, d, true, n-1, n-1)
			if flush {
				is(t, "Flush", d.Flush(), api.ErrDown)
			} else {
				is(t, "Write", d.Write(1, whole("b")), api.ErrDown)
			}
			like(t, d, false, n-1, n)
			lasts(t, d, 0, noughts, false)
			is(t, "Start", d.Start([]int{1}), api.OK)
			reads(t, d, 1, noughts)
			if n > 1 {
				reads(t, d, 0, whole("a"))
			}
			for range 7 {
				is(t, "Flush", d.Flush(), api.OK)
			}
			like(t, d, true, 0, n+7)
		}
	}
}

// TestFuseAnew is P3.2: the last fuse holds; below 1 there is none; with the power it goes.
func TestFuseAnew(t *testing.T) {
	d := fresh(t, 1)
	for _, n := range []int{0, -1, -7, math.MinInt} {
		is(t, "Fuse", d.Fuse(2), api.OK)
		is(t, "Fuse", d.Fuse(n), api.OK)
		for range 9 {
			is(t, "Flush", d.Flush(), api.OK)
		}
	}
	d.Fuse(1)
	d.Fuse(3)
	is(t, "Flush", d.Flush(), api.OK)
	is(t, "Write", d.Write(0, noughts), api.OK)
	is(t, "Flush", d.Flush(), api.ErrDown)
	d.Start(nil)
	d.Fuse(math.MaxInt)
	is(t, "Flush", d.Flush(), api.OK)
	d.Fuse(1)
	d.Cut()
	d.Start(nil)
	is(t, "Write behind a fuse that went", d.Write(0, noughts), api.OK)
	is(t, "Flush behind a fuse that went", d.Flush(), api.OK)
}

// TestExamples is the chapter's.
func TestExamples(t *testing.T) {
	a := whole("a")
	for _, x := range []struct {
		picks  []int
		want   string
		marked bool
	}{
		{nil, noughts, false},
		{[]int{1}, a, false},
		{[]int{2 + 3*10}, a[:10] + noughts[10:], true},
	} {
		d := fresh(t, 1)
		d.Write(0, a)
		d.Cut()
		is(t, "Start", d.Start(x.picks), api.OK)
		reads(t, d, 0, x.want)
		lasts(t, d, 0, x.want, x.marked)
	}
}

// byPick is the chapter's words on a write that was under way: what lasts then, and the mark.
func byPick(p int, was, wrote string, marked bool) (string, bool) {
	if p < 0 {
		p = 0
	}
	c := (p / 3) % 385
	switch {
	case p%3 == 0, p%3 == 2 && c == 0:
		return was, marked
	case p%3 == 1, c == 384:
		return wrote, false
	}
	return wrote[:c] + was[c:], true
}

// picks: all that a write may meet, more than once round, and the ends.
func picks() []int {
	l := []int{math.MinInt, math.MinInt + 1, math.MinInt + 2, -4, -3, -2, -1, math.MaxInt, math.MaxInt - 1, math.MaxInt - 2, 1 << 32, 1<<32 + 1, 1<<32 + 2}
	for p := 0; p < 2*3*385+9; p++ {
		l = append(l, p)
	}
	return l
}

// TestPick is P3.3: one write by each pick, on a sector without a mark, and on one with it.
func TestPick(t *testing.T) {
	for _, p := range picks() {
		for _, marked := range []bool{false, true} {
			d := fresh(t, 2)
			d.Write(1, made(1))
			d.Flush()
			if marked {
				d.Rot(1, 383, 255)
			}
			was := d.Lasts(1)
			d.Write(1, made(2))
			d.Cut()
			lasts(t, d, 1, was, marked)
			is(t, "Start", d.Start([]int{p}), api.OK)
			like(t, d, true, 0, 3)
			want, mark := byPick(p, was, made(2), marked)
			lasts(t, d, 1, want, mark)
			reads(t, d, 1, want)
			lasts(t, d, 0, noughts, false)
		}
	}
}

// TestPickSame is P3.3: a torn write leaves its mark, though the bytes be the same.
func TestPickSame(t *testing.T) {
	d := fresh(t, 1)
	d.Write(0, noughts)
	d.Cut()
	d.Start([]int{2 + 3*1})
	lasts(t, d, 0, noughts, true)
	d.Write(0, noughts)
	lasts(t, d, 0, noughts, true)
	d.Flush()
	lasts(t, d, 0, noughts, false)
}

// TestPicks is P3.3: the k-th write is by the place k modulo how many picks there are.
func TestPicks(t *testing.T) {
	for n := 1; n < 9; n++ {
		for first := -1; first < 3; first++ {
			var l []int
			for k := 0; k < n; k++ {
				l = append(l, first+k*(3*50+1))
			}
			d := fresh(t, 4)
			var want [4]string
			var mark [4]bool
			for i := range want {
				want[i] = noughts
			}
			for k := 0; k < 11; k++ {
				i := k * k % 4 // of some sectors there are several writes, of others none
				d.Write(i, made(int64(k)))
				want[i], mark[i] = byPick(l[k%n], want[i], made(int64(k)), mark[i])
			}
			d.Cut()
			is(t, "Start", d.Start(l), api.OK)
			for i := range want {
				lasts(t, d, i, want[i], mark[i])
			}
		}
	}
}

// TestPicksOrder is P3.3: writes of one sector land in order, each on what the one ahead of it left.
func TestPicksOrder(t *testing.T) {
	a, b, c := whole("a"), whole("b"), whole("c")
	for _, x := range []struct {
		picks  []int
		want   string
		marked bool
	}{
		{nil, noughts, false},
		{[]int{}, noughts, false},
		{[]int{1}, c, false},
		{[]int{1, 0}, c, false},
		{[]int{1, 0, 0}, a, false},
		{[]int{0, 1, 0}, b, false},
		{[]int{1, 2 + 3*9, 0}, b[:9] + a[9:], true},
		{[]int{2 + 3*9, 1, 0}, b, false},
		{[]int{2 + 3*9, 0, 0}, a[:9] + noughts[9:], true},
		{[]int{1, 2 + 3*9, 2 + 3*4}, c[:4] + b[4:9] + a[9:], true},
		{[]int{1, 2 + 3*4, 2 + 3*9}, c[:9] + a[9:], true},
		{[]int{2 + 3*9, 2 + 3*384, 0}, b, false},
		{[]int{2 + 3*9, 2 + 3*385, 0}, a[:9] + noughts[9:], true},
		{[]int{0, 0, 0, 1}, noughts, false}, // there is no fourth write
	} {
		d := fresh(t, 1)
		d.Write(0, a)
		d.Write(0, b)
		d.Write(0, c)
		d.Cut()
		is(t, "Start", d.Start(x.picks), api.OK)
		lasts(t, d, 0, x.want, x.marked)
		like(t, d, true, 0, 3)
	}
}

// TestStart is P3.3: a disk that is on refuses; behind it nothing is under way.
func TestStart(t *testing.T) {
	d := fresh(t, 2)
	d.Write(0, whole("a"))
	d.Fuse(2)
	for _, l := range [][]int{nil, {}, {1}, {0, 2}} {
		is(t, "Start", d.Start(l), api.ErrBusy)
	}
	like(t, d, true, 1, 1)
	lasts(t, d, 0, noughts, false)
	is(t, "Write", d.Write(1, whole("b")), api.OK)
	is(t, "Flush", d.Flush(), api.ErrDown)
	like(t, d, false, 2, 3)
	is(t, "Start", d.Start([]int{0}), api.OK)
	like(t, d, true, 0, 3)
	is(t, "Start", d.Start([]int{1}), api.ErrBusy)
	for i := range 2 {
		reads(t, d, i, noughts)
	}
	d.Cut()
	is(t, "Start", d.Start([]int{1}), api.OK)
	for i := range 2 {
		reads(t, d, i, noughts)
	}
}

// TestWritesAcrossFlush is P3.1 and P3.3: what was flushed is under way no more, whatever the picks.
func TestWritesAcrossFlush(t *testing.T) {
	d := fresh(t, 2)
	d.Write(0, whole("a"))
	d.Flush()
	d.Write(1, whole("b"))
	like(t, d, true, 1, 3)
	d.Cut()
	d.Start([]int{1, 0})
	lasts(t, d, 0, whole("a"), false)
	lasts(t, d, 1, whole("b"), false)
}

// TestRot is P3.4: each byte by each mask, on or off.
func TestRot(t *testing.T) {
	for at := 0; at < sectorBytes; at++ {
		mask := at%255 + 1
		d := fresh(t, 2)
		d.Write(1, made(7))
		d.Flush()
		if at%2 == 0 {
			d.Cut()
		}
		is(t, "Rot", d.Rot(1, at, mask), api.OK)
		want := []byte(made(7))
		want[at] ^= byte(mask)
		lasts(t, d, 1, string(want), true)
		lasts(t, d, 0, noughts, false)
		like(t, d, at%2 == 1, 0, 2)
		is(t, "Rot", d.Rot(1, at, mask), api.ErrTwice)
		lasts(t, d, 1, string(want), true)
		d.Start(nil)
		reads(t, d, 1, string(want))
		lasts(t, d, 1, string(want), true)
	}
}

// TestRotArgs is P3.4: what can't be is told ahead of the rest, and changes nothing.
func TestRotArgs(t *testing.T) {
	d := fresh(t, 3)
	d.Rot(1, 0, 1)
	d.Write(2, noughts)
	for _, on := range []bool{true, false} {
		for i := range 3 {
			was, marked := d.Lasts(i), d.Marked(i)
			for _, at := range []int{math.MinInt, -1, 384, 385, 1 << 32, math.MaxInt} {
				is(t, "Rot", d.Rot(i, at, 1), api.ErrArg)
			}
			for _, mask := range []int{math.MinInt, -255, -1, 0, 256, 257, 511, 1<<32 + 1, math.MaxInt} {
				is(t, "Rot", d.Rot(i, 0, mask), api.ErrArg)
			}
			lasts(t, d, i, was, marked)
		}
		like(t, d, on, 1, 1)
		d.Cut()
	}
}

// TestRotBusy is P3.4: a write under way, on or off, is told ahead of a mark; one of another sector is none.
func TestRotBusy(t *testing.T) {
	d := fresh(t, 3)
	d.Rot(0, 5, 8)
	d.Write(0, whole("a"))
	d.Write(1, whole("a"))
	d.Write(1, whole("b"))
	for range 2 {
		is(t, "Rot", d.Rot(0, 5, 8), api.ErrBusy)
		is(t, "Rot", d.Rot(1, 5, 8), api.ErrBusy)
		d.Cut()
	}
	is(t, "Rot", d.Rot(2, 5, 8), api.OK)
	lasts(t, d, 2, noughts[:5]+"\x08"+noughts[6:], true)
	d.Start(nil)
	is(t, "Rot", d.Rot(0, 5, 8), api.ErrTwice)
	is(t, "Rot", d.Rot(1, 5, 8), api.OK)
	d.Write(1, whole("c"))
	d.Flush()
	is(t, "Rot", d.Rot(1, 383, 255), api.OK)
	lasts(t, d, 1, whole("c")[:383]+"\x9c", true)
}

// TestMark is P3.1, P3.3 and P3.4: a mark stays till the sector is written wholly, and is its own alone.
func TestMark(t *testing.T) {
	d := fresh(t, 2)
	d.Rot(0, 0, 1)
	d.Rot(1, 0, 1)
	d.Write(0, whole("a"))
	lasts(t, d, 0, "\x01"+noughts[1:], true)
	d.Flush()
	lasts(t, d, 0, whole("a"), false)
	lasts(t, d, 1, "\x01"+noughts[1:], true)
	d.Flush()
	lasts(t, d, 1, "\x01"+noughts[1:], true)
	d.Cut()
	lasts(t, d, 1, "\x01"+noughts[1:], true)
	d.Start([]int{1})
	lasts(t, d, 1, "\x01"+noughts[1:], true)
	is(t, "Rot", d.Rot(0, 0, 'a'), api.OK)
	lasts(t, d, 0, "\x00"+whole("a")[1:], true)
}

// TestApart is the rules: disks share nothing, and nothing that was handed in or answered is kept or changed.
func TestApart(t *testing.T) {
	d, other := fresh(t, 2), fresh(t, 2)
	b := []byte(whole("a"))
	d.Write(0, unsafe.String(&b[0], len(b)))
	b[3] = 'z'
	reads(t, d, 0, whole("a"))
	s, _ := d.Read(0)
	r, _ := d.Read(0)
	d.Flush()
	reads(t, d, 0, whole("a"))
	l, m := d.Lasts(0), d.Lasts(0)
	if unsafe.StringData(s) == unsafe.StringData(r) || unsafe.StringData(l) == unsafe.StringData(m) {
		t.Error("two answers share memory")
	}
	d.Write(0, whole("b"))
	d.Flush()
	d.Rot(0, 0, 1)
	if s != whole("a") || r != s || l != s || m != s {
		t.Error("an answer changed behind its call")
	}
	reads(t, other, 0, noughts)
	like(t, other, true, 0, 0)
	d.Write(1, whole("c"))
	d.Cut()
	room := []int{5, 1, 7, 7}
	d.Start(room[:2])
	if !slices.Equal(room, []int{5, 1, 7, 7}) {
		t.Error("picks were changed", room)
	}
}

// slow is the chapter by its words: a list of writes, gone through anew for each question.
type slow struct {
	lasts  []string
	marked []bool
	under  []struct {
		i int
		s string
	}
	off         bool
	fuse, steps int
}

func (m *slow) burn() bool {
	m.steps++
	if m.fuse == 1 {
		m.off, m.fuse = true, 0
		return false
	}
	m.fuse--
	return true
}

func (m *slow) land(pick func(k int) int) {
	for k, w := range m.under {
		m.lasts[w.i], m.marked[w.i] = byPick(pick(k), m.lasts[w.i], w.s, m.marked[w.i])
	}
	m.under = nil
}

func (m *slow) write(i int, s string) api.Errno {
	if i < 0 || i >= len(m.lasts) || len(s) != sectorBytes {
		return api.ErrArg
	}
	if m.off || !m.burn() {
		return api.ErrDown
	}
	m.under = append(m.under, struct {
		i int
		s string
	}{i, s})
	return api.OK
}

func (m *slow) flush() api.Errno {
	if m.off || !m.burn() {
		return api.ErrDown
	}
	m.land(func(int) int { return 1 })
	return api.OK
}

func (m *slow) start(picks []int) api.Errno {
	if !m.off {
		return api.ErrBusy
	}
	m.land(func(k int) int { return append(slices.Clone(picks), 0)[k%max(len(picks), 1)] })
	m.off = false
	return api.OK
}

func (m *slow) rot(i, at, mask int) api.Errno {
	if i < 0 || i >= len(m.lasts) || at < 0 || at > 383 || mask < 1 || mask > 255 {
		return api.ErrArg
	}
	for _, w := range m.under {
		if w.i == i {
			return api.ErrBusy
		}
	}
	if m.marked[i] {
		return api.ErrTwice
	}
	b := []byte(m.lasts[i])
	b[at] ^= byte(mask)
	m.lasts[i], m.marked[i] = string(b), true
	return api.OK
}

func (m *slow) read(i int) (string, api.Errno) {
	if i < 0 || i >= len(m.lasts) {
		return "", api.ErrArg
	}
	if m.off {
		return "", api.ErrDown
	}
	s := m.lasts[i]
	for _, w := range m.under {
		if w.i == i {
			s = w.s
		}
	}
	return s, api.OK
}

// same tells how a disk is unlike the slow one.
func same(t *testing.T, d *disk.Disk, m *slow) {
	t.Helper()
	like(t, d, !m.off, len(m.under), m.steps)
	for i := -1; i <= len(m.lasts); i++ {
		s, e := d.Read(i)
		if want, we := m.read(i); s != want || e != we {
			t.Errorf("Read(%d): %d, not %d, or other bytes", i, e, we)
		}
		if i < 0 || i == len(m.lasts) {
			continue
		}
		lasts(t, d, i, m.lasts[i], m.marked[i])
	}
}

// TestAnyCalls is P3.1 to P3.4: calls one behind the other, as they come, against the chapter's words.
func TestAnyCalls(t *testing.T) {
	for seed := int64(0); seed < 300; seed++ {
		r := rand.New(rand.NewSource(seed))
		n := 1 + r.Intn(5)
		d, m := fresh(t, n), &slow{lasts: slices.Repeat([]string{noughts}, n), marked: make([]bool, n)}
		for range 120 {
			i := r.Intn(n+2) - 1
			switch r.Intn(10) {
			case 0, 1, 2, 3:
				s := made(r.Int63())[:384-r.Intn(6)/5]
				is(t, "Write", d.Write(i, s), m.write(i, s))
			case 4:
				is(t, "Flush", d.Flush(), m.flush())
			case 5, 6:
				at, mask := r.Intn(390)-3, r.Intn(262)-3
				is(t, "Rot", d.Rot(i, at, mask), m.rot(i, at, mask))
			case 7:
				k := r.Intn(9) - 2
				want := api.OK
				if m.off {
					want = api.ErrDown
				} else {
					m.fuse = max(k, 0)
				}
				is(t, "Fuse", d.Fuse(k), want)
			case 8:
				if r.Intn(3) > 0 {
					continue
				}
				want := api.OK
				if m.off {
					want = api.ErrDown
				}
				m.off, m.fuse = true, 0
				is(t, "Cut", d.Cut(), want)
			default:
				l := r.Perm(2000)[:r.Intn(5)]
				is(t, "Start", d.Start(l), m.start(l))
			}
			same(t, d, m)
		}
		if t.Failed() {
			t.Fatal("seed", seed)
		}
	}
}

// TestManyWrites is P3.1 and P3.3: reads stay quick, however many writes are under way.
func TestManyWrites(t *testing.T) {
	const many = 50000
	d := fresh(t, 64)
	s := made(1)
	d.Write(0, s)
	for range many {
		d.Write(1, noughts)
		if r, e := d.Read(0); r != s || e != api.OK {
			t.Fatal(e)
		}
	}
	like(t, d, true, many+1, many+1)
	d.Cut()
	d.Start([]int{1})
	lasts(t, d, 0, s, false)
}
