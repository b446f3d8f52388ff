package super_test

import (
	"encoding/binary"
	"encoding/hex"
	"hash/crc32"
	"math"
	"math/rand"
	"reflect"
	"slices"
	"strings"
	"testing"
	"unsafe"

	"comptor/api"
	"comptor/crc"
	"comptor/disk"
	"comptor/super"
)

const (
	sectorBytes = 384
	copies      = 4
	blocks      = 6
	places      = 17 // numbers of a superblock
	superBytes  = 8 * places
	top         = 1<<56 - 1 // the greatest number
	mostSize    = 1920
)

var noughts = strings.Repeat("\x00", sectorBytes)

// part: one of a superblock's numbers, its place, and what it may and may not be, if the others are those of some.
type part struct {
	name  string
	of    func(*api.Super) *int
	place int
	right []int
	wrong []int
}

// bad: numbers that none may be.
func bad(more ...int) []int {
	return append(more, math.MinInt, math.MinInt+1, -1<<56, -1<<32+1, -256, -2, -1, top+1, top+2, 1<<57+1, 1<<62, math.MaxInt-1, math.MaxInt)
}

// parts is the chapter's words, but for what may be any number of 64 bits.
func parts() []part {
	return []part{
		{"Seq", func(s *api.Super) *int { return &s.Seq }, 0, []int{1, 2, 255, 256, 1 << 32, top - 1, top}, bad(0)},
		{"Who", func(s *api.Super) *int { return &s.Who }, 1, []int{1, 2, 3, 4, 5}, bad(0, 6, 7, 8, 256, 257, 1<<32+1, top)},
		{"Count", func(s *api.Super) *int { return &s.Count }, 2, []int{3, 5}, bad(0, 1, 2, 4, 6, 7, 8, 9, 11, 13, 256+3, 256+5, 1<<32+3, top)},
		{"View", func(s *api.Super) *int { return &s.View }, 3, []int{8, 9, 10, 256, 1 << 32, top - 1, top}, bad(0, 1, 6, 7)},
		{"LogView", func(s *api.Super) *int { return &s.LogView }, 4, []int{0, 1, 2, 8, 9}, bad(10, 11, 256, 1<<32, top)},
		{"Check.Op", func(s *api.Super) *int { return &s.Check.Op }, 5, []int{0, 1, 255, 256, 1 << 32, top - 1, top}, bad()},
		{"Check.View", func(s *api.Super) *int { return &s.Check.View }, 6, []int{0, 1, 255, 256, 1 << 32, top - 1, top}, bad()},
		{"Area", func(s *api.Super) *int { return &s.Area }, 8, []int{0, 1}, bad(2, 3, 4, 255, 256, 257, 1<<32, top)},
		{"Size", func(s *api.Super) *int { return &s.Size }, 9, []int{0, 1, 255, 256, 320, 1919, 1920}, bad(1921, 1922, 2048, 1<<16, 1<<32, top)},
	}
}

// wides: those that may be any number of 64 bits, by their places.
func wides(s *api.Super) map[int]*uint64 {
	l := map[int]*uint64{7: &s.Check.Sum, 16: &s.Parent}
	for i := range s.Sums {
		l[10+i] = &s.Sums[i]
	}
	return l
}

// some: a superblock that may be, whose numbers are unlike but for Area.
func some() api.Super {
	return api.Super{
		Seq: 6, Who: 3, Count: 5, View: 9, LogView: 8,
		Check: api.Mark{Op: 7, View: 10, Sum: 0xFEDCBA9876543210},
		Area:  1, Size: 1000,
		Sums:   [blocks]uint64{0x11, 0x22, 0x33, 0x44, 0x55, 0x66},
		Parent: 0x0123456789ABCDEF,
	}
}

// least: the superblock of the least numbers.
func least() api.Super {
	return api.Super{Seq: 1, Who: 1, Count: 3}
}

// full: the superblock of the greatest numbers.
func full() api.Super {
	s := api.Super{Seq: top, Who: 5, Count: 5, View: top, LogView: top, Check: api.Mark{Op: top, View: top}, Area: 1, Size: mostSize}
	for _, n := range wides(&s) {
		*n = math.MaxUint64
	}
	return s
}

// anySuper: one that may be, whose numbers look like any.
func anySuper(seed int64) api.Super {
	r := rand.New(rand.NewSource(seed))
	s := api.Super{
		Seq: 1 + r.Intn(top), Count: 3 + 2*r.Intn(2), View: r.Intn(top + 1),
		Check: api.Mark{Op: r.Intn(top + 1), View: r.Intn(top + 1), Sum: r.Uint64()},
		Area:  r.Intn(2), Size: r.Intn(mostSize + 1), Parent: r.Uint64(),
	}
	s.Who = 1 + r.Intn(s.Count)
	s.LogView = r.Intn(s.View + 1)
	for i := range s.Sums {
		s.Sums[i] = r.Uint64()
	}
	return s
}

// supers: some that may be: the ends, each number at its own, each wide one, and any.
func supers() []api.Super {
	l := []api.Super{some(), least(), full()}
	for _, p := range parts() {
		for _, n := range p.right {
			s := some()
			*p.of(&s) = n
			l = append(l, s)
		}
	}
	for place := range wides(&api.Super{}) {
		for _, n := range []uint64{0, 1, 255, top, top + 1, 1 << 63, math.MaxUint64} {
			s := some()
			*wides(&s)[place] = n
			l = append(l, s)
		}
	}
	for seed := range 50 {
		l = append(l, anySuper(int64(seed)))
	}
	return l
}

// wrongs: superblocks that may not be, most of them by one number.
func wrongs() []api.Super {
	l := []api.Super{{}}
	for _, p := range parts() {
		for _, n := range p.wrong {
			s := some()
			*p.of(&s) = n
			l = append(l, s)
		}
	}
	return append(l, together()...)
}

// together: superblocks that may not be, some by two numbers that may be, but not beside one another.
func together() []api.Super {
	return []api.Super{
		{Seq: 1, Who: 4, Count: 3}, {Seq: 1, Who: 5, Count: 3}, {Seq: 1, Who: 6, Count: 5},
		{Seq: 1, Who: 1, Count: 1}, {Seq: 1, Who: 1, Count: 2}, {Seq: 1, Who: 1, Count: 4}, {Seq: 1, Who: 1, Count: 6}, {Seq: 1, Who: 7, Count: 7},
		{Seq: 1, Count: 3}, {Seq: 1, Count: 5}, {Seq: 1, Who: 1}, {Who: 1, Count: 3},
		{Seq: 1, Who: 1, Count: 3, LogView: 1}, {Seq: 1, Who: 1, Count: 3, View: 1, LogView: 2}, {Seq: 1, Who: 1, Count: 3, View: top - 1, LogView: top},
		{Seq: 1, Who: 1, Count: 3, View: -1, LogView: -1}, {Seq: 1, Who: 1, Count: 3, View: -1}, {Seq: 1, Who: 1, Count: 3, View: -1, LogView: -2},
		{Seq: 1, Who: 1, Count: 3, View: top + 1}, {Seq: 1, Who: 1, Count: 3, View: top + 1, LogView: top + 1},
		{Seq: 1, Who: -1, Count: -1}, {Seq: 1, Who: 1, Count: -3}, {Seq: 1, Who: -3, Count: -3}, {Seq: 1, Who: -1, Count: 3},
	}
}

// built is the chapter's words on a superblock's bytes, though it may not be.
func built(s api.Super) string {
	var l [places]uint64
	for _, p := range parts() {
		l[p.place] = uint64(*p.of(&s))
	}
	for place, n := range wides(&s) {
		l[place] = *n
	}
	var b []byte
	for _, n := range l {
		b = binary.LittleEndian.AppendUint64(b, n)
	}
	return string(b)
}

// sealed is chapter 4's words on a sealed sector.
func sealed(g byte, text string) string {
	b := make([]byte, sectorBytes)
	b[0], b[383] = g, g
	binary.LittleEndian.PutUint16(b[1:], uint16(len(text)))
	copy(b[3:], text)
	binary.LittleEndian.PutUint32(b[379:], crc32.Checksum(b[:379], crc32.MakeTable(crc32.Castagnoli)))
	return string(b)
}

// over: the sector with a superblock that is sealed over another sector.
func over(old string, s api.Super) string {
	return sealed(old[383]+1, built(s))
}

// turned: a text one byte of which is turned.
func turned(s string, at int, mask byte) string {
	b := []byte(s)
	b[at] ^= mask
	return string(b)
}

// blank: a disk of noughts.
func blank(t *testing.T, sectors int) *disk.Disk {
	t.Helper()
	d, e := disk.New(sectors)
	if e != api.OK {
		t.Fatalf("disk.New(%d): %d", sectors, e)
	}
	return d
}

// with: a disk with these sectors, and one more, from which nothing is to be read.
func with(t *testing.T, sectors ...string) *disk.Disk {
	t.Helper()
	d := blank(t, len(sectors)+1)
	s := full()
	for i, bytes := range append(slices.Clone(sectors), sealed(7, built(s))) {
		if e := d.Write(i, bytes); e != api.OK {
			t.Fatalf("disk.Write: %d", e)
		}
	}
	if e := d.Flush(); e != api.OK {
		t.Fatalf("disk.Flush: %d", e)
	}
	return d
}

// fourOf: a disk four copies of which have a superblock.
func fourOf(t *testing.T, s api.Super) *disk.Disk {
	t.Helper()
	c := over(noughts, s)
	return with(t, c, c, c, c)
}

// is tells that a call answered another error.
func is(t *testing.T, what string, got, want api.Errno) {
	t.Helper()
	if got != want {
		t.Errorf("%s: %d, not %d", what, got, want)
	}
}

// reads tells that something else is read.
func reads(t *testing.T, d *disk.Disk, want api.Super, have int) {
	t.Helper()
	if s, n, e := super.Read(d); s != want || n != have || e != api.OK {
		t.Errorf("Read: %+v %d %d, not %+v %d", s, n, e, want, have)
	}
}

// readsNone tells that something is read, or another error.
func readsNone(t *testing.T, d *disk.Disk, want api.Errno) {
	t.Helper()
	if s, n, e := super.Read(d); s != (api.Super{}) || n != 0 || e != want {
		t.Errorf("Read: %+v %d %d, not %d", s, n, e, want)
	}
}

// like tells that what lasts of a disk is otherwise, but for the sector behind.
func like(t *testing.T, d *disk.Disk, want ...string) {
	t.Helper()
	for i, w := range want {
		if got := d.Lasts(i); got != w {
			t.Errorf("the sector %d: %x, not %x", i, got, w)
		}
	}
	if got := d.Lasts(len(want)); got != "" && got != sealed(7, built(full())) {
		t.Errorf("the sector %d was changed", len(want))
	}
}

// isNone tells that bytes have a superblock.
func isNone(t *testing.T, what, b string) {
	t.Helper()
	if s, e := super.Unpack(b); s != (api.Super{}) || e != api.ErrForm {
		t.Errorf("%s: Unpack(%x): %+v %d", what, b, s, e)
	}
}

// TestParts is about these tests: all of a superblock's numbers are asked for, each by its name, each at its place.
func TestParts(t *testing.T) {
	kind := reflect.TypeFor[api.Super]()
	if n := kind.NumField() - 2 + 3 + blocks - 1 + 1; n != places || len(parts())+len(wides(&api.Super{})) != places {
		t.Fatalf("a superblock has %d numbers", n)
	}
	seen := map[int]bool{}
	for _, p := range parts() {
		var s api.Super
		*p.of(&s) = 7
		v := reflect.ValueOf(s)
		for name := range strings.SplitSeq(p.name, ".") {
			v = v.FieldByName(name)
		}
		if v.Int() != 7 || seen[p.place] {
			t.Errorf("%s is another", p.name)
		}
		seen[p.place] = true
	}
	for place := range wides(&api.Super{}) {
		if seen[place] {
			t.Errorf("the place %d is had twice", place)
		}
	}
	if api.SectorBytes != sectorBytes || api.Copies != copies || api.Blocks != blocks || api.MaxNumber != top || api.Blocks*api.BlockBytes != mostSize {
		t.Error("another limit")
	}
}

// TestExamples is the chapter's.
func TestExamples(t *testing.T) {
	d := blank(t, copies)
	readsNone(t, d, api.ErrLost)
	is(t, "Write", super.Write(d, some()), api.OK)
	reads(t, d, some(), 4)
}

// TestKnown is P11.1 and P11.3 by bytes and sums that were reckoned apart from this program.
func TestKnown(t *testing.T) {
	nearly := full()
	nearly.Seq--
	for _, x := range []struct {
		s     api.Super
		want  string
		chain uint64
		sum   string // the sector's last bytes, if it is sealed over one that ends with last
		last  byte
	}{
		{least(), "010000000000000001000000000000000300000000000000" + strings.Repeat("00", 112), 0x3f1009897120b879, "8e1dda4101", 0},
		{
			some(),
			"0600000000000000" + "0300000000000000" + "0500000000000000" + "0900000000000000" + "0800000000000000" +
				"0700000000000000" + "0a00000000000000" + "1032547698badcfe" + "0100000000000000" + "e803000000000000" +
				"1100000000000000" + "2200000000000000" + "3300000000000000" + "4400000000000000" + "5500000000000000" + "6600000000000000" +
				"efcdab8967452301",
			0x6f3e7ce63678b794, "8791551601", 0,
		},
		{
			nearly,
			"feffffffffffff00" + "0500000000000000" + "0500000000000000" + strings.Repeat("ffffffffffffff00", 4) +
				strings.Repeat("ff", 8) + "0100000000000000" + "8007000000000000" + strings.Repeat("ff", 56),
			0x6a23b3a7f03d264b, "1624085300", 255,
		},
	} {
		bytes, _ := hex.DecodeString(x.want)
		sum, _ := hex.DecodeString(x.sum)
		if got, e := super.Pack(x.s); got != string(bytes) || e != api.OK {
			t.Errorf("Pack: %x %d, not %x", got, e, bytes)
		}
		if got, e := super.Unpack(string(bytes)); got != x.s || e != api.OK {
			t.Errorf("Unpack: %+v %d, not %+v", got, e, x.s)
		}
		want := x.s
		want.Seq, want.Parent = x.s.Seq+1, x.chain
		if got := super.Next(x.s); got != want {
			t.Errorf("Next: %+v, not %+v", got, want)
		}
		old := turned(noughts, 383, x.last)
		d := with(t, old, old, old, old)
		is(t, "Write", super.Write(d, x.s), api.OK)
		sector := string([]byte{x.last + 1}) + "\x88\x00" + string(bytes) + strings.Repeat("\x00", 379-3-superBytes) + string(sum)
		like(t, d, sector, sector, sector, sector)
	}
}

// TestRight is P11.1: which superblocks may be, by each number's ends, and by one beside the other.
func TestRight(t *testing.T) {
	for _, s := range supers() {
		if !super.Right(s) {
			t.Errorf("Right(%+v): no", s)
		}
	}
	for _, s := range wrongs() {
		if super.Right(s) {
			t.Errorf("Right(%+v): yes", s)
		}
	}
}

// TestRightGroup is P11.1: Count is 3 or 5, Who 1 to that.
func TestRightGroup(t *testing.T) {
	for count := -10; count <= 20; count++ {
		for who := -10; who <= 20; who++ {
			s := some()
			s.Count, s.Who = count, who
			want := (count == 3 || count == 5) && who >= 1 && who <= count
			if super.Right(s) != want {
				t.Errorf("Right with %d of %d: not %v", who, count, want)
			}
		}
	}
}

// TestRightViews is P11.1: LogView is 0 to View, which is 0 to MaxNumber.
func TestRightViews(t *testing.T) {
	ends := append([]int{0, 1, 2, 3, top - 1, top}, bad()...)
	for _, view := range ends {
		for _, logView := range ends {
			s := some()
			s.View, s.LogView = view, logView
			want := view >= 0 && view <= top && logView >= 0 && logView <= view
			if super.Right(s) != want {
				t.Errorf("Right with the view %d, the log's %d: not %v", view, logView, want)
			}
		}
	}
}

// TestPack is P11.1: each number at its place; a superblock that may not be has no bytes.
func TestPack(t *testing.T) {
	for _, s := range supers() {
		if got, e := super.Pack(s); got != built(s) || e != api.OK {
			t.Errorf("Pack(%+v): %x %d, not %x", s, got, e, built(s))
		}
	}
	for _, s := range wrongs() {
		if got, e := super.Pack(s); got != "" || e != api.ErrForm {
			t.Errorf("Pack(%+v): %x %d", s, got, e)
		}
	}
}

// TestUnpack is P11.1: the superblock whose bytes they are; none, if it may not be.
func TestUnpack(t *testing.T) {
	for _, s := range supers() {
		if got, e := super.Unpack(built(s)); got != s || e != api.OK {
			t.Errorf("Unpack(%x): %+v %d, not %+v", built(s), got, e, s)
		}
	}
	for _, s := range wrongs() {
		isNone(t, "a number that may not be", built(s))
	}
}

// TestUnpackLength is P11.1: fewer bytes, or more, are none's.
func TestUnpackLength(t *testing.T) {
	for _, s := range []api.Super{least(), some(), full()} {
		good := built(s)
		for n := range superBytes {
			isNone(t, "the first bytes", good[:n])
			isNone(t, "the last bytes", good[superBytes-n:])
			isNone(t, "bytes without one", good[:n]+good[n+1:])
			isNone(t, "bytes with one more", good[:n]+"\x00"+good[n:])
		}
		for c := range 256 {
			isNone(t, "one more", good+string([]byte{byte(c)}))
		}
		isNone(t, "a number more", good+built(s)[:8])
		isNone(t, "noughts more", good+strings.Repeat("\x00", 8))
		isNone(t, "both", good+good)
		isNone(t, "very many", strings.Repeat(good, 5000))
		isNone(t, "a whole sector", sealed(1, good))
	}
	isNone(t, "noughts", strings.Repeat("\x00", superBytes))
	isNone(t, "ones", strings.Repeat("\xff", superBytes))
}

// TestUnpackBytes is P11.1: whatever one byte is, the bytes are the superblock's that has just these, or none's.
func TestUnpackBytes(t *testing.T) {
	for _, good := range []string{built(least()), built(some()), built(full())} {
		for at := range superBytes {
			for mask := 1; mask < 256; mask++ {
				b := turned(good, at, byte(mask))
				s, e := super.Unpack(b)
				if e == api.OK && (!super.Right(s) || built(s) != b) || e != api.OK && (e != api.ErrForm || s != api.Super{}) {
					t.Fatalf("Unpack(%x): %+v %d", b, s, e)
				}
				if wide := at/8 == 7 || at/8 >= 10; wide && e != api.OK {
					t.Fatalf("Unpack(%x): %d", b, e)
				}
			}
		}
	}
}

// TestNext is P11.1: Seq is one more, Parent the chain's sum of the bytes ahead; all else stays.
func TestNext(t *testing.T) {
	for _, s := range supers() {
		if s.Seq == top {
			continue
		}
		want := s
		want.Seq, want.Parent = s.Seq+1, crc.Chain(0, built(s))
		if got := super.Next(s); got != want {
			t.Errorf("Next(%+v): %+v, not %+v", s, got, want)
		}
	}
}

// TestNextNone is P11.1: behind the last number, and behind what may not be, there is the same one.
func TestNextNone(t *testing.T) {
	last := some()
	last.Seq = top
	for _, s := range append(wrongs(), last, full()) {
		if got := super.Next(s); got != s {
			t.Errorf("Next(%+v): %+v", s, got)
		}
	}
	ahead := some()
	ahead.Seq = top - 1
	if got := super.Next(ahead); got.Seq != top || !super.Right(got) || super.Next(got) != got {
		t.Errorf("Next(%+v): %+v", ahead, got)
	}
}

// TestNextChain is P11.1: each one hangs on all that stand ahead.
func TestNextChain(t *testing.T) {
	one, other := some(), some()
	other.Sums[5]++
	for range 20 {
		one, other = super.Next(one), super.Next(other)
		if one.Seq != other.Seq || one.Parent == other.Parent {
			t.Fatalf("%+v, and %+v", one, other)
		}
	}
	if one.Seq != 26 {
		t.Errorf("Seq %d", one.Seq)
	}
}

// sector: what a copy may be, and the superblock that it has; zero, if it can't be read.
type sector struct {
	bytes string
	has   api.Super
}

// sectors: copies of all kinds.
func sectors() []sector {
	s := some()
	next := super.Next(s)
	other := next
	other.View++
	later := super.Next(next)
	nothing := s
	nothing.Seq = 0
	return []sector{
		{noughts, api.Super{}},
		{sealed(1, built(s)), s},
		{sealed(200, built(s)), s},
		{sealed(2, built(next)), next},
		{sealed(255, built(other)), other},
		{sealed(3, built(later)), later},
		{sealed(1, ""), api.Super{}},
		{sealed(1, built(nothing)), api.Super{}},
		{turned(sealed(254, built(later)), 150, 1), api.Super{}},
		{turned(sealed(9, built(s)), 383, 64), api.Super{}},
	}
}

// four calls a function with each four of these copies.
func four(l []sector, f func(l [copies]sector)) {
	for i := range len(l) * len(l) * len(l) * len(l) {
		var x [copies]sector
		for k := range x {
			x[k] = l[i%len(l)]
			i /= len(l)
		}
		f(x)
	}
}

// bytesOf: four copies' sectors.
func bytesOf(l [copies]sector) []string {
	var b []string
	for _, x := range l {
		b = append(b, x.bytes)
	}
	return b
}

// TestRead is P11.2 by all fours of copies: the greatest Seq, the first one's, and how many have just that.
func TestRead(t *testing.T) {
	four(sectors(), func(l [copies]sector) {
		var want api.Super
		for _, x := range l {
			if x.has.Seq > want.Seq {
				want = x.has
			}
		}
		have := 0
		for _, x := range l {
			if x.has == want {
				have++
			}
		}
		d := with(t, bytesOf(l)...)
		if want == (api.Super{}) {
			readsNone(t, d, api.ErrLost)
		} else {
			reads(t, d, want, have)
		}
	})
}

// TestReadWhole is P11.2: a copy that has another number is another superblock's, though it has the same Seq.
func TestReadWhole(t *testing.T) {
	others := map[string]api.Super{}
	for _, p := range parts() {
		s := some()
		for _, n := range p.right {
			if n != *p.of(&s) && p.name != "Seq" {
				*p.of(&s) = n
				others[p.name] = s
				break
			}
		}
	}
	for place := range wides(&api.Super{}) {
		for _, mask := range []uint64{1, 1 << 63} {
			s := some()
			*wides(&s)[place] ^= mask
			others[hex.EncodeToString([]byte{byte(place), byte(mask)})] = s
		}
	}
	if len(others) != 8+2*8 {
		t.Errorf("%d others", len(others))
	}
	s := some()
	for name, other := range others {
		if other == s || !super.Right(other) {
			t.Fatalf("%s: no other", name)
		}
		a, b := sealed(1, built(s)), sealed(1, built(other))
		reads(t, with(t, a, b, b, b), s, 1)
		reads(t, with(t, b, a, a, a), other, 1)
		reads(t, with(t, a, b, a, b), s, 2)
		reads(t, with(t, noughts, noughts, b, a), other, 1)
		d := with(t, a, b, a, b)
		is(t, "Write", super.Write(d, s), api.OK)
		like(t, d, a, over(b, s), a, over(b, s))
	}
}

// TestReadAlone is P11.2: one copy is enough, wherever it is, and whatever its first byte.
func TestReadAlone(t *testing.T) {
	for i := range copies {
		for g := range 256 {
			l := []string{noughts, noughts, noughts, noughts}
			s := anySuper(int64(g))
			l[i] = sealed(byte(g), built(s))
			reads(t, with(t, l...), s, 1)
		}
	}
}

// TestReadTurned is P11.2: a copy a byte of which was turned can't be read, whichever it is.
func TestReadTurned(t *testing.T) {
	s := some()
	next := super.Next(s)
	for at := range sectorBytes {
		good := sealed(byte(at), built(next))
		l := []string{sealed(1, built(s)), sealed(2, built(s)), sealed(3, built(s)), sealed(4, built(s))}
		l[at%copies] = good
		reads(t, with(t, l...), next, 1)
		l[at%copies] = turned(good, at, byte(1+at%255))
		reads(t, with(t, l...), s, 3)
	}
}

// TestReadForm is P11.2: sealed sectors with bytes that are no superblock's can't be read.
func TestReadForm(t *testing.T) {
	texts := []string{"", "x", built(some())[1:], built(some()) + "\x00", built(some()) + built(some()), strings.Repeat("\x01", 376)}
	for _, s := range wrongs() {
		texts = append(texts, built(s))
	}
	for _, text := range texts {
		c := sealed(5, text)
		readsNone(t, with(t, c, c, c, c), api.ErrLost)
		reads(t, with(t, c, c, sealed(1, built(least())), c), least(), 1)
		d := with(t, c, c, c, c)
		is(t, "Write", super.Write(d, least()), api.OK)
		like(t, d, over(c, least()), over(c, least()), over(c, least()), over(c, least()))
	}
}

// TestReadErrors is P11.2: the disk's first error is told, whatever the copies ahead have.
func TestReadErrors(t *testing.T) {
	readsNone(t, nil, api.ErrNil)
	for n := 1; n < copies; n++ {
		d := blank(t, n)
		readsNone(t, d, api.ErrArg)
		super.Write(d, some())
		readsNone(t, d, api.ErrArg)
		d.Cut()
		readsNone(t, d, api.ErrDown)
	}
	d := fourOf(t, some())
	reads(t, d, some(), 4)
	d.Cut()
	readsNone(t, d, api.ErrDown)
	d.Start(nil)
	reads(t, d, some(), 4)
	d = blank(t, api.Sectors)
	d.Cut()
	readsNone(t, d, api.ErrDown)
}

// TestReadUnderWay is P11.2: what is under way is read, as the disk tells it.
func TestReadUnderWay(t *testing.T) {
	s := some()
	d := fourOf(t, s)
	next := super.Next(s)
	d.Write(2, sealed(9, built(next)))
	reads(t, d, next, 1)
	d.Write(2, noughts)
	reads(t, d, s, 3)
	d.Cut()
	d.Start([]int{1, 0})
	reads(t, d, next, 1)
}

// TestReadLeaves: a read changes nothing, and answers the same once more.
func TestReadLeaves(t *testing.T) {
	for _, x := range sectors() {
		l := []string{x.bytes, noughts, sealed(3, built(least())), x.bytes}
		d := with(t, l...)
		d.Fuse(2)
		steps := d.Steps()
		s, n, e := super.Read(d)
		u, m, f := super.Read(d)
		if s != u || n != m || e != f || d.Steps() != steps || d.Pending() != 0 {
			t.Errorf("%+v %d %d, then %+v %d %d", s, n, e, u, m, f)
		}
		like(t, d, l...)
		is(t, "disk.Flush", d.Flush(), api.OK)
		is(t, "disk.Flush", d.Flush(), api.ErrDown)
	}
}

// TestWrite is P11.3 by all fours of copies: who has it is left, each other one is sealed over what it was, and lasts.
func TestWrite(t *testing.T) {
	kinds := sectors()
	four(kinds, func(l [copies]sector) {
		s := l[0].has
		if s == (api.Super{}) {
			s = some()
		}
		d := with(t, bytesOf(l)...)
		steps := d.Steps()
		is(t, "Write", super.Write(d, s), api.OK)
		want := bytesOf(l)
		for i, x := range l {
			if x.has != s {
				want[i] = over(x.bytes, s)
				steps += 2
			}
		}
		like(t, d, want...)
		if d.Steps() != steps || d.Pending() != 0 || !d.On() {
			t.Errorf("%d steps, not %d; %d under way", d.Steps(), steps, d.Pending())
		}
	})
}

// TestWriteAll is P11.3 and P11.2: each one that may be is written over each other one, and read; Seq plays no part.
func TestWriteAll(t *testing.T) {
	d := blank(t, api.Sectors)
	l := supers()
	rand.New(rand.NewSource(1)).Shuffle(len(l), func(i, k int) { l[i], l[k] = l[k], l[i] })
	for i, s := range l {
		steps := d.Steps()
		is(t, "Write", super.Write(d, s), api.OK)
		reads(t, d, s, 4)
		want := 8
		if i > 0 && s == l[i-1] {
			want = 0
		}
		if d.Steps() != steps+want {
			t.Errorf("%d steps", d.Steps()-steps)
		}
		steps = d.Steps()
		is(t, "Write", super.Write(d, s), api.OK)
		if d.Steps() != steps {
			t.Errorf("%d steps for nothing", d.Steps()-steps)
		}
	}
	for i := copies; i < api.Sectors; i++ {
		if d.Lasts(i) != noughts {
			t.Errorf("the sector %d was written", i)
		}
	}
}

// TestWriteForm is P11.3: a superblock that may not be is refused ahead of all else, and nothing is done.
func TestWriteForm(t *testing.T) {
	for _, s := range wrongs() {
		is(t, "Write to nobody", super.Write(nil, s), api.ErrForm)
		is(t, "Write to too few", super.Write(blank(t, 1), s), api.ErrForm)
		d := fourOf(t, some())
		d.Fuse(1)
		steps := d.Steps()
		is(t, "Write", super.Write(d, s), api.ErrForm)
		reads(t, d, some(), 4)
		if d.Steps() != steps || d.Pending() != 0 || !d.On() {
			t.Error("something was done")
		}
		d.Cut()
		is(t, "Write without power", super.Write(d, s), api.ErrForm)
	}
}

// TestWriteErrors is P11.3: the disk's first error is told; the copies ahead of it are written.
func TestWriteErrors(t *testing.T) {
	s := some()
	is(t, "Write", super.Write(nil, s), api.ErrNil)
	for n := 1; n < copies; n++ {
		d := blank(t, n)
		is(t, "Write", super.Write(d, s), api.ErrArg)
		for i := range n {
			if d.Lasts(i) != over(noughts, s) {
				t.Errorf("of %d sectors the copy %d was not written", n, i)
			}
		}
		d.Cut()
		is(t, "Write", super.Write(d, s), api.ErrDown)
		if d.Steps() != 2*n {
			t.Errorf("of %d sectors: %d steps", n, d.Steps())
		}
	}
	d := fourOf(t, s)
	d.Cut()
	is(t, "Write without power", super.Write(d, super.Next(s)), api.ErrDown)
	is(t, "Write of the same without power", super.Write(d, s), api.ErrDown)
	d.Start(nil)
	reads(t, d, s, 4)
}

// TestWriteFuse is P11.3: wherever the power goes, the copies ahead last, one at most is under way, and none behind it is touched.
func TestWriteFuse(t *testing.T) {
	s := some()
	next := super.Next(s)
	old, done := sealed(4, built(s)), sealed(77, built(next))
	for set := range 1 << copies {
		l := []string{old, old, old, old}
		var due []int
		for i := range l {
			if set>>i&1 == 1 {
				l[i] = done
			} else {
				due = append(due, i)
			}
		}
		for fuse := 1; fuse <= 2*len(due)+1; fuse++ {
			d := with(t, l...)
			steps := d.Steps()
			d.Fuse(fuse)
			got, want := super.Write(d, next), slices.Clone(l)
			for _, i := range due[:(fuse-1)/2] {
				want[i] = over(old, next)
			}
			like(t, d, want...)
			if fuse > 2*len(due) {
				is(t, "Write", got, api.OK)
				continue
			}
			is(t, "Write", got, api.ErrDown)
			if d.On() || d.Steps() != steps+fuse || d.Pending() != (fuse-1)%2 {
				t.Errorf("a fuse of %d: %d steps, %d under way", fuse, d.Steps()-steps, d.Pending())
			}
			d.Start([]int{1})
			if fuse%2 == 0 {
				want[due[(fuse-1)/2]] = over(old, next)
			}
			like(t, d, want...)
		}
	}
}

// TestWriteUnderWay is P11.3: a copy that has it under way is left, and not flushed; another one is sealed over what is under way.
func TestWriteUnderWay(t *testing.T) {
	s := some()
	next := super.Next(s)
	d := fourOf(t, next)
	for i := range copies {
		d.Write(i, sealed(9, built(s)))
	}
	steps := d.Steps()
	is(t, "Write", super.Write(d, s), api.OK)
	if d.Steps() != steps || d.Pending() != copies {
		t.Errorf("%d steps, %d under way", d.Steps()-steps, d.Pending())
	}
	is(t, "Write", super.Write(d, next), api.OK)
	c := sealed(10, built(next))
	like(t, d, c, c, c, c)
}

// TestWriteGuard is P11.3: each write of a copy tells itself from the one ahead, round and round.
func TestWriteGuard(t *testing.T) {
	s := least()
	d := blank(t, copies)
	for i := range 600 {
		is(t, "Write", super.Write(d, s), api.OK)
		c := sealed(byte(i+1), built(s))
		like(t, d, c, c, c, c)
		s = super.Next(s)
	}
}

// rot is a byte of a copy that is turned, ahead of the power's loss or behind it.
type rot struct {
	copy, at, mask int
	behind         bool
}

// anyRots: rots of two copies at most, as often as may be.
func anyRots(r *rand.Rand) []rot {
	pair := r.Perm(copies)[:2]
	var l []rot
	for _, i := range pair {
		for range r.Intn(3) {
			l = append(l, rot{i, r.Intn(sectorBytes), 1 + r.Intn(255), r.Intn(2) == 0})
		}
	}
	return l
}

// rots: those of them that come then happen; a sector that was torn, or has rotted already, can't rot any more.
func rots(d *disk.Disk, l []rot, behind bool) {
	for _, x := range l {
		if x.behind == behind {
			d.Rot(x.copy, x.at, x.mask)
		}
	}
}

// survives tells that what is read behind a loss of power is neither one, or not the new one though it was written.
func survives(t *testing.T, d *disk.Disk, s api.Super, fuse, pick int, l []rot) {
	t.Helper()
	next := super.Next(s)
	rots(d, l, false)
	d.Fuse(fuse)
	e := super.Write(d, next)
	if e == api.OK {
		d.Cut()
	}
	d.Start([]int{pick})
	rots(d, l, true)
	got, n, failed := super.Read(d)
	if failed != api.OK || n < 1 || got != s && got != next || e == api.OK && (got != next || n < 2) {
		t.Fatalf("a fuse of %d, the pick %d, %+v: %+v %d %d", fuse, pick, l, got, n, failed)
	}
}

// TestPower is P11.4: wherever the power goes, whatever lasts, and whichever two copies rot.
func TestPower(t *testing.T) {
	s := some()
	r := rand.New(rand.NewSource(2))
	for fuse := range 2*copies + 2 {
		for c := range sectorBytes + 1 {
			for _, behind := range [][2]bool{{false, false}, {false, true}, {true, false}, {true, true}} {
				pair := r.Perm(copies)
				var l []rot
				for i, late := range behind {
					l = append(l, rot{pair[i], r.Intn(sectorBytes), 1 + r.Intn(255), late})
				}
				survives(t, fourOf(t, s), s, fuse, 2+3*c, l)
			}
		}
	}
}

// TestPowerPairs is P11.4: each two copies rot, each at each end of it, ahead and behind, and all or nothing lasts.
func TestPowerPairs(t *testing.T) {
	s := anySuper(1)
	s.Seq = 400
	for fuse := range 2*copies + 2 {
		for i := range copies {
			for k := range i {
				for _, pick := range []int{0, 1, 2 + 3*1, 2 + 3*100, 2 + 3*383} {
					for _, at := range []int{0, 1, 3, 100, 138, 382, 383} {
						var l []rot
						for _, behind := range []bool{false, true} {
							l = append(l, rot{i, at, 1, behind}, rot{k, 383 - at, 255, behind})
						}
						survives(t, fourOf(t, s), s, fuse, pick, l)
					}
				}
			}
		}
	}
}

// TestLives is P11.4 as it comes again and again: what was read is written to all copies, and the next one over it.
func TestLives(t *testing.T) {
	r := rand.New(rand.NewSource(3))
	d := blank(t, api.Sectors)
	s := least()
	is(t, "Write", super.Write(d, s), api.OK)
	for range 3000 {
		survives(t, d, s, r.Intn(2*copies+2), 3*r.Intn(2000)+r.Intn(3), anyRots(r))
		s, _, _ = super.Read(d)
		is(t, "Write", super.Write(d, s), api.OK)
		reads(t, d, s, 4)
	}
	if s.Seq < 1000 || s.Seq > 3001 {
		t.Errorf("Seq %d", s.Seq)
	}
}

// TestApart is the rules: nothing that is handed in is changed or kept, and no answer shares memory.
func TestApart(t *testing.T) {
	s := some()
	one, _ := super.Pack(s)
	two, _ := super.Pack(s)
	if one != two || unsafe.StringData(one) == unsafe.StringData(two) {
		t.Error("answers of Pack share memory")
	}
	b := []byte(one)
	got, _ := super.Unpack(unsafe.String(&b[0], len(b)))
	if string(b) != one {
		t.Error("what was handed in was changed")
	}
	clear(b)
	if got != s {
		t.Error("what was handed in was kept")
	}
	d, other := fourOf(t, s), fourOf(t, least())
	first, _, _ := super.Read(d)
	super.Write(d, super.Next(s))
	if first != s {
		t.Error("an answer of Read changed")
	}
	reads(t, other, least(), 4)
}

// TestAgain is the rule that an answer hangs on what is handed in alone.
func TestAgain(t *testing.T) {
	s, next := some(), super.Next(some())
	d := fourOf(t, s)
	for _, other := range append(supers(), wrongs()...) {
		super.Right(other)
		super.Pack(other)
		super.Unpack(built(other))
		super.Next(other)
		super.Write(blank(t, 5), other)
		if got, e := super.Pack(s); got != built(s) || e != api.OK {
			t.Errorf("Pack: %x %d", got, e)
		}
		if got, e := super.Unpack(built(s)); got != s || e != api.OK || super.Next(s) != next {
			t.Errorf("Unpack: %+v %d", got, e)
		}
		reads(t, d, s, 4)
	}
}
