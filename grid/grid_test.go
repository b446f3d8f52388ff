package grid_test

import (
	"encoding/binary"
	"encoding/hex"
	"hash/crc32"
	"math"
	"math/rand"
	"slices"
	"strings"
	"testing"
	"unsafe"

	"comptor/api"
	"comptor/disk"
	"comptor/grid"
)

const (
	sectorBytes = 384
	sectors     = 32
	areas       = 2
	blocks      = 6
	blockBytes  = 320
	mostSize    = 1920
	mostSealed  = 376
)

var noughts = strings.Repeat("\x00", sectorBytes)

// sealed is chapter 4's words on a sealed sector.
func sealed(g byte, text string) string {
	b := make([]byte, sectorBytes)
	b[0], b[383] = g, g
	binary.LittleEndian.PutUint16(b[1:], uint16(len(text)))
	copy(b[3:], text)
	binary.LittleEndian.PutUint32(b[379:], crc32.Checksum(b[:379], crc32.MakeTable(crc32.Castagnoli)))
	return string(b)
}

// opened is chapter 4's words on what a sealed sector has.
func opened(sector string) (string, bool) {
	n := int(sector[1]) + 256*int(sector[2])
	if n > mostSealed || sealed(sector[0], sector[3:3+n]) != sector {
		return "", false
	}
	return sector[3 : 3+n], true
}

// over: the sector with a text that is sealed over another sector.
func over(old, text string) string {
	return sealed(old[383]+1, text)
}

// chain is chapter 2's words.
func chain(h uint64, s string) uint64 {
	h ^= 0xCBF29CE484222325
	for _, c := range binary.LittleEndian.AppendUint64([]byte(s), uint64(len(s))) {
		h = (h ^ uint64(c)) * 1099511628211
		h ^= h >> 29
	}
	return h
}

// pieces is the chapter's words on the blocks of a text.
func pieces(s string) []string {
	var l []string
	for len(s) > 0 {
		n := min(len(s), blockBytes)
		l, s = append(l, s[:n]), s[n:]
	}
	return l
}

// sumsOf is the chapter's words on the sums of a text that has blocks.
func sumsOf(s string) [blocks]uint64 {
	var sums [blocks]uint64
	for i, block := range pieces(s) {
		sums[i] = chain(uint64(i), block)
	}
	return sums
}

// place: where a block of an area lies.
func place(area, i int) int {
	return 20 + 6*area + i
}

// turned: a text one byte of which is turned.
func turned(s string, at int, mask byte) string {
	b := []byte(s)
	b[at] ^= mask
	return string(b)
}

// ascending: a text no two blocks of which are alike.
func ascending(size int) string {
	b := make([]byte, size)
	for i := range b {
		b[i] = byte((7*i + i/blockBytes) % 251)
	}
	return string(b)
}

// anyText: one whose bytes look like any.
func anyText(r *rand.Rand, size int) string {
	b := make([]byte, size)
	r.Read(b)
	return string(b)
}

// sizes: of texts, at the blocks' ends and elsewhere.
func sizes() []int {
	l := []int{2, 60, 255, 256, 257, 700, 1000, 1500}
	for i := range blocks + 1 {
		for n := i*blockBytes - 1; n <= i*blockBytes+1; n++ {
			if n >= 0 && n <= mostSize {
				l = append(l, n)
			}
		}
	}
	return l
}

// bad: numbers that neither an area nor a block nor a size has.
func bad(more ...int) []int {
	return append(more, math.MinInt, math.MinInt+1, -1<<32, -256, -21, -20, -6, -2, -1, 1<<16, 1<<32, 1<<32+1, 1<<62, math.MaxInt-1, math.MaxInt)
}

// blank: a disk of noughts.
func blank(t *testing.T, n int) *disk.Disk {
	t.Helper()
	d, e := disk.New(n)
	if e != api.OK {
		t.Fatalf("disk.New(%d): %d", n, e)
	}
	return d
}

// raw: sectors of a disk are made others, and last.
func raw(t *testing.T, d *disk.Disk, what map[int]string) {
	t.Helper()
	for at, bytes := range what {
		if e := d.Write(at, bytes); e != api.OK {
			t.Fatalf("disk.Write(%d): %d", at, e)
		}
	}
	if e := d.Flush(); e != api.OK {
		t.Fatalf("disk.Flush: %d", e)
	}
}

// busy: a disk of all sectors, no two of which are alike; some end with 255, some are noughts, some are sealed, some are not.
func busy(t *testing.T, seed int64) *disk.Disk {
	t.Helper()
	d := blank(t, sectors)
	r := rand.New(rand.NewSource(seed))
	what := map[int]string{}
	for at := range sectors {
		switch r.Intn(4) {
		case 0:
			what[at] = sealed(255, anyText(r, r.Intn(mostSealed+1)))
		case 1:
			what[at] = sealed(byte(r.Intn(256)), anyText(r, r.Intn(blockBytes+1)))
		case 2:
			what[at] = anyText(r, sectorBytes)
		}
	}
	raw(t, d, what)
	return d
}

// all: what lasts of a disk.
func all(d *disk.Disk) [sectors]string {
	var l [sectors]string
	for at := range l {
		l[at] = d.Lasts(at)
	}
	return l
}

// like tells that what lasts of a disk is otherwise.
func like(t *testing.T, what string, d *disk.Disk, want [sectors]string) {
	t.Helper()
	for at := range want {
		if got := d.Lasts(at); got != want[at] {
			t.Errorf("%s: the sector %d: %x, not %x", what, at, got, want[at])
		}
	}
}

// is tells that a call answered another error.
func is(t *testing.T, what string, got, want api.Errno) {
	t.Helper()
	if got != want {
		t.Errorf("%s: %d, not %d", what, got, want)
	}
}

// took tells that a disk went another number of steps since, or that something is under way.
func took(t *testing.T, what string, d *disk.Disk, since, want int) {
	t.Helper()
	if got := d.Steps() - since; got != want || d.Pending() != 0 {
		t.Errorf("%s: %d steps and %d writes under way, not %d", what, got, d.Pending(), want)
	}
}

// write: a text is written into an area.
func write(t *testing.T, d *disk.Disk, area int, s string) {
	t.Helper()
	if e := grid.Write(d, area, s); e != api.OK {
		t.Fatalf("Write of %d bytes into %d: %d", len(s), area, e)
	}
}

// has tells that a block is not there, or is another one.
func has(t *testing.T, what string, d *disk.Disk, area, i int, sum uint64, want string) {
	t.Helper()
	if got, ok, e := grid.Block(d, area, i, sum); got != want || !ok || e != api.OK {
		t.Errorf("%s: Block(%d, %d, %x): %x %v %d, not %x", what, area, i, sum, got, ok, e, want)
	}
}

// hasNone tells that a block is there, or another error.
func hasNone(t *testing.T, what string, d *disk.Disk, area, i int, sum uint64, want api.Errno) {
	t.Helper()
	if got, ok, e := grid.Block(d, area, i, sum); got != "" || ok || e != want {
		t.Errorf("%s: Block(%d, %d, %x): %x %v %d, not %d", what, area, i, sum, got, ok, e, want)
	}
}

// loads tells that another text is loaded, or none.
func loads(t *testing.T, what string, d *disk.Disk, area int, want string) {
	t.Helper()
	got, missing, e := grid.Load(d, area, len(want), sumsOf(want))
	if got != want || len(missing) != 0 || e != api.OK {
		t.Errorf("%s: Load of %d bytes from %d: %d bytes, missing %v, %d", what, len(want), area, len(got), missing, e)
	}
}

// lacks tells that something is loaded, or that other blocks are missing.
func lacks(t *testing.T, what string, d *disk.Disk, area, size int, sums [blocks]uint64, want ...int) {
	t.Helper()
	got, missing, e := grid.Load(d, area, size, sums)
	if got != "" || !slices.Equal(missing, want) || e != api.OK {
		t.Errorf("%s: Load of %d bytes from %d: %d bytes, missing %v, %d, not %v", what, size, area, len(got), missing, e, want)
	}
}

// fails tells that something is loaded or missing, or another error.
func fails(t *testing.T, what string, d *disk.Disk, area, size int, sums [blocks]uint64, want api.Errno) {
	t.Helper()
	got, missing, e := grid.Load(d, area, size, sums)
	if got != "" || len(missing) != 0 || e != want {
		t.Errorf("%s: Load(%d, %d): %x %v %d, not %d", what, area, size, got, missing, e, want)
	}
}

// TestLimits is about these tests: their numbers are the document's.
func TestLimits(t *testing.T) {
	if api.SectorBytes != sectorBytes || api.Sectors != sectors || api.Blocks != blocks || api.BlockBytes != blockBytes || api.MaxPayload != mostSealed {
		t.Error("another limit")
	}
	if api.Blocks*api.BlockBytes != mostSize || place(areas-1, blocks-1) != sectors-1 || place(0, 0) != api.Copies+2*api.Slots {
		t.Error("another place")
	}
}

// TestExamples is the chapter's.
func TestExamples(t *testing.T) {
	d := blank(t, sectors)
	write(t, d, 0, ascending(700))
	took(t, "Write of 700 bytes", d, 0, 4)
	for i, size := range []int{320, 320, 60, 0, 0, 0} {
		text, ok := opened(d.Lasts(place(0, i)))
		if len(text) != size || ok != (size > 0) {
			t.Errorf("the block %d: %d bytes, %v", i, len(text), ok)
		}
	}
	loads(t, "behind it", d, 0, ascending(700))
}

// TestKnown is P14.1 by bytes and sums that were reckoned apart from this program.
func TestKnown(t *testing.T) {
	for _, x := range []struct {
		text  string
		sums  [blocks]uint64
		first []string // of the blocks' sectors, which are sealed over one that ends with 255
		last  []string
	}{
		{"", [blocks]uint64{}, nil, nil},
		{"ab", [blocks]uint64{0xc72b5cc94b4fd91f}, []string{"0002006162000000"}, []string{"016416a500"}},
		{strings.Repeat("\x00", 320), [blocks]uint64{0x2f0a6356785da68c}, []string{"0040010000000000"}, []string{"acd985cf00"}},
		{
			strings.Repeat("\x00", 321), [blocks]uint64{0x2f0a6356785da68c, 0x4243e1ee367d840e},
			[]string{"0040010000000000", "0001000000000000"}, []string{"acd985cf00", "77d6c73e00"},
		},
		{
			ascending(700), [blocks]uint64{0x6401890a47ce8414, 0xda4a9fdcc4f51d07, 0xb1979b8b9e3dc40e},
			[]string{"00400100070e151c", "004001e9f0f7030a", "003c00d7dee5ecf3"}, []string{"fff14a8b00", "4e1d505700", "cb43589b00"},
		},
		{
			strings.Repeat("x", mostSize),
			[blocks]uint64{0x5a66014754a3eb47, 0x2290b1002bfd6011, 0x3ff1972f34f2469c, 0xc317ff9be38d4ecb, 0xdf03d87dfa496851, 0x829f5b3fbceb7610},
			slices.Repeat([]string{"0040017878787878"}, blocks), slices.Repeat([]string{"1c53b2d300"}, blocks),
		},
	} {
		if got, e := grid.Sums(x.text); got != x.sums || e != api.OK {
			t.Errorf("Sums of %d bytes: %x %d, not %x", len(x.text), got, e, x.sums)
		}
		for area := range areas {
			d := blank(t, sectors)
			for at := range sectors {
				raw(t, d, map[int]string{at: turned(noughts, 383, 255)})
			}
			write(t, d, area, x.text)
			for i := range x.first {
				got := hex.EncodeToString([]byte(d.Lasts(place(area, i))))
				if !strings.HasPrefix(got, x.first[i]) || !strings.HasSuffix(got, x.last[i]) {
					t.Errorf("the sector of the block %d: %s, not %s .. %s", i, got, x.first[i], x.last[i])
				}
			}
		}
	}
}

// TestSums is P14.1: of texts of all sizes that may be.
func TestSums(t *testing.T) {
	r := rand.New(rand.NewSource(1))
	for size := range mostSize + 1 {
		for _, s := range []string{ascending(size), strings.Repeat("\x00", size), anyText(r, size)} {
			if got, e := grid.Sums(s); got != sumsOf(s) || e != api.OK {
				t.Errorf("Sums of %d bytes: %x %d, not %x", size, got, e, sumsOf(s))
			}
		}
	}
}

// TestSumsByNumber is P14.1: blocks that are alike have sums by their numbers.
func TestSumsByNumber(t *testing.T) {
	got, _ := grid.Sums(strings.Repeat("ab", mostSize/2))
	for i := range got {
		for k := range i {
			if got[i] == got[k] {
				t.Errorf("the blocks %d and %d have one sum", k, i)
			}
		}
	}
}

// TestSumsLong is P14.1: texts that have more bytes than all blocks.
func TestSumsLong(t *testing.T) {
	for _, size := range long() {
		if got, e := grid.Sums(ascending(size)); got != [blocks]uint64{} || e != api.ErrLong {
			t.Errorf("Sums of %d bytes: %x %d", size, got, e)
		}
	}
}

// long: sizes that no text of blocks has.
func long() []int {
	return []int{mostSize + 1, mostSize + 2, mostSize + blockBytes, 2 * mostSize, 1 << 16, 1<<16 + 1, 1 << 20}
}

// written: what lasts of a disk behind a Write that was done.
func written(l [sectors]string, area int, s string) [sectors]string {
	for i, block := range pieces(s) {
		at := place(area, i)
		l[at] = over(l[at], block)
	}
	return l
}

// TestWrite is P14.1: each block's sector is sealed over what it was, and nothing else is changed.
func TestWrite(t *testing.T) {
	for seed, size := range sizes() {
		for area := range areas {
			d := busy(t, int64(seed))
			s := ascending(size)
			want, since := written(all(d), area, s), d.Steps()
			write(t, d, area, s)
			took(t, "Write", d, since, len(pieces(s))+1)
			like(t, "Write", d, want)
			want, since = written(want, area, s), d.Steps()
			write(t, d, area, s)
			took(t, "Write once more", d, since, len(pieces(s))+1)
			like(t, "Write once more", d, want)
			loads(t, "behind both", d, area, s)
		}
	}
}

// TestWriteGuard is P14.1: over each last byte that a sector can have.
func TestWriteGuard(t *testing.T) {
	for g := range 256 {
		d := blank(t, sectors)
		raw(t, d, map[int]string{place(1, 0): turned(noughts, 383, byte(g)), place(1, 1): sealed(byte(g), "x")})
		want := written(all(d), 1, ascending(400))
		write(t, d, 1, ascending(400))
		like(t, "Write", d, want)
		if d.Lasts(place(1, 0))[0] != byte(g+1) {
			t.Errorf("over %d the guard is %d", g, d.Lasts(place(1, 0))[0])
		}
	}
}

// TestWriteUnderWay is P14.1: a block is sealed over what is under way, and the flush makes that last too.
func TestWriteUnderWay(t *testing.T) {
	d := blank(t, sectors)
	want := all(d)
	for _, at := range []int{0, place(0, 0), place(0, 3), place(1, 0)} {
		want[at] = sealed(byte(9+at), "under way")
		is(t, "disk.Write", d.Write(at, want[at]), api.OK)
	}
	want = written(want, 0, ascending(700))
	write(t, d, 0, ascending(700))
	took(t, "Write", d, 0, 4+4)
	like(t, "Write", d, want)
}

// TestWriteNothing is P14.1: a text without bytes has no block; the disk is flushed.
func TestWriteNothing(t *testing.T) {
	for area := range areas {
		d := busy(t, 3)
		want, since := all(d), d.Steps()
		want[5] = sealed(1, "under way")
		is(t, "disk.Write", d.Write(5, want[5]), api.OK)
		is(t, "Write", grid.Write(d, area, ""), api.OK)
		took(t, "Write of nothing", d, since, 2)
		like(t, "Write of nothing", d, want)
		is(t, "disk.Cut", d.Cut(), api.OK)
		is(t, "Write without power", grid.Write(d, area, ""), api.ErrDown)
		is(t, "Write without a disk", grid.Write(nil, area, ""), api.ErrNil)
	}
}

// TestWriteWrong is P14.1: no such area ahead of a text that is too long, ahead of the disk; nothing is done.
func TestWriteWrong(t *testing.T) {
	off := busy(t, 5)
	is(t, "disk.Cut", off.Cut(), api.OK)
	for _, d := range []*disk.Disk{busy(t, 4), off, nil, blank(t, 1)} {
		want, since := all(d), d.Steps()
		for _, size := range append(long(), 0, 1, blockBytes, mostSize) {
			for _, area := range bad(2, 3, 4, 5, 6) {
				is(t, "Write into no area", grid.Write(d, area, ascending(size)), api.ErrArg)
			}
		}
		for _, size := range long() {
			for area := range areas {
				is(t, "Write of too much", grid.Write(d, area, ascending(size)), api.ErrLong)
			}
		}
		took(t, "all this", d, since, 0)
		like(t, "all this", d, want)
	}
}

// TestWriteFuse is P14.1: the steps are the blocks, rising, and a flush; the power goes at each of them.
func TestWriteFuse(t *testing.T) {
	for seed, size := range sizes() {
		for area := range areas {
			n := len(pieces(ascending(size)))
			for fuse := 1; fuse <= n+2; fuse++ {
				for _, pick := range []int{0, 1} {
					fuseWrite(t, busy(t, int64(seed)), area, ascending(size), fuse, pick)
				}
			}
		}
	}
}

// fuseWrite: a Write whose power goes, behind which nothing or all of what was under way lasts.
func fuseWrite(t *testing.T, d *disk.Disk, area int, s string, fuse, pick int) {
	t.Helper()
	n := len(pieces(s))
	want, since := all(d), d.Steps()
	is(t, "disk.Fuse", d.Fuse(fuse), api.OK)
	e := grid.Write(d, area, s)
	if fuse > n+1 {
		is(t, "Write", e, api.OK)
		like(t, "Write", d, written(want, area, s))
		return
	}
	is(t, "Write", e, api.ErrDown)
	if d.Pending() != fuse-1 || d.Steps()-since != fuse || d.On() {
		t.Errorf("the fuse %d of %d blocks: %d writes, %d steps", fuse, n, d.Pending(), d.Steps()-since)
	}
	like(t, "ahead of the flush", d, want)
	is(t, "disk.Start", d.Start([]int{pick}), api.OK)
	if pick == 1 {
		want = written(want, area, s[:min(len(s), (fuse-1)*blockBytes)])
	}
	like(t, "with the power back", d, want)
}

// TestWriteShort is P14.1: on a disk that lacks blocks the first one that isn't there ends it; so does no power, and no disk.
func TestWriteShort(t *testing.T) {
	for n := 1; n < sectors; n++ {
		for area := range areas {
			d := blank(t, n)
			there := max(0, min(blocks, n-place(area, 0)))
			want := api.OK
			if there < blocks {
				want = api.ErrArg
			}
			is(t, "Write", grid.Write(d, area, ascending(mostSize)), want)
			if want == api.ErrArg && (d.Steps() != there || d.Pending() != there) {
				t.Errorf("a disk of %d: %d steps, %d writes, not %d", n, d.Steps(), d.Pending(), there)
			}
			s := ascending(there * blockBytes)
			is(t, "Write of what has room", grid.Write(d, area, s), api.OK)
			loads(t, "behind it", d, area, s)
		}
	}
	d := blank(t, sectors)
	is(t, "disk.Cut", d.Cut(), api.OK)
	is(t, "Write without power", grid.Write(d, 0, "ab"), api.ErrDown)
	is(t, "Write without a disk", grid.Write(nil, 1, "ab"), api.ErrNil)
	took(t, "Write without power", d, 0, 0)
}

// TestBlock is P14.2: each block by its sum, of texts of all sizes that it may have.
func TestBlock(t *testing.T) {
	for size := range mostSealed + 1 {
		area, i := size%areas, size/areas%blocks
		s := ascending(size)
		d := blank(t, sectors)
		raw(t, d, map[int]string{place(area, i): sealed(byte(size), s)})
		since := d.Steps()
		if size > blockBytes {
			hasNone(t, "a sealed sector with too many bytes", d, area, i, chain(uint64(i), s), api.OK)
		} else {
			has(t, "a sealed sector", d, area, i, chain(uint64(i), s), s)
		}
		took(t, "Block", d, since, 0)
	}
}

// TestBlockPlaces is P14.2: a block is asked for where it lies, as that block, and nowhere else.
func TestBlockPlaces(t *testing.T) {
	for area := range areas {
		for i := range blocks {
			d := blank(t, sectors)
			what := map[int]string{}
			for at := range sectors {
				what[at] = sealed(1, "another"+string(rune('A'+at)))
			}
			what[place(area, i)] = sealed(1, "this one")
			raw(t, d, what)
			for a := range areas {
				for k := range blocks {
					sum := chain(uint64(k), "this one")
					if a == area && k == i {
						has(t, "this one", d, a, k, sum, "this one")
					} else {
						hasNone(t, "another one", d, a, k, sum, api.OK)
						hasNone(t, "another number", d, area, i, chain(uint64(k+blocks), "this one"), api.OK)
					}
					if k != i {
						hasNone(t, "another number", d, area, i, sum, api.OK)
					}
				}
			}
		}
	}
}

// TestBlockSum is P14.2: each bit of the sum counts.
func TestBlockSum(t *testing.T) {
	d := blank(t, sectors)
	write(t, d, 1, ascending(700))
	for i, block := range pieces(ascending(700)) {
		sum := chain(uint64(i), block)
		has(t, "its sum", d, 1, i, sum, block)
		for bit := range 64 {
			hasNone(t, "another sum", d, 1, i, sum^1<<bit, api.OK)
		}
		hasNone(t, "the sum 0", d, 1, i, 0, api.OK)
	}
}

// TestBlockNone is P14.2: a sector that is not sealed, or was torn, has no block, whatever its sum.
func TestBlockNone(t *testing.T) {
	s := ascending(blockBytes)
	good := sealed(7, s)
	sum := chain(2, s)
	for at := range sectorBytes {
		for _, mask := range []byte{1, 128, 255} {
			d := blank(t, sectors)
			raw(t, d, map[int]string{place(0, 2): good})
			has(t, "it", d, 0, 2, sum, s)
			is(t, "disk.Rot", d.Rot(place(0, 2), at, int(mask)), api.OK)
			hasNone(t, "a turned byte", d, 0, 2, sum, api.OK)
		}
	}
	for c := 1; c < sectorBytes; c++ {
		d := blank(t, sectors)
		raw(t, d, map[int]string{place(0, 2): good})
		is(t, "disk.Write", d.Write(place(0, 2), over(good, s)), api.OK)
		is(t, "disk.Cut", d.Cut(), api.OK)
		is(t, "disk.Start", d.Start([]int{2 + 3*c}), api.OK)
		hasNone(t, "a torn sector", d, 0, 2, sum, api.OK)
	}
	d := blank(t, sectors)
	for i := range blocks {
		hasNone(t, "noughts", d, 1, i, chain(uint64(i), ""), api.OK)
		hasNone(t, "noughts", d, 1, i, 0, api.OK)
	}
}

// TestBlockNothing is P14.2: a block may have no bytes; that isn't the same as none.
func TestBlockNothing(t *testing.T) {
	d := blank(t, sectors)
	for i, sum := range []uint64{0x750a5cc6bc259d48, 0x3379018b658ef1ac, 0xdcb9a862cf5e5b3c, 0xc4f4ee98cf0e6b4b, 0x2ff773317b6a4c3c, 0x24507bfc26cbb8a1} {
		raw(t, d, map[int]string{place(0, i): sealed(3, "")})
		has(t, "no bytes", d, 0, i, sum, "")
		hasNone(t, "no bytes by another sum", d, 0, i, sum+1, api.OK)
		hasNone(t, "no bytes by the sum 0", d, 0, i, 0, api.OK)
	}
}

// TestBlockUnderWay is P14.2: the disk tells what is under way too.
func TestBlockUnderWay(t *testing.T) {
	d := blank(t, sectors)
	write(t, d, 0, "old")
	is(t, "disk.Write", d.Write(place(0, 0), sealed(9, "new")), api.OK)
	has(t, "under way", d, 0, 0, chain(0, "new"), "new")
	hasNone(t, "what lasts", d, 0, 0, chain(0, "old"), api.OK)
	is(t, "disk.Cut", d.Cut(), api.OK)
	hasNone(t, "without power", d, 0, 0, chain(0, "new"), api.ErrDown)
	is(t, "disk.Start", d.Start(nil), api.OK)
	has(t, "what lasts", d, 0, 0, chain(0, "old"), "old")
}

// TestBlockWrong is P14.2 for Block: no such area, no such block, ahead of the disk; then the disk's errors.
func TestBlockWrong(t *testing.T) {
	off := busy(t, 5)
	is(t, "disk.Cut", off.Cut(), api.OK)
	for _, d := range []*disk.Disk{busy(t, 4), off, nil, blank(t, 1)} {
		want, since := all(d), d.Steps()
		for _, area := range bad(2, 3, 4, 5) {
			for _, i := range bad(0, 1, 5, 6) {
				hasNone(t, "no area", d, area, i, 0, api.ErrArg)
			}
		}
		for _, i := range bad(6, 7, 8, 11, 12) {
			for area := range areas {
				hasNone(t, "no block", d, area, i, 0, api.ErrArg)
			}
		}
		took(t, "all this", d, since, 0)
		like(t, "all this", d, want)
	}
	for area := range areas {
		for i := range blocks {
			hasNone(t, "without power", off, area, i, chain(uint64(i), ""), api.ErrDown)
			hasNone(t, "without a disk", nil, area, i, chain(uint64(i), ""), api.ErrNil)
			hasNone(t, "on a disk without it", blank(t, place(area, i)), area, i, chain(uint64(i), ""), api.ErrArg)
			hasNone(t, "on a disk that ends with it", blank(t, place(area, i)+1), area, i, chain(uint64(i), ""), api.OK)
		}
	}
}

// TestPut is P14.2: one block is sealed over what its sector was, and lasts; nothing else is changed.
func TestPut(t *testing.T) {
	for size := range blockBytes + 1 {
		area, i := size%areas, size/areas%blocks
		d := busy(t, int64(size))
		block := ascending(size)
		want, since := all(d), d.Steps()
		want[place(area, i)] = over(want[place(area, i)], block)
		is(t, "Put", grid.Put(d, area, i, block), api.OK)
		took(t, "Put", d, since, 2)
		like(t, "Put", d, want)
		has(t, "behind Put", d, area, i, chain(uint64(i), block), block)
		want[place(area, i)] = over(want[place(area, i)], block)
		is(t, "Put once more", grid.Put(d, area, i, block), api.OK)
		took(t, "Put once more", d, since, 4)
		like(t, "Put once more", d, want)
	}
}

// TestPutPlaces is P14.2: each block of each area, over each last byte that its sector can have.
func TestPutPlaces(t *testing.T) {
	for area := range areas {
		for i := range blocks {
			for g := range 256 {
				d := blank(t, sectors)
				old := turned(noughts, 383, byte(g))
				raw(t, d, map[int]string{place(area, i): old})
				want := all(d)
				want[place(area, i)] = over(old, "ab")
				is(t, "Put", grid.Put(d, area, i, "ab"), api.OK)
				like(t, "Put", d, want)
			}
		}
	}
}

// TestPutPower is P14.2: the power goes at each step.
func TestPutPower(t *testing.T) {
	for fuse := 1; fuse <= 2; fuse++ {
		for _, pick := range []int{0, 1} {
			d := busy(t, 8)
			want := all(d)
			is(t, "disk.Fuse", d.Fuse(fuse), api.OK)
			is(t, "Put", grid.Put(d, 1, 4, "ab"), api.ErrDown)
			if d.Pending() != fuse-1 {
				t.Errorf("the fuse %d: %d writes under way", fuse, d.Pending())
			}
			like(t, "ahead of the flush", d, want)
			is(t, "disk.Start", d.Start([]int{pick}), api.OK)
			if fuse == 2 && pick == 1 {
				want[place(1, 4)] = over(want[place(1, 4)], "ab")
			}
			like(t, "with the power back", d, want)
		}
	}
}

// TestPutUnderWay is P14.2: a block is sealed over what is under way, and the flush makes that last too.
func TestPutUnderWay(t *testing.T) {
	d := blank(t, sectors)
	want := all(d)
	want[place(0, 1)], want[2] = over(sealed(77, "under way"), "ab"), sealed(1, "beside")
	is(t, "disk.Write", d.Write(place(0, 1), sealed(77, "under way")), api.OK)
	is(t, "disk.Write", d.Write(2, want[2]), api.OK)
	is(t, "Put", grid.Put(d, 0, 1, "ab"), api.OK)
	took(t, "Put", d, 0, 4)
	like(t, "Put", d, want)
}

// TestPutWrong is P14.2 for Put: no such area or block ahead of too many bytes, ahead of the disk; then the disk's errors.
func TestPutWrong(t *testing.T) {
	off := busy(t, 5)
	is(t, "disk.Cut", off.Cut(), api.OK)
	for _, d := range []*disk.Disk{busy(t, 4), off, nil, blank(t, 1)} {
		want, since := all(d), d.Steps()
		for _, size := range []int{0, 1, blockBytes, blockBytes + 1, mostSealed, mostSealed + 1, mostSize} {
			block := ascending(size)
			for _, area := range bad(2, 3, 4, 5) {
				for _, i := range bad(0, 5, 6) {
					is(t, "Put into no area", grid.Put(d, area, i, block), api.ErrArg)
				}
			}
			for _, i := range bad(6, 7, 8, 11, 12) {
				is(t, "Put of no block", grid.Put(d, 0, i, block), api.ErrArg)
				is(t, "Put of no block", grid.Put(d, 1, i, block), api.ErrArg)
			}
		}
		for _, size := range append(long(), blockBytes+1, blockBytes+2, mostSealed, mostSealed+1, mostSize) {
			for i := range blocks {
				is(t, "Put of too much", grid.Put(d, i%areas, i, ascending(size)), api.ErrLong)
			}
		}
		took(t, "all this", d, since, 0)
		like(t, "all this", d, want)
	}
	for area := range areas {
		for i := range blocks {
			is(t, "Put without power", grid.Put(off, area, i, ""), api.ErrDown)
			is(t, "Put without a disk", grid.Put(nil, area, i, ""), api.ErrNil)
			d := blank(t, place(area, i))
			is(t, "Put on a disk without it", grid.Put(d, area, i, "ab"), api.ErrArg)
			took(t, "Put on a disk without it", d, 0, 0)
			is(t, "Put on a disk that ends with it", grid.Put(blank(t, place(area, i)+1), area, i, "ab"), api.OK)
		}
	}
}

// TestLoad is P14.3: texts of all sizes, over what the other area and the blocks behind have; nothing is changed.
func TestLoad(t *testing.T) {
	r := rand.New(rand.NewSource(2))
	d := busy(t, 6)
	for _, size := range append(r.Perm(mostSize+1), sizes()...) {
		area := r.Intn(areas)
		s := anyText(r, size)
		write(t, d, area, s)
		want, since := all(d), d.Steps()
		loads(t, "behind Write", d, area, s)
		took(t, "Load", d, since, 0)
		like(t, "Load", d, want)
	}
}

// TestLoadMissing is P14.3 and P14.4: if blocks rot, just those are missing, whichever they are.
func TestLoadMissing(t *testing.T) {
	r := rand.New(rand.NewSource(3))
	for _, size := range sizes() {
		n := len(pieces(ascending(size)))
		for rotten := range 1 << n {
			area := r.Intn(areas)
			d := busy(t, int64(size))
			write(t, d, 1-area, ascending(mostSize))
			write(t, d, area, ascending(size))
			var want []int
			for i := range n {
				if rotten>>i&1 == 1 {
					want = append(want, i)
					is(t, "disk.Rot", d.Rot(place(area, i), r.Intn(sectorBytes), 1+r.Intn(255)), api.OK)
				}
			}
			if len(want) == 0 {
				loads(t, "nothing rotten", d, area, ascending(size))
			} else {
				lacks(t, "rotten", d, area, size, sumsOf(ascending(size)), want...)
			}
			loads(t, "the other one", d, 1-area, ascending(mostSize))
		}
	}
}

// TestLoadSums is P14.3: each block's sum counts, up to the last one; those behind it don't.
func TestLoadSums(t *testing.T) {
	for _, size := range sizes() {
		s := ascending(size)
		d := blank(t, sectors)
		write(t, d, 0, ascending(mostSize))
		write(t, d, 0, s)
		for i := range blocks {
			for _, bit := range []uint64{1, 1 << 31, 1 << 63} {
				sums := sumsOf(s)
				sums[i] ^= bit
				if i < len(pieces(s)) {
					lacks(t, "another sum", d, 0, size, sums, i)
				} else if got, missing, e := grid.Load(d, 0, size, sums); got != s || len(missing) != 0 || e != api.OK {
					t.Errorf("Load of %d bytes by another sum of the block %d: %d bytes, %v %d", size, i, len(got), missing, e)
				}
			}
		}
	}
}

// TestLoadOrder is P14.3: blocks that lie in each other's places are missing.
func TestLoadOrder(t *testing.T) {
	s := ascending(mostSize)
	d := blank(t, sectors)
	write(t, d, 0, s)
	l := pieces(s)
	is(t, "Put", grid.Put(d, 0, 1, l[4]), api.OK)
	is(t, "Put", grid.Put(d, 0, 4, l[1]), api.OK)
	lacks(t, "two blocks changed about", d, 0, mostSize, sumsOf(s), 1, 4)
	sums := sumsOf(s)
	sums[1], sums[4] = sums[4], sums[1]
	lacks(t, "their sums too", d, 0, mostSize, sums, 1, 4)
}

// TestLoadLengths is P14.3: blocks that have their sums, but not as many bytes as there must be.
func TestLoadLengths(t *testing.T) {
	for _, size := range sizes() {
		for _, have := range sizes() {
			area := (size + have) % areas
			d := blank(t, sectors)
			s := ascending(have)
			write(t, d, area, s)
			want := otherLengths(size, have)
			if len(want) == 0 {
				got, missing, e := grid.Load(d, area, size, sumsOf(s))
				if got != s[:size] || len(missing) != 0 || e != api.OK {
					t.Errorf("Load of %d bytes of %d: %d bytes, %v %d", size, have, len(got), missing, e)
				}
				continue
			}
			lacks(t, "other lengths", d, area, size, sumsOf(s), want...)
		}
	}
}

// otherLengths: the blocks of a text of size bytes that another text of so many bytes hasn't, or hasn't as long.
func otherLengths(size, have int) []int {
	var l []int
	theirs := pieces(ascending(have))
	for i, block := range pieces(ascending(size)) {
		if i >= len(theirs) || len(theirs[i]) != len(block) {
			l = append(l, i)
		}
	}
	return l
}

// TestLoadEachLength is P14.3: one block has its sum, and any number of bytes; the others are as they must be.
func TestLoadEachLength(t *testing.T) {
	s := ascending(mostSize - 100)
	for i := range blocks {
		d := blank(t, sectors)
		write(t, d, 1, s)
		must := len(pieces(s)[i])
		for n := range mostSealed + 1 {
			raw(t, d, map[int]string{place(1, i): sealed(byte(n), ascending(n))})
			sums := sumsOf(s)
			sums[i] = chain(uint64(i), ascending(n))
			if n != must {
				lacks(t, "another length", d, 1, len(s), sums, i)
				continue
			}
			want := s[:i*blockBytes] + ascending(n) + s[i*blockBytes+must:]
			if got, missing, e := grid.Load(d, 1, len(s), sums); got != want || len(missing) != 0 || e != api.OK {
				t.Errorf("Load: %d bytes, %v %d", len(got), missing, e)
			}
		}
	}
}

// TestLoadNothing is P14.3: a text without bytes has no blocks, and the disk isn't asked for any.
func TestLoadNothing(t *testing.T) {
	off := busy(t, 5)
	is(t, "disk.Cut", off.Cut(), api.OK)
	for _, d := range []*disk.Disk{busy(t, 4), off, nil, blank(t, 1)} {
		for area := range areas {
			fails(t, "nothing", d, area, 0, [blocks]uint64{}, api.OK)
			fails(t, "nothing", d, area, 0, [blocks]uint64{1, 2, 3, 4, 5, 6}, api.OK)
		}
	}
}

// TestLoadWrong is P14.3: no such area, or no such size, ahead of the disk.
func TestLoadWrong(t *testing.T) {
	off := busy(t, 5)
	is(t, "disk.Cut", off.Cut(), api.OK)
	full := blank(t, sectors)
	write(t, full, 0, ascending(mostSize))
	write(t, full, 1, ascending(mostSize))
	for _, d := range []*disk.Disk{full, off, nil, blank(t, 1)} {
		want, since := all(d), d.Steps()
		for _, area := range bad(2, 3, 4, 5) {
			for _, size := range bad(0, 1, 320, mostSize, mostSize+1) {
				fails(t, "no area", d, area, size, sumsOf(ascending(mostSize)), api.ErrArg)
			}
		}
		for _, size := range bad(long()...) {
			for area := range areas {
				fails(t, "no size", d, area, size, sumsOf(ascending(mostSize)), api.ErrArg)
			}
		}
		took(t, "all this", d, since, 0)
		like(t, "all this", d, want)
	}
}

// TestLoadErrors is P14.3: the first error of the disk ends it, though blocks ahead are there, or are missing.
func TestLoadErrors(t *testing.T) {
	s := ascending(mostSize)
	for area := range areas {
		off := blank(t, sectors)
		write(t, off, area, s)
		is(t, "disk.Cut", off.Cut(), api.OK)
		fails(t, "without power", off, area, 1, sumsOf(s), api.ErrDown)
		fails(t, "without power", off, area, mostSize, sumsOf(s), api.ErrDown)
		fails(t, "without a disk", nil, area, 1, sumsOf(s), api.ErrNil)
		fails(t, "without a disk", nil, area, mostSize, sumsOf(s), api.ErrNil)
		for there := range blocks {
			d := blank(t, place(area, there))
			write(t, d, area, s[:there*blockBytes])
			loads(t, "what is there", d, area, s[:there*blockBytes])
			fails(t, "on a disk without a block", d, area, there*blockBytes+1, sumsOf(s), api.ErrArg)
			fails(t, "on a disk without a block", d, area, mostSize, sumsOf(s), api.ErrArg)
			fails(t, "with others missing", d, area, mostSize, [blocks]uint64{}, api.ErrArg)
		}
	}
}

// TestMended is P14.4: what is missing is put back from the text, and the whole is there.
func TestMended(t *testing.T) {
	r := rand.New(rand.NewSource(4))
	for range 200 {
		d := busy(t, r.Int63())
		area, s := r.Intn(areas), anyText(r, 1+r.Intn(mostSize))
		write(t, d, area, s)
		for i := range pieces(s) {
			if r.Intn(2) == 0 {
				is(t, "disk.Rot", d.Rot(place(area, i), r.Intn(sectorBytes), 1+r.Intn(255)), api.OK)
			}
		}
		_, missing, _ := grid.Load(d, area, len(s), sumsOf(s))
		for _, i := range missing {
			is(t, "Put", grid.Put(d, area, i, pieces(s)[i]), api.OK)
		}
		loads(t, "mended", d, area, s)
	}
}

// TestOtherArea is P14.4: what was written is loaded, wherever the power goes in the other area, and whatever rots there.
func TestOtherArea(t *testing.T) {
	r := rand.New(rand.NewSource(5))
	for round := range 400 {
		d := busy(t, int64(round))
		area, s := round%areas, anyText(r, r.Intn(mostSize+1))
		write(t, d, area, s)
		is(t, "disk.Fuse", d.Fuse(1+r.Intn(blocks+2)), api.OK)
		other := anyText(r, r.Intn(mostSize+1))
		e := grid.Write(d, 1-area, other)
		if e == api.OK {
			is(t, "disk.Cut", d.Cut(), api.OK)
		}
		is(t, "disk.Start", d.Start([]int{r.Intn(2000), r.Intn(2000), r.Intn(2000)}), api.OK)
		if e == api.OK {
			loads(t, "what was written there", d, 1-area, other)
		}
		for i := range blocks {
			d.Rot(place(1-area, i), r.Intn(sectorBytes), 1+r.Intn(255))
		}
		for i := range r.Intn(blocks) {
			is(t, "Put", grid.Put(d, 1-area, i, anyText(r, r.Intn(blockBytes+1))), api.OK)
		}
		loads(t, "what was written here", d, area, s)
	}
}

// TestTorn is P14.4 and P14.2: of a Write within which the power goes, no block is there but the old one or the new one, whole.
func TestTorn(t *testing.T) {
	old, s := ascending(mostSize), anyText(rand.New(rand.NewSource(6)), mostSize)
	for fuse := 1; fuse <= blocks+1; fuse++ {
		for c := range sectorBytes + 1 {
			d := blank(t, sectors)
			write(t, d, 1, old)
			is(t, "disk.Fuse", d.Fuse(fuse), api.OK)
			is(t, "Write", grid.Write(d, 1, s), api.ErrDown)
			is(t, "disk.Start", d.Start([]int{2 + 3*c}), api.OK)
			var lost, behind []int // by the sums of the new text, and of the old one
			for i := range blocks {
				if c < sectorBytes || i >= fuse-1 {
					lost = append(lost, i)
				}
				if c > 0 && i < fuse-1 {
					behind = append(behind, i)
				}
			}
			if len(lost) > 0 {
				lacks(t, "the new one", d, 1, mostSize, sumsOf(s), lost...)
			} else {
				loads(t, "the new one", d, 1, s)
			}
			if len(behind) > 0 {
				lacks(t, "the old one", d, 1, mostSize, sumsOf(old), behind...)
			} else {
				loads(t, "the old one", d, 1, old)
			}
		}
	}
}

// model is the chapter's words on a disk's areas.
type model [sectors]string

func (m *model) block(area, i int, sum uint64) (string, bool) {
	text, ok := opened(m[place(area, i)])
	if !ok || len(text) > blockBytes || chain(uint64(i), text) != sum {
		return "", false
	}
	return text, true
}

func (m *model) load(area, size int, sums [blocks]uint64) (string, []int) {
	var text string
	var missing []int
	for i := 0; i*blockBytes < size; i++ {
		block, ok := m.block(area, i, sums[i])
		if !ok || len(block) != min(blockBytes, size-i*blockBytes) {
			missing = append(missing, i)
		}
		text += block
	}
	if len(missing) > 0 {
		return "", missing
	}
	return text, nil
}

// TestWalk is P14.1 to P14.3: calls as they come, against the chapter's words.
func TestWalk(t *testing.T) {
	for seed := range 40 {
		r := rand.New(rand.NewSource(int64(seed)))
		d := busy(t, int64(seed))
		m := model(all(d))
		last := ""
		for range 200 {
			area, i := r.Intn(areas), r.Intn(blocks)
			switch r.Intn(6) {
			case 0:
				last = anyText(r, sizes()[r.Intn(len(sizes()))])
				write(t, d, area, last)
				m = written(m, area, last)
			case 1:
				block := anyText(r, r.Intn(blockBytes+1))
				if l := pieces(last); i < len(l) && r.Intn(2) == 0 {
					block = l[i]
				}
				is(t, "Put", grid.Put(d, area, i, block), api.OK)
				m[place(area, i)] = over(m[place(area, i)], block)
			case 2:
				at, mask := r.Intn(sectorBytes), 1+r.Intn(255)
				if d.Rot(place(area, i), at, mask) == api.OK {
					m[place(area, i)] = turned(m[place(area, i)], at, byte(mask))
				}
			default:
				asked(t, d, &m, r, last)
			}
			like(t, "the walk", d, m)
		}
	}
}

// asked tells that a block or a text is told otherwise than by the chapter's words.
func asked(t *testing.T, d *disk.Disk, m *model, r *rand.Rand, last string) {
	t.Helper()
	area, i, sums := r.Intn(areas), r.Intn(blocks), sumsOf(last)
	text, can := m.block(area, i, sums[i])
	if got, ok, e := grid.Block(d, area, i, sums[i]); got != text || ok != can || e != api.OK {
		t.Errorf("Block: %d bytes %v %d, not %d bytes %v", len(got), ok, e, len(text), can)
	}
	size := len(last)
	if r.Intn(3) == 0 {
		size = r.Intn(mostSize + 1)
	}
	whole, missing := m.load(area, size, sums)
	if got, l, e := grid.Load(d, area, size, sums); got != whole || !slices.Equal(l, missing) || e != api.OK {
		t.Errorf("Load of %d bytes: %d bytes %v %d, not %d bytes %v", size, len(got), l, e, len(whole), missing)
	}
}

// TestApart is the rules on memory: what is answered is new, and a text that was handed in isn't kept.
func TestApart(t *testing.T) {
	d := blank(t, sectors)
	own := []byte(ascending(700))
	s := unsafe.String(&own[0], len(own)) // a text that these tests change below
	write(t, d, 0, s)
	is(t, "Put", grid.Put(d, 1, 0, s[:20]), api.OK)
	sums, _ := grid.Sums(s)
	clear(own)
	loads(t, "Write's text changed", d, 0, ascending(700))
	has(t, "Put's block changed", d, 1, 0, chain(0, ascending(20)), ascending(20))
	one, _, _ := grid.Block(d, 0, 0, sums[0])
	two, _, _ := grid.Block(d, 0, 0, sums[0])
	whole, _, _ := grid.Load(d, 0, 700, sums)
	again, _, _ := grid.Load(d, 0, 700, sums)
	l := []string{one, two, whole, again}
	for i := range l {
		for k := range i {
			if unsafe.StringData(l[i]) == unsafe.StringData(l[k]) {
				t.Errorf("the answers %d and %d share memory", k, i)
			}
		}
	}
	for i := range 3 {
		is(t, "disk.Rot", d.Rot(place(0, i), 9, 1), api.OK)
	}
	_, first, _ := grid.Load(d, 0, 700, sums)
	_, second, _ := grid.Load(d, 0, 700, sums)
	first[0], first[2] = 8, 9
	if !slices.Equal(second, []int{0, 1, 2}) {
		t.Errorf("two lists share memory: %v", second)
	}
	lacks(t, "once more", d, 0, 700, sums, 0, 1, 2)
}
