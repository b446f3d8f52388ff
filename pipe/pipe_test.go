package pipe_test

import (
	"math"
	"math/rand"
	"slices"
	"testing"

	"comptor/api"
	"comptor/pipe"
)

const (
	top  = 1<<56 - 1 // the greatest number
	span = 16        // how far a head may be above the commit
	okay = api.Errno(0)
	arg  = api.Errno(1)
	lone = api.Errno(2) // a nil pipe's
	none = api.Errno(8)
	full = api.Errno(9)
)

// most: how many of a group are enough.
var most = map[int]int{3: 2, 5: 3}

// odd: numbers about which a reckoning could go wrong.
func odd() []int {
	list := []int{math.MinInt, math.MinInt + 1, math.MinInt + span, math.MaxInt, math.MaxInt - 1, math.MaxInt - span,
		math.MinInt32, math.MaxInt32, 1 << 32, 1<<32 + 1, 1<<32 + 3, 1 << 62, -1 << 62, -1 << 32, -1<<32 + 1}
	for n := -40; n <= 40; n++ {
		list = append(list, n, top+n)
	}
	return list
}

// made: a pipe that may be.
func made(t *testing.T, count, who, commit, head int) *pipe.Pipe {
	t.Helper()
	p, e := pipe.New(count, who, commit, head)
	if e != okay || p == nil {
		t.Fatalf("New(%d, %d, %d, %d) is %v, %d", count, who, commit, head, p, e)
	}
	return p
}

// plain is a pipe by the chapter's words, its sets laid out one by one.
type plain struct {
	count, who, commit, head int
	sets                     map[int]map[int]bool
}

func plainOf(count, who, commit, head int) *plain {
	r := &plain{count, who, commit, head, map[int]map[int]bool{}}
	for op := commit + 1; op <= head; op++ {
		r.sets[op] = map[int]bool{who: true}
	}
	return r
}

func (r *plain) add() (int, api.Errno) {
	if r.head == top || r.head == r.commit+span {
		return 0, full
	}
	r.head++
	r.sets[r.head] = map[int]bool{r.who: true}
	return r.head, okay
}

func (r *plain) kept(op, from int) api.Errno {
	switch {
	case from < 1 || from > r.count:
		return arg
	case op <= r.commit || op > r.head:
		return none
	}
	r.sets[op][from] = true
	for len(r.sets[r.commit+1]) >= most[r.count] {
		delete(r.sets, r.commit+1)
		r.commit++
	}
	return okay
}

func (r *plain) due(op int) []int {
	var list []int
	for who := 1; r.sets[op] != nil && who <= r.count; who++ {
		if !r.sets[op][who] {
			list = append(list, who)
		}
	}
	return list
}

// like: does a pipe tell just what the plain one tells?
func like(t *testing.T, p *pipe.Pipe, r *plain) {
	t.Helper()
	if p.Commit() != r.commit || p.Head() != r.head {
		t.Fatalf("commit %d, head %d, not %d, %d", p.Commit(), p.Head(), r.commit, r.head)
	}
	if room := r.head-r.commit < 2; p.Room() != room {
		t.Fatalf("Room is %v at %d, %d", !room, r.commit, r.head)
	}
	for op := r.commit - 2*span; op <= r.head+2*span; op++ {
		if got, want := p.Due(op), r.due(op); !slices.Equal(got, want) {
			t.Fatalf("Due(%d) is %v, not %v, at %d, %d", op, got, want, r.commit, r.head)
		}
	}
}

// P19.1: which groups and primaries may be, and in whose sets who is alone.
func TestNewGroups(t *testing.T) {
	for _, count := range odd() {
		for _, who := range odd() {
			p, e := pipe.New(count, who, 10, 20)
			if most[count] == 0 || who < 1 || who > count {
				if p != nil || e != arg {
					t.Fatalf("New(%d, %d, 10, 20) is %v, %d", count, who, p, e)
				}
				continue
			}
			if p == nil || e != okay {
				t.Fatalf("New(%d, %d, 10, 20) is %v, %d", count, who, p, e)
			}
			like(t, p, plainOf(count, who, 10, 20))
		}
	}
}

// P19.1: which commits and heads may be.
func TestNewNumbers(t *testing.T) {
	for _, commit := range odd() {
		for _, head := range odd() {
			may := 0 <= commit && commit <= top && 0 <= head && head <= top && commit <= head && head <= commit+span
			p, e := pipe.New(3, 2, commit, head)
			if !may {
				if p != nil || e != arg {
					t.Fatalf("New(3, 2, %d, %d) is %v, %d", commit, head, p, e)
				}
				continue
			}
			if p == nil || e != okay {
				t.Fatalf("New(3, 2, %d, %d) is %v, %d", commit, head, p, e)
			}
			like(t, p, plainOf(3, 2, commit, head))
		}
	}
}

// P19.1: each way of being wrong alone is told, and all of them together.
func TestNewWrong(t *testing.T) {
	for _, c := range [][4]int{
		{4, 1, 0, 0}, {0, 1, 0, 0}, {1, 1, 0, 0}, {2, 1, 0, 0}, {7, 1, 0, 0}, {-3, 1, 0, 0}, {0, 0, 0, 0},
		{3, 0, 0, 0}, {3, 4, 0, 0}, {3, 5, 0, 0}, {3, -1, 0, 0}, {5, 6, 0, 0}, {5, 0, 0, 0},
		{3, 1, -1, 0}, {3, 1, -1, -1}, {3, 1, 0, -1}, {3, 1, 5, 4}, {3, 1, 0, 17}, {3, 1, 5, 22},
		{3, 1, top + 1, top + 1}, {3, 1, top, top + 1}, {3, 1, top - 3, top + 1}, {3, 1, top, top - 1},
		{3, 1, math.MinInt, math.MaxInt}, {3, 1, math.MaxInt, math.MinInt}, {3, 1, math.MaxInt, math.MaxInt}, {3, 1, math.MinInt, math.MinInt},
		{4, 9, -1, -2},
	} {
		if p, e := pipe.New(c[0], c[1], c[2], c[3]); p != nil || e != arg {
			t.Errorf("New%v is %v, %d", c, p, e)
		}
	}
}

// P19.1: what is added is the next one, kept by the primary alone, till the head is 16 above the commit.
func TestAdd(t *testing.T) {
	for count := range most {
		for who := 1; who <= count; who++ {
			for ahead := range span + 1 {
				p, r := made(t, count, who, 100, 100+ahead), plainOf(count, who, 100, 100+ahead)
				for range span + 3 {
					op, e := p.Add()
					wantOp, wantE := r.add()
					if op != wantOp || e != wantE {
						t.Fatalf("Add is %d, %d, not %d, %d", op, e, wantOp, wantE)
					}
					like(t, p, r)
				}
				if p.Head() != 100+span {
					t.Fatalf("the head is %d", p.Head())
				}
			}
		}
	}
}

// P19.1: nothing is added behind the greatest number, however little is under way.
func TestAddAtTheTop(t *testing.T) {
	for ahead := range 4 {
		p := made(t, 5, 3, top-ahead, top)
		if op, e := p.Add(); op != 0 || e != full {
			t.Errorf("at %d, %d Add is %d, %d", top-ahead, top, op, e)
		}
		like(t, p, plainOf(5, 3, top-ahead, top))
	}
	p := made(t, 3, 1, top-2, top-2)
	for _, want := range []int{top - 1, top} {
		if op, e := p.Add(); op != want || e != okay {
			t.Errorf("Add is %d, %d, not %d", op, e, want)
		}
	}
	if op, e := p.Add(); op != 0 || e != full {
		t.Errorf("Add is %d, %d", op, e)
	}
	if e := p.Kept(top-1, 2); e != okay || p.Commit() != top-1 {
		t.Errorf("Kept is %d, the commit %d", e, p.Commit())
	}
	if e := p.Kept(top, 3); e != okay || p.Commit() != top {
		t.Errorf("Kept is %d, the commit %d", e, p.Commit())
	}
	if op, e := p.Add(); op != 0 || e != full || p.Head() != top || !p.Room() {
		t.Errorf("with nothing under way Add is %d, %d, the head %d, Room %v", op, e, p.Head(), p.Room())
	}
}

// P19.1: as the commit rises there is room for more, where others stood ahead of them: none of those is kept by whom kept these.
func TestAddGoesRound(t *testing.T) {
	p, r := made(t, 5, 2, 7, 7+span), plainOf(5, 2, 7, 7+span)
	for op := 8; op < 8+5*span; op++ {
		if _, e := p.Add(); e != full {
			t.Fatalf("Add is %d while 16 are under way", e)
		}
		for _, from := range []int{1, 4} {
			if e, want := p.Kept(op, from), r.kept(op, from); e != want {
				t.Fatalf("Kept(%d, %d) is %d, not %d", op, from, e, want)
			}
		}
		got, e := p.Add()
		if want, _ := r.add(); got != want || e != okay {
			t.Fatalf("Add is %d, %d, not %d", got, e, want)
		}
		like(t, p, r)
	}
}

// P19.2: what is wrong is told, who from ahead of which operation, and changes nothing.
func TestKeptWrong(t *testing.T) {
	for count := range most {
		p, r := made(t, count, 1, 20, 25), plainOf(count, 1, 20, 25)
		for _, from := range odd() {
			for _, op := range append(odd(), 20+span, 21+span, 25-span, 21+math.MinInt+20) {
				if 1 <= from && from <= count && 20 < op && op <= 25 {
					continue
				}
				want := none
				if from < 1 || from > count {
					want = arg
				}
				if e := p.Kept(op, from); e != want {
					t.Fatalf("of %d Kept(%d, %d) is %d, not %d", count, op, from, e, want)
				}
			}
		}
		like(t, p, r)
	}
}

// P19.2: where nothing is under way nothing is kept.
func TestKeptNothing(t *testing.T) {
	p := made(t, 3, 1, 9, 9)
	for op := 0; op <= 9+2*span; op++ {
		if e := p.Kept(op, 2); e != none {
			t.Errorf("Kept(%d, 2) is %d", op, e)
		}
		if e := p.Kept(op, 4); e != arg {
			t.Errorf("Kept(%d, 4) is %d", op, e)
		}
	}
	like(t, p, plainOf(3, 1, 9, 9))
}

// P19.2: who keeps it twice counts once, the primary too.
func TestKeptTwice(t *testing.T) {
	p := made(t, 5, 4, 0, 1)
	for _, from := range []int{4, 4, 2, 2, 4, 2} {
		if e := p.Kept(1, from); e != okay || p.Commit() != 0 {
			t.Fatalf("Kept(1, %d) is %d, the commit %d", from, e, p.Commit())
		}
	}
	if got := p.Due(1); !slices.Equal(got, []int{1, 3, 5}) {
		t.Fatalf("Due(1) is %v", got)
	}
	if e := p.Kept(1, 5); e != okay || p.Commit() != 1 {
		t.Fatalf("Kept(1, 5) is %d, the commit %d", e, p.Commit())
	}
	if e := p.Kept(1, 1); e != none || p.Commit() != 1 || p.Due(1) != nil {
		t.Fatalf("behind the commit Kept is %d, the commit %d, Due %v", e, p.Commit(), p.Due(1))
	}
}

// P19.2: the commit waits for the first operation, and goes on as far as all are kept.
func TestKeptOutOfOrder(t *testing.T) {
	p := made(t, 3, 3, 50, 56)
	for _, c := range []struct{ op, from, commit int }{
		{52, 1, 50}, {53, 2, 50}, {55, 1, 50}, {55, 2, 50}, {51, 3, 50}, {51, 2, 53}, {56, 2, 53}, {54, 1, 56},
	} {
		if e := p.Kept(c.op, c.from); e != okay || p.Commit() != c.commit || p.Head() != 56 {
			t.Fatalf("behind Kept(%d, %d), %d, the commit is %d, not %d, the head %d", c.op, c.from, e, p.Commit(), c.commit, p.Head())
		}
	}
}

// P19.2: sixteen at once.
func TestKeptAllAtOnce(t *testing.T) {
	p := made(t, 3, 2, 30, 30+span)
	for op := 30 + span; op > 31; op-- {
		if e := p.Kept(op, 1); e != okay || p.Commit() != 30 {
			t.Fatalf("behind Kept(%d, 1), %d, the commit is %d", op, e, p.Commit())
		}
	}
	if e := p.Kept(31, 3); e != okay || p.Commit() != 30+span || p.Head() != 30+span || !p.Room() {
		t.Fatalf("behind Kept(31, 3), %d, the commit is %d, the head %d", e, p.Commit(), p.Head())
	}
}

// apart: who is in a number's set, by its bits, which stand for the replicas from 1 on.
func apart(set, count int) []int {
	var list []int
	for who := 1; who <= count; who++ {
		if set>>(who-1)%2 == 1 {
			list = append(list, who)
		}
	}
	return list
}

// P19.2: three operations under way, all sets of who keeps each, told from the first one on and from the last one on.
func TestKeptAllSets(t *testing.T) {
	for count := range most {
		for sets := range 1 << (3 * count) {
			who := sets%count + 1
			for _, order := range [][]int{{1, 2, 3}, {3, 2, 1}} {
				p, r := made(t, count, who, 0, 3), plainOf(count, who, 0, 3)
				for _, op := range order {
					for _, from := range apart(sets>>((op-1)*count), count) {
						if e, want := p.Kept(op, from), r.kept(op, from); e != want {
							t.Fatalf("Kept(%d, %d) is %d, not %d", op, from, e, want)
						}
					}
				}
				if p.Commit() != r.commit {
					t.Fatalf("of %d with %d, by the sets %b, the commit is %d, not %d", count, who, sets, p.Commit(), r.commit)
				}
				for op := range 5 {
					if got, want := p.Due(op), r.due(op); !slices.Equal(got, want) {
						t.Fatalf("of %d with %d, by the sets %b, Due(%d) is %v, not %v", count, who, sets, op, got, want)
					}
				}
			}
		}
	}
}

// P19.2: nobody is due for what is not under way.
func TestDueOfNothing(t *testing.T) {
	p := made(t, 5, 1, 3, 9)
	for _, op := range append(odd(), 4+span, 9-span, math.MinInt+4, math.MinInt+9) {
		if got := p.Due(op); len(got) > 0 != (3 < op && op <= 9) {
			t.Errorf("Due(%d) is %v", op, got)
		}
	}
}

// P19.2: is there room? By the head and the commit, as both rise.
func TestRoom(t *testing.T) {
	if api.Pipe != 2 {
		t.Fatal("these tests are for two under way")
	}
	for ahead := range span + 1 {
		if p := made(t, 3, 1, 8, 8+ahead); p.Room() != (ahead < 2) {
			t.Errorf("with %d under way Room is %v", ahead, p.Room())
		}
	}
	p := made(t, 3, 1, 8, 9)
	p.Add()
	if p.Room() {
		t.Error("with two under way there is room")
	}
	p.Kept(10, 2)
	if p.Room() {
		t.Error("there is room ahead of the commit")
	}
	p.Kept(9, 2)
	if !p.Room() {
		t.Error("there is no room behind the commit")
	}
}

// What a pipe answers is new memory each time.
func TestDueIsNew(t *testing.T) {
	p := made(t, 5, 3, 0, 2)
	one, other, two := p.Due(1), p.Due(1), p.Due(2)
	clear(one[:cap(one)])
	for _, got := range [][]int{other, two, p.Due(1), p.Due(2)} {
		if !slices.Equal(got, []int{1, 2, 4, 5}) {
			t.Errorf("Due is %v", got)
		}
	}
}

// Pipes don't know of one another.
func TestPipesApart(t *testing.T) {
	one, other := made(t, 3, 1, 0, 2), made(t, 3, 1, 0, 2)
	one.Kept(2, 3)
	one.Kept(1, 2)
	one.Add()
	like(t, other, plainOf(3, 1, 0, 2))
}

// walk: many calls, most of them right, each of which answers as the plain pipe does.
func walk(t *testing.T, random *rand.Rand, count, who, commit, head int) {
	p, r := made(t, count, who, commit, head), plainOf(count, who, commit, head)
	kept := map[int]map[int]bool{} // who is known to keep an operation, beside the primary
	for range 400 {
		before := p.Commit()
		switch op, from := r.commit-1+random.Intn(r.head-r.commit+4), random.Intn(count+2); {
		case random.Intn(4) == 0:
			got, e := p.Add()
			if want, wantE := r.add(); got != want || e != wantE {
				t.Fatalf("Add is %d, %d, not %d, %d", got, e, want, wantE)
			}
		default:
			e := p.Kept(op, from)
			if want := r.kept(op, from); e != want {
				t.Fatalf("Kept(%d, %d) is %d, not %d", op, from, e, want)
			}
			if e == okay {
				if kept[op] == nil {
					kept[op] = map[int]bool{who: true}
				}
				kept[op][from] = true
			}
		}
		like(t, p, r)
		if p.Commit() < before {
			t.Fatalf("the commit fell from %d to %d", before, p.Commit())
		}
		for op := before + 1; op <= p.Commit(); op++ {
			if len(kept[op]) < most[count] {
				t.Fatalf("the commit is %d, but only %d of %d have kept %d", p.Commit(), len(kept[op]), count, op)
			}
		}
	}
}

// P19.1 to P19.3: any calls; the commit never falls, nor is it ever above what fewer than most have kept.
func TestWalks(t *testing.T) {
	random := rand.New(rand.NewSource(19))
	for range 60 {
		for count := range most {
			for who := 1; who <= count; who++ {
				ahead := random.Intn(span + 1)
				for _, commit := range []int{0, random.Intn(100), top - span - random.Intn(60)} {
					walk(t, random, count, who, commit, commit+ahead)
				}
			}
		}
	}
}

// A nil pipe is nobody's.
func TestNil(t *testing.T) {
	var p *pipe.Pipe
	if op, e := p.Add(); op != 0 || e != lone {
		t.Errorf("Add is %d, %d", op, e)
	}
	for _, op := range odd() {
		for _, from := range []int{math.MinInt, -1, 0, 1, 3, 5, 6, math.MaxInt} {
			if e := p.Kept(op, from); e != lone {
				t.Fatalf("Kept(%d, %d) is %d", op, from, e)
			}
		}
		if got := p.Due(op); len(got) != 0 {
			t.Fatalf("Due(%d) is %v", op, got)
		}
	}
	if p.Commit() != 0 || p.Head() != 0 || p.Room() {
		t.Errorf("%d, %d, %v", p.Commit(), p.Head(), p.Room())
	}
}

// No call panics, nor goes on for ever, of a pipe that nobody made.
func TestNobodyMade(t *testing.T) {
	p := new(pipe.Pipe)
	for _, n := range odd() {
		for _, from := range odd() {
			p.Kept(n, from)
		}
		p.Due(n)
		p.Add()
	}
	p.Commit()
	p.Head()
	p.Room()
}

// The chapter's example.
func TestExample(t *testing.T) {
	p := made(t, 3, 1, 4, 4)
	if op, e := p.Add(); op != 5 || e != okay {
		t.Errorf("Add is %d, %d", op, e)
	}
	if e := p.Kept(5, 2); e != okay || p.Commit() != 5 {
		t.Errorf("Kept is %d, the commit %d", e, p.Commit())
	}
}
