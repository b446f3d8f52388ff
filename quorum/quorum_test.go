package quorum_test

import (
	"math"
	"testing"

	"comptor/api"
	"comptor/quorum"
)

const (
	replicas = 5
	sets     = 32 // how many there are
)

// groups: how many replicas one may have, and how many of them are most.
var groups = map[int]int{3: 2, 5: 3}

// edges: numbers about which a reckoning could go wrong.
func edges() []int {
	list := []int{math.MinInt, math.MinInt + 1, math.MinInt32, math.MinInt32 - 1, math.MaxInt, math.MaxInt - 1, math.MaxInt32, math.MaxInt32 + 1,
		api.MaxNumber, api.MaxNumber + 1, 1 << 32, 1<<32 + 3, 1<<32 + 5, 1 << 62, -1 << 32, -1<<32 + 3}
	for n := -300; n <= 300; n++ {
		list = append(list, n)
	}
	for k := range 63 {
		list = append(list, 1<<k, 1<<k-1, 1<<k+1, -1<<k, -1<<k-1, -1<<k+1)
	}
	return list
}

// members: which replicas a number has, by its bits one by one.
func members(set int) [replicas]bool {
	var in [replicas]bool
	bits := uint64(set)
	for i := range in {
		in[i] = bits%2 == 1
		bits /= 2
	}
	return in
}

// number: the set that has these.
func number(in [replicas]bool) int {
	n, worth := 0, 1
	for _, is := range in {
		if is {
			n += worth
		}
		worth *= 2
	}
	return n
}

// count: how many these are.
func count(in [replicas]bool) int {
	n := 0
	for _, is := range in {
		if is {
			n++
		}
	}
	return n
}

// P16.1: a group has 3 or 5, most of which are 2 or 3.
func TestGroups(t *testing.T) {
	if api.MaxReplicas != replicas {
		t.Fatal("these tests are for groups of five at most")
	}
	for _, n := range edges() {
		most, may := groups[n]
		if quorum.May(n) != may {
			t.Errorf("May(%d) is %v", n, !may)
		}
		if got := quorum.Enough(n); got != most {
			t.Errorf("Enough(%d) is %d, not %d", n, got, most)
		}
	}
}

// P16.1: who leads the first views, counted one by one.
func TestPrimary(t *testing.T) {
	for n := range groups {
		who := 1
		for view := range 1000 {
			if got := quorum.Primary(n, view); got != who {
				t.Fatalf("Primary(%d, %d) is %d, not %d", n, view, got, who)
			}
			if who++; who > n {
				who = 1
			}
		}
	}
}

// P16.1: the greatest views, reckoned apart.
func TestPrimaryGreat(t *testing.T) {
	for _, c := range []struct{ count, view, who int }{
		{3, 1<<56 - 1, 1}, {5, 1<<56 - 1, 1}, {3, 1 << 56, 2}, {5, 1 << 56, 2},
		{3, 1<<31 - 1, 2}, {5, 1<<31 - 1, 3}, {3, 1 << 31, 3}, {5, 1 << 31, 4},
		{3, 1 << 32, 2}, {5, 1 << 32, 2}, {3, 1 << 62, 2}, {5, 1 << 62, 5},
		{3, math.MaxInt, 2}, {5, math.MaxInt, 3}, {3, math.MaxInt - 1, 1}, {5, math.MaxInt - 1, 2},
	} {
		if got := quorum.Primary(c.count, c.view); got != c.who {
			t.Errorf("Primary(%d, %d) is %d, not %d", c.count, c.view, got, c.who)
		}
	}
}

// P16.1: nobody leads a view below 0, or a group that may not be.
func TestNoPrimary(t *testing.T) {
	for _, n := range edges() {
		for _, view := range edges() {
			_, may := groups[n]
			switch got := quorum.Primary(n, view); {
			case (!may || view < 0) && got != 0:
				t.Fatalf("Primary(%d, %d) is %d", n, view, got)
			case may && view >= 0 && (got < 1 || got > n):
				t.Fatalf("Primary(%d, %d) is %d", n, view, got)
			}
		}
	}
}

// P16.2: a set and one more, for all numbers: what is no replica's is left out.
func TestWith(t *testing.T) {
	for _, set := range edges() {
		for _, who := range edges() {
			want := members(set)
			if who >= 1 && who <= replicas {
				want[who-1] = true
			}
			if got := quorum.With(set, who); got != number(want) {
				t.Fatalf("With(%d, %d) is %d, not %d", set, who, got, number(want))
			}
		}
	}
}

// P16.2: who is in a set, and how many: nobody but the replicas 1 to 5.
func TestHasAndSize(t *testing.T) {
	for _, set := range edges() {
		in := members(set)
		if got := quorum.Size(set); got != count(in) {
			t.Fatalf("Size(%d) is %d, not %d", set, got, count(in))
		}
		for _, who := range edges() {
			want := who >= 1 && who <= replicas && in[who-1]
			if quorum.Has(set, who) != want {
				t.Fatalf("Has(%d, %d) is %v", set, who, !want)
			}
		}
	}
}

// P16.2: sets that are made one by one, in each order of three.
func TestSetsGrow(t *testing.T) {
	for a := 1; a <= replicas; a++ {
		for b := 1; b <= replicas; b++ {
			for c := 1; c <= replicas; c++ {
				set := quorum.With(quorum.With(quorum.With(0, a), b), c)
				apart := map[int]bool{a: true, b: true, c: true}
				if quorum.Size(set) != len(apart) {
					t.Fatalf("of %d, %d, %d Size is %d", a, b, c, quorum.Size(set))
				}
				for who := 0; who <= replicas+1; who++ {
					if quorum.Has(set, who) != apart[who] {
						t.Fatalf("of %d, %d, %d Has(%d) is %v", a, b, c, who, !apart[who])
					}
				}
			}
		}
	}
}

// within: no other replicas than those of the group are in the set.
func within(set, n int) bool {
	for who := n + 1; who <= replicas; who++ {
		if quorum.Has(set, who) {
			return false
		}
	}
	return true
}

// P16.3: any two sets of most have one together; of sets that are smaller by one some two have none.
func TestMostMeet(t *testing.T) {
	for n := range groups {
		apart := false
		for a := range sets {
			for b := range sets {
				if !within(a, n) || !within(b, n) {
					continue
				}
				meet := false
				for who := 1; who <= n; who++ {
					meet = meet || quorum.Has(a, who) && quorum.Has(b, who)
				}
				most := quorum.Enough(n)
				if quorum.Size(a) >= most && quorum.Size(b) >= most && !meet {
					t.Fatalf("of %d the sets %d and %d have none together", n, a, b)
				}
				apart = apart || quorum.Size(a) == most-1 && quorum.Size(b) == most-1 && !meet
			}
		}
		if !apart {
			t.Errorf("of %d fewer than Enough are enough", n)
		}
	}
}

// P16.3: in any views one behind the other each replica leads just one.
func TestEachLeadsOne(t *testing.T) {
	for n := range groups {
		for _, first := range edges() {
			if first < 0 || first > math.MaxInt-n {
				continue
			}
			leaders := 0
			for view := first; view < first+n; view++ {
				leaders = quorum.With(leaders, quorum.Primary(n, view))
			}
			if quorum.Size(leaders) != n || !within(leaders, n) {
				t.Fatalf("of %d those who lead from the view %d on are the set %d", n, first, leaders)
			}
		}
	}
}

// The chapter's examples.
func TestExamples(t *testing.T) {
	if got := quorum.Enough(5); got != 3 {
		t.Errorf("Enough(5) is %d", got)
	}
	if got := quorum.Primary(3, 4); got != 2 {
		t.Errorf("Primary(3, 4) is %d", got)
	}
	if got := quorum.With(1, 3); got != 5 || quorum.Size(got) != 2 {
		t.Errorf("With(1, 3) is %d, of Size %d", got, quorum.Size(got))
	}
}
