package choose_test

import (
	"math"
	"math/rand"
	"reflect"
	"slices"
	"strings"
	"testing"
	"unsafe"

	"comptor/api"
	"comptor/choose"
	"comptor/entry"
	"comptor/msg"
	"comptor/slot"
)

const (
	top      = 1<<56 - 1 // the greatest number
	slots    = 8
	lacks    = 0
	holds    = 1
	faulty   = 2
	unsure   = 3
	msgLog   = 7
	lastKind = 16
)

// enough: how many of a group are most of it.
func enough(count int) int {
	return map[int]int{3: 2, 5: 3}[count]
}

// held: the item of an entry that is held.
func held(e api.Entry) api.Item {
	return api.Item{Kind: holds, Stub: slot.StubOf(e), Entry: e}
}

// spoilt: the item of an entry that can't be read any more.
func spoilt(e api.Entry) api.Item {
	return api.Item{Kind: faulty, Stub: slot.StubOf(e)}
}

// dark: the item of which nobody knows.
func dark() api.Item {
	return api.Item{Kind: unsure}
}

// items: these, and behind them nothing.
func items(l ...api.Item) []api.Item {
	all := make([]api.Item, slots)
	copy(all, l)
	return all
}

// full: items that hold these entries.
func full(l ...api.Entry) []api.Item {
	all := make([]api.Item, slots)
	for i, e := range l {
		all[i] = held(e)
	}
	return all
}

// logOf: a log behind the beginning.
func logOf(from, logView int, l []api.Item) api.Msg {
	return behind(api.Mark{}, from, logView, l)
}

// behind: a log behind a checkpoint.
func behind(check api.Mark, from, logView int, l []api.Item) api.Msg {
	return api.Msg{Kind: msgLog, From: from, LogView: logView, Check: check, Items: l}
}

// next: an entry behind a mark.
func next(m api.Mark, view int, body string) api.Entry {
	return entry.Next(m, api.Entry{View: view, Client: 11, Session: 1, Request: 2, Operation: 3, Body: body})
}

// chain: n entries of one view, one behind the other, the first one behind a mark.
func chain(m api.Mark, view, n int) []api.Entry {
	var l []api.Entry
	for i := range n {
		e := next(m, view, strings.Repeat("c", i))
		l, m = append(l, e), entry.MarkOf(e)
	}
	return l
}

// counted: the logs that count, by the chapter's words.
func counted(count int, logs []api.Msg) []api.Msg {
	var l []api.Msg
	for who := 1; who <= count; who++ {
		var last []api.Msg
		for _, m := range logs {
			if m.Kind == msgLog && m.From == who && msg.Right(m) {
				last = []api.Msg{m}
			}
		}
		l = append(l, last...)
	}
	return l
}

// said: what a log says of its operations, by their numbers.
func said(log api.Msg) map[int]api.Item {
	by := map[int]api.Item{}
	for i, item := range log.Items {
		by[log.Check.Op+i+1] = item
	}
	return by
}

// mayChoose is the chapter's words on when a choice may be made.
func mayChoose(count int, logs []api.Msg) bool {
	if len(logs) == count {
		return true
	}
	for _, log := range logs {
		for _, item := range log.Items {
			if item.Kind == faulty || item.Kind == unsure {
				return false
			}
		}
	}
	return len(logs) >= enough(count)
}

// stubOf is the chapter's words on the stub that is told of an operation.
func stubOf(n int, logs []api.Msg) (api.Stub, bool) {
	var sure []api.Msg
	greatest := 0
	for _, log := range logs {
		if said(log)[n].Kind != unsure {
			sure = append(sure, log)
			greatest = max(greatest, log.LogView)
		}
	}
	for _, log := range sure {
		if item := said(log)[n]; log.LogView == greatest && (item.Kind == holds || item.Kind == faulty) {
			return item.Stub, true
		}
	}
	return api.Stub{}, false
}

// holder is the chapter's words on the entry that is told of a stub.
func holder(n int, s api.Stub, logs []api.Msg) (api.Entry, bool) {
	for _, log := range logs {
		if item := said(log)[n]; item.Kind == holds && item.Stub == s {
			return item.Entry, true
		}
	}
	return api.Entry{}, false
}

// words is the chapter's words on the choice.
func words(count int, messages []api.Msg) api.Choice {
	if count != 3 && count != 5 {
		return api.Choice{}
	}
	logs := counted(count, messages)
	if !mayChoose(count, logs) {
		return api.Choice{}
	}
	c := api.Choice{Ready: true, Check: logs[0].Check}
	for _, log := range logs {
		if log.Check.Op > c.Check.Op {
			c.Check = log.Check
		}
	}
	c.Commit = c.Check.Op
	for _, log := range logs {
		c.Commit = max(c.Commit, log.Commit)
	}
	m := c.Check
	for n := c.Check.Op + 1; n <= c.Check.Op+slots; n++ {
		s, is := stubOf(n, logs)
		if !is || s.Op != n || s.Under != m.View || s.Parent != m.Sum {
			return c
		}
		e, is := holder(n, s, logs)
		if !is && len(logs) < count {
			return api.Choice{}
		}
		if !is {
			return c
		}
		c.Entries = append(c.Entries, e)
		m = api.Mark{Op: s.Op, View: s.View, Sum: s.Sum}
	}
	return c
}

// same: are two choices one, whether their lists be nil or empty?
func same(one, two api.Choice) bool {
	return one.Ready == two.Ready && one.Check == two.Check && one.Commit == two.Commit && slices.Equal(one.Entries, two.Entries)
}

// isChosen: it is ready, with these entries.
func isChosen(t *testing.T, what string, got api.Choice, want ...api.Entry) {
	t.Helper()
	if !got.Ready || !slices.Equal(got.Entries, want) {
		t.Errorf("%s: %+v, not %+v", what, got, want)
	}
}

// isNone: it isn't ready, and all else is zero.
func isNone(t *testing.T, what string, got api.Choice) {
	t.Helper()
	if got.Ready || got.Check != (api.Mark{}) || got.Commit != 0 || len(got.Entries) != 0 {
		t.Errorf("%s: %+v", what, got)
	}
}

// TestExamples: the chapter's.
func TestExamples(t *testing.T) {
	two := chain(api.Mark{}, 1, 2)
	one := logOf(1, 1, full(two...))
	isChosen(t, "two clean logs", choose.Choose(3, []api.Msg{one, logOf(2, 2, full(two[0]))}), two[0])
	blind := logOf(2, 2, items(held(two[0]), dark()))
	isNone(t, "one that is unsure", choose.Choose(3, []api.Msg{one, blind}))
	isChosen(t, "and a third one", choose.Choose(3, []api.Msg{one, blind, logOf(3, 0, items())}), two...)
}

// TestGroups is P18.1: a group that may not be has no choice, whatever logs there are.
func TestGroups(t *testing.T) {
	var logs []api.Msg
	for from := range 256 {
		logs = append(logs, logOf(from, 1, full(chain(api.Mark{}, 1, 2)...)))
	}
	for n := -300; n <= 300; n++ {
		if n == 3 || n == 5 {
			continue
		}
		isNone(t, "a group that may not be", choose.Choose(n, nil))
		isNone(t, "a group that may not be", choose.Choose(n, logs[:8]))
	}
	for _, n := range []int{math.MinInt, math.MinInt32, math.MaxInt32, math.MaxInt, top, 1<<32 + 3, 1<<32 + 5, -1<<32 + 3, 1<<62 + 5, -3, -5, 4, 6} {
		isNone(t, "a group that may not be", choose.Choose(n, logs))
	}
	for _, n := range []int{3, 5} {
		isChosen(t, "a group that may be", choose.Choose(n, logs), chain(api.Mark{}, 1, 2)...)
		isNone(t, "no logs", choose.Choose(n, nil))
		isNone(t, "no logs", choose.Choose(n, []api.Msg{}))
	}
}

// others: messages that are no log that counts in a group of count, though From is a replica that has none.
func others(count, from int) map[string]api.Msg {
	good := logOf(from, 1, items())
	all := map[string]api.Msg{"a zero message": {}, "one of the zero kind": {From: from}}
	change := func(what string, turn func(m *api.Msg)) {
		m := good
		m.Items = slices.Clone(m.Items)
		turn(&m)
		all[what] = m
	}
	e := next(api.Mark{}, 1, "a")
	change("nobody's", func(m *api.Msg) { m.From = 0 })
	change("of one below", func(m *api.Msg) { m.From = -1 })
	change("of one beyond", func(m *api.Msg) { m.From = count + 1 })
	change("of one far beyond", func(m *api.Msg) { m.From = 255 })
	change("of one who can't be", func(m *api.Msg) { m.From = from + 256 })
	change("without items", func(m *api.Msg) { m.Items = nil })
	change("with seven items", func(m *api.Msg) { m.Items = m.Items[:slots-1] })
	change("with nine items", func(m *api.Msg) { m.Items = append(m.Items, api.Item{}) })
	change("with a view below", func(m *api.Msg) { m.View = -1 })
	change("with a log's view below", func(m *api.Msg) { m.LogView = -1 })
	change("with a log's view beyond", func(m *api.Msg) { m.LogView = top + 1 })
	change("with a commit below", func(m *api.Msg) { m.Commit = -1 })
	change("with a commit beyond", func(m *api.Msg) { m.Commit = top + 1 })
	change("with a checkpoint below", func(m *api.Msg) { m.Check.Op = -1 })
	change("with a checkpoint beyond", func(m *api.Msg) { m.Check.Op = top + 1 })
	change("with a checkpoint's view below", func(m *api.Msg) { m.Check.View = -1 })
	change("with an operation", func(m *api.Msg) { m.Op = 1 })
	change("with a body", func(m *api.Msg) { m.Body = "x" })
	change("with entries", func(m *api.Msg) { m.Entries = []api.Entry{e} })
	change("with an item of no kind", func(m *api.Msg) { m.Items[7].Kind = 4 })
	change("with an item lacked that has a stub", func(m *api.Msg) { m.Items[7].Stub = slot.StubOf(e) })
	change("with an item held of another stub", func(m *api.Msg) { m.Items[7] = held(e); m.Items[7].Stub.Sum++ })
	change("with an item held without a stub", func(m *api.Msg) { m.Items[7] = api.Item{Kind: holds, Entry: e} })
	change("with an item held without an entry", func(m *api.Msg) { m.Items[7] = api.Item{Kind: holds} })
	return all
}

// everyKind: a message of each kind but the log's that may be.
func everyKind(t *testing.T, from int) []api.Msg {
	var l []api.Msg
	for kind := 1; kind <= lastKind; kind++ {
		m := api.Msg{Kind: kind, From: from}
		if kind == api.MsgPrepare || kind == api.MsgEntry {
			m.Entry = next(api.Mark{}, 1, "a")
		}
		if kind == msgLog {
			continue
		}
		if !msg.Right(m) {
			t.Fatalf("the kind %d may not be", kind)
		}
		l = append(l, m)
	}
	return l
}

// TestNoLogs is P18.1: what is no log, or may not be, or is no replica's of the group, doesn't count.
func TestNoLogs(t *testing.T) {
	for _, count := range []int{3, 5} {
		var base []api.Msg
		l := chain(api.Mark{}, 1, 3)
		for who := 1; who < enough(count); who++ {
			base = append(base, logOf(who, 1, full(l[:2]...)))
		}
		last := enough(count)
		missing := func(what string, m api.Msg) {
			t.Helper()
			isNone(t, what, choose.Choose(count, append(slices.Clone(base), m)))
			isNone(t, what, choose.Choose(count, append([]api.Msg{m}, base...)))
			whole := append(slices.Clone(base), logOf(last, 0, items()))
			isChosen(t, what, choose.Choose(count, append(slices.Clone(whole), m)), l[:2]...)
			isChosen(t, what, choose.Choose(count, append([]api.Msg{m}, whole...)), l[:2]...)
		}
		isNone(t, "too few logs", choose.Choose(count, base))
		for what, m := range others(count, last) {
			missing(what, m)
		}
		for _, m := range everyKind(t, last) {
			missing("another kind", m)
		}
	}
}

// TestLast is P18.1: of each replica the last log counts, of those that may be, and of logs alone.
func TestLast(t *testing.T) {
	l := chain(api.Mark{}, 1, 3)
	for _, count := range []int{3, 5} {
		for who := 1; who <= count; who++ {
			var base []api.Msg
			for other := 1; other <= count; other++ {
				if other != who {
					base = append(base, logOf(other, 1, items()))
				}
			}
			first, second := logOf(who, 3, full(l[0])), logOf(who, 2, full(l...))
			isChosen(t, "the second one", choose.Choose(count, slices.Concat(base, []api.Msg{first, second})), l...)
			isChosen(t, "the first one", choose.Choose(count, slices.Concat(base, []api.Msg{second, first})), l[0])
			isChosen(t, "one ahead", choose.Choose(count, slices.Concat([]api.Msg{first}, base, []api.Msg{second})), l...)
			isChosen(t, "both ahead", choose.Choose(count, slices.Concat([]api.Msg{second, first}, base)), l[0])
			third := []api.Msg{first, second, first, first, second}
			isChosen(t, "many", choose.Choose(count, slices.Concat(third, base)), l...)
			for _, m := range others(count, who) {
				isChosen(t, "one that may not be behind it", choose.Choose(count, slices.Concat(base, []api.Msg{first, second, m})), l...)
			}
			for _, m := range everyKind(t, who) {
				isChosen(t, "another kind behind it", choose.Choose(count, slices.Concat(base, []api.Msg{first, second, m})), l...)
			}
			// An unclean log doesn't count any more when a clean one is behind it.
			few := base[:enough(count)-1]
			isNone(t, "an unclean one is the last", choose.Choose(count, slices.Concat(few, []api.Msg{second, logOf(who, 2, items(dark()))})))
			isChosen(t, "a clean one is the last", choose.Choose(count, slices.Concat(few, []api.Msg{logOf(who, 2, items(dark())), second})), l...)
		}
	}
}

// TestDecided is P18.1: of all sets of logs that are clean, or not, just those are enough of which all are there, or which are most and clean.
func TestDecided(t *testing.T) {
	e := next(api.Mark{}, 1, "a")
	unclean := [][]api.Item{nil, items(), items(held(e)), items(held(e), dark()), items(spoilt(e)), items(dark(), spoilt(e))}
	for _, count := range []int{3, 5} {
		cases := 1
		for range count {
			cases *= len(unclean)
		}
		ready := 0
		for k := range cases {
			var logs []api.Msg
			clean, rest := true, k
			for who := 1; who <= count; who++ {
				if kind := rest % len(unclean); kind > 0 {
					logs = append(logs, logOf(who, 1, unclean[kind]))
					clean = clean && kind < 3
				}
				rest /= len(unclean)
			}
			want := len(logs) == count || len(logs) >= enough(count) && clean
			got := choose.Choose(count, logs)
			if got.Ready != want || !same(got, words(count, logs)) {
				t.Fatalf("of %d, case %d: %+v", count, k, got)
			}
			if want {
				ready++
			}
		}
		if ready < 50 {
			t.Errorf("of %d only %d are decided", count, ready)
		}
	}
}

// TestUncleanAnywhere is P18.1: a log isn't clean whichever of its items is faulty or unsure, one that the checkpoint has, too.
func TestUncleanAnywhere(t *testing.T) {
	l := chain(api.Mark{}, 1, 8)
	for at := range slots {
		for _, bad := range []api.Item{dark(), spoilt(l[at])} {
			for _, far := range []int{0, 4, 8} {
				check := api.Mark{}
				if far > 0 {
					check = entry.MarkOf(l[far-1])
				}
				one := logOf(1, 1, full(l...))
				one.Items[at] = bad
				two := behind(check, 2, 1, full(l[far:]...))
				isNone(t, "two of three", choose.Choose(3, []api.Msg{one, two}))
				isNone(t, "two of three", choose.Choose(3, []api.Msg{two, one}))
				three := two
				three.From = 3
				isChosen(t, "three of three", choose.Choose(3, []api.Msg{one, two, three}), l[far:]...)
				isNone(t, "three of five", choose.Choose(5, []api.Msg{one, two, three}))
				four := two
				four.From = 5
				isNone(t, "four of five", choose.Choose(5, []api.Msg{one, two, three, four}))
				five := two
				five.From = 4
				isChosen(t, "five of five", choose.Choose(5, []api.Msg{one, two, three, four, five}), l[far:]...)
			}
		}
	}
}

// TestCheckpoint is P18.1: it is the farthest one, of several the first replica's.
func TestCheckpoint(t *testing.T) {
	ops := []int{0, 1, 4, top - 1, top}
	for _, a := range ops {
		for _, b := range ops {
			for _, c := range ops {
				logs := make([]api.Msg, 3)
				want := api.Mark{Op: -1}
				for i, op := range []int{a, b, c} {
					m := api.Mark{Op: op, View: 9 - i, Sum: uint64(1000 - i)}
					logs[i] = behind(m, i+1, i, items())
					if op > want.Op {
						want = m
					}
				}
				for _, order := range orders(3) {
					got := choose.Choose(3, ordered(logs, order))
					if !got.Ready || got.Check != want || got.Commit != want.Op || len(got.Entries) != 0 {
						t.Fatalf("%d, %d, %d: %+v, not %+v", a, b, c, got, want)
					}
				}
				if got := choose.Choose(3, logs[1:]); got.Check.Op != max(b, c) || got.Commit != max(b, c) {
					t.Fatalf("%d, %d: %+v", b, c, got)
				}
			}
		}
	}
}

// TestCommit is P18.1: it is the greatest one of the logs that count, or the checkpoint's Op.
func TestCommit(t *testing.T) {
	numbers := []int{0, 1, 3, 4, 5, 9, top - 1, top}
	for _, op := range []int{0, 4, top} {
		for _, a := range numbers {
			for _, b := range numbers {
				one, two := behind(api.Mark{Op: op}, 2, 1, items()), logOf(3, 1, items())
				one.Commit, two.Commit = a, b
				if got := choose.Choose(3, []api.Msg{one, two}); !got.Ready || got.Commit != max(op, a, b) || got.Check.Op != op {
					t.Errorf("%d, %d, %d: %+v", op, a, b, got)
				}
				stranger := logOf(4, 1, items())
				stranger.Commit = top
				earlier := logOf(3, 1, items())
				earlier.Commit = top
				if got := choose.Choose(3, []api.Msg{stranger, earlier, one, two}); got.Commit != max(op, a, b) {
					t.Errorf("%d, %d, %d: %+v with logs that don't count", op, a, b, got)
				}
			}
		}
	}
}

// TestNewest is P18.1: who has the greatest view of those that are sure tells the stub; of several the first one that has one.
func TestNewest(t *testing.T) {
	a, b := next(api.Mark{}, 1, "a"), next(api.Mark{}, 1, "b")
	of := func(views [3]int, l ...api.Item) api.Choice {
		return choose.Choose(3, []api.Msg{logOf(1, views[0], items(l[0])), logOf(2, views[1], items(l[1])), logOf(3, views[2], items(l[2]))})
	}
	none := api.Item{}
	isChosen(t, "the first one", of([3]int{0, 0, 0}, held(a), held(b), held(b)), a)
	isChosen(t, "the second one is newer", of([3]int{0, 1, 0}, held(a), held(b), held(a)), b)
	isChosen(t, "the third one is newer", of([3]int{7, 8, 9}, held(a), held(a), held(b)), b)
	isChosen(t, "the first one is newer", of([3]int{top, top - 1, top - 1}, held(a), held(b), held(b)), a)
	isChosen(t, "the first of the newest", of([3]int{1, 2, 2}, none, held(b), held(a)), b)
	isChosen(t, "who lacks it tells nothing", of([3]int{2, 2, 2}, none, none, held(a)), a)
	isChosen(t, "the newest one lacks it", of([3]int{2, 3, 2}, held(a), none, held(a)))
	isChosen(t, "the newest one lacks it", of([3]int{0, 0, 1}, held(a), held(a), none))
	isChosen(t, "the newest one is unsure", of([3]int{2, 3, 2}, held(a), dark(), held(b)), a)
	isChosen(t, "the newest ones are unsure", of([3]int{3, 3, 2}, dark(), dark(), held(b)), b)
	isChosen(t, "all are unsure", of([3]int{3, 3, 2}, dark(), dark(), dark()))
	isChosen(t, "the newest one that is sure lacks it", of([3]int{1, 3, 2}, held(a), dark(), none))
	isChosen(t, "one is unsure, one lacks it, of one view", of([3]int{2, 2, 1}, dark(), none, held(a)))
	isChosen(t, "one is unsure, one holds it, of one view", of([3]int{2, 2, 1}, dark(), held(b), held(a)), b)
	isChosen(t, "the newest one is faulty", of([3]int{1, 2, 0}, held(a), spoilt(b), held(b)), b)
	isChosen(t, "nobody holds it", of([3]int{1, 2, 0}, held(a), spoilt(b), held(a)))
	isChosen(t, "the first of the newest is faulty", of([3]int{2, 2, 2}, spoilt(b), held(a), held(a)))
	isChosen(t, "the first of the newest is faulty, another one holds it", of([3]int{2, 2, 2}, spoilt(b), held(a), held(b)), b)
	isChosen(t, "an older one holds it ahead of others", of([3]int{0, 1, 0}, held(b), spoilt(b), held(a)), b)
	isChosen(t, "who holds another one", of([3]int{0, 1, 0}, held(a), spoilt(b), held(b)), b)
	isChosen(t, "all are faulty", of([3]int{2, 2, 2}, spoilt(a), spoilt(a), spoilt(a)))
}

// TestEachOperation is P18.1: each operation is asked for by itself.
func TestEachOperation(t *testing.T) {
	l := chain(api.Mark{}, 3, 4)
	other := next(entry.MarkOf(l[0]), 3, "other")
	one := logOf(1, 5, items(held(l[0]), dark(), held(l[2]), dark()))
	two := logOf(2, 4, items(dark(), held(l[1]), api.Item{}, held(l[3])))
	three := logOf(3, 3, items(api.Item{}, held(other), held(l[2]), api.Item{}))
	isChosen(t, "each one by another log", choose.Choose(3, []api.Msg{one, two, three}), l...)
	one.Items[2] = api.Item{}
	isChosen(t, "the third one is lacked", choose.Choose(3, []api.Msg{one, two, three}), l[:2]...)
	two.Items[1] = dark()
	isChosen(t, "another second one, that has none behind it", choose.Choose(3, []api.Msg{one, two, three}), l[0], other)
	one.Items[2] = held(l[2])
	isChosen(t, "nor the third one, which doesn't follow it", choose.Choose(3, []api.Msg{one, two, three}), l[0], other)
}

// TestEnds is P18.1: the choice ends at a stub that isn't behind the mark, though others tell the right one.
func TestEnds(t *testing.T) {
	l := chain(api.Mark{}, 3, 3)
	mark := entry.MarkOf(l[1])
	turn := func(what string, change func(e *api.Entry)) {
		t.Helper()
		e := next(mark, 4, "x")
		change(&e)
		for _, bad := range []api.Item{held(e), spoilt(e)} {
			one, two := logOf(1, 2, items(held(l[0]), held(l[1]), bad)), logOf(2, 1, full(l...))
			three := logOf(3, 1, items(held(l[0]), held(l[1]), held(e)))
			isChosen(t, what, choose.Choose(3, []api.Msg{one, two, three}), l[:2]...)
			two.LogView = 2
			isChosen(t, what+", the first one", choose.Choose(3, []api.Msg{one, two, three}), l[:2]...)
			two.LogView = 3
			isChosen(t, what+", not of the newest", choose.Choose(3, []api.Msg{one, two, three}), l...)
		}
		one, two := logOf(1, 2, full(l[0], l[1], e)), logOf(2, 2, full(l...))
		isChosen(t, what+", two logs", choose.Choose(3, []api.Msg{one, two}), l[:2]...)
	}
	turn("an Op below", func(e *api.Entry) { e.Op-- })
	turn("an Op beyond", func(e *api.Entry) { e.Op++ })
	turn("the Op of another round", func(e *api.Entry) { e.Op += slots })
	turn("a lesser Under", func(e *api.Entry) { e.Under-- })
	turn("a greater Under", func(e *api.Entry) { e.Under++ })
	turn("another Parent", func(e *api.Entry) { e.Parent++ })
	turn("another Parent, high up", func(e *api.Entry) { e.Parent ^= 1 << 63 })
	turn("no Parent", func(e *api.Entry) { e.Parent = 0 })
	e := next(mark, 4, "x")
	one, two := logOf(1, 2, full(l[0], l[1], e)), logOf(2, 1, full(l...))
	isChosen(t, "one that is behind the mark", choose.Choose(3, []api.Msg{one, two}), l[0], l[1], e)
}

// TestFirst is P18.1: the first entry is behind the checkpoint's mark, each number of which counts.
func TestFirst(t *testing.T) {
	m := api.Mark{Op: 8, View: 3, Sum: 77}
	l := chain(m, 4, 2)
	both := func(check api.Mark) api.Choice {
		return choose.Choose(3, []api.Msg{behind(check, 1, 4, full(l...)), behind(check, 3, 4, items())})
	}
	isChosen(t, "behind it", both(m), l...)
	for _, other := range []api.Mark{{Op: 8, View: 2, Sum: 77}, {Op: 8, View: 4, Sum: 77}, {Op: 8, View: 3, Sum: 76}, {Op: 8, View: 3}, {Op: 7, View: 3, Sum: 77}, {Op: 9, View: 3, Sum: 77}, {Op: 8, Sum: 77}} {
		isChosen(t, "behind another one", both(other))
	}
	// Of several checkpoints of one Op the first one counts, for the entries too.
	one, two := behind(m, 1, 0, items()), behind(api.Mark{Op: 8, View: 3, Sum: 78}, 2, 4, full(l...))
	isChosen(t, "the first one is theirs", choose.Choose(3, []api.Msg{two, one}), l...)
	one.Check, two.Check = two.Check, one.Check
	isChosen(t, "the first one is another", choose.Choose(3, []api.Msg{two, one}))
}

// TestWindows is P18.1: what logs say is by their own checkpoints; beyond their items they lack all.
func TestWindows(t *testing.T) {
	l := chain(api.Mark{}, 2, 16)
	marks := []api.Mark{{}}
	for _, e := range l {
		marks = append(marks, entry.MarkOf(e))
	}
	at := func(from, view, far, upTo int) api.Msg {
		return behind(marks[far], from, view, full(l[far:min(upTo, far+slots)]...))
	}
	for far := range 9 {
		for low := 0; low <= far; low++ {
			for upTo := low; upTo <= 16; upTo++ {
				for upTo2 := far; upTo2 <= 16; upTo2++ {
					one, two := at(1, 2, low, upTo), at(2, 1, far, upTo2)
					end := max(far, min(upTo, low+slots))
					got := choose.Choose(3, []api.Msg{one, two})
					isChosen(t, "the newer one is behind", got, l[far:end]...)
					two.LogView = 3
					isChosen(t, "the newer one is ahead", choose.Choose(3, []api.Msg{one, two}), l[far:max(far, min(upTo2, far+slots))]...)
					two.LogView = 2
					isChosen(t, "both are new", choose.Choose(3, []api.Msg{one, two}), l[far:max(end, min(upTo2, far+slots))]...)
				}
			}
		}
	}
}

// TestLongest is P18.1: eight entries at most, and the greatest numbers.
func TestLongest(t *testing.T) {
	l := chain(api.Mark{}, 1, 12)
	logs := []api.Msg{logOf(1, 1, full(l[:8]...)), logOf(2, 1, full(l[:8]...))}
	isChosen(t, "eight", choose.Choose(3, logs), l[:8]...)
	isChosen(t, "eight of five", choose.Choose(5, append(slices.Clone(logs), logOf(5, 1, full(l[:8]...)))), l[:8]...)
	for rest := range 10 {
		m := api.Mark{Op: top - rest, View: top, Sum: math.MaxUint64}
		far := chain(m, top, min(rest, slots))
		one, two := behind(m, 1, top, full(far...)), behind(m, 2, top, full(far...))
		one.Commit = top
		got := choose.Choose(3, []api.Msg{one, two})
		isChosen(t, "the last ones there can be", got, far...)
		if got.Check != m || got.Commit != top {
			t.Errorf("the last but %d: %+v", rest, got)
		}
	}
	m := api.Mark{Op: top, View: 1, Sum: 5}
	e := next(api.Mark{Op: top - 1, View: 1, Sum: 5}, 1, "a")
	isChosen(t, "none is behind the last one", choose.Choose(3, []api.Msg{behind(m, 1, 1, full(e)), behind(m, 2, 1, full(e))}))
}

// orders: all orders of n places.
func orders(n int) [][]int {
	if n == 0 {
		return [][]int{nil}
	}
	var all [][]int
	for _, order := range orders(n - 1) {
		for at := 0; at <= len(order); at++ {
			all = append(all, slices.Insert(slices.Clone(order), at, n-1))
		}
	}
	return all
}

// ordered: messages in that order.
func ordered(logs []api.Msg, order []int) []api.Msg {
	l := make([]api.Msg, 0, len(logs))
	for _, k := range order {
		l = append(l, logs[k])
	}
	return l
}

// TestOne is P18.1: of one operation, all three logs of each view and each kind of item, against the chapter's words.
func TestOne(t *testing.T) {
	a, b := next(api.Mark{}, 1, "a"), next(api.Mark{}, 2, "b")
	wrong := next(api.Mark{Sum: 1}, 2, "w")
	kinds := []api.Item{{}, dark(), held(a), held(b), spoilt(a), spoilt(b), held(wrong)}
	var of [4][]api.Msg
	for who := 1; who <= 3; who++ {
		for view := range 3 {
			for _, item := range kinds {
				of[who] = append(of[who], logOf(who, view, items(item)))
			}
		}
	}
	for _, one := range of[1] {
		for _, two := range of[2] {
			pair := []api.Msg{one, two}
			if got, want := choose.Choose(3, pair), words(3, pair); !same(got, want) {
				t.Fatalf("%+v: %+v, not %+v", pair, got, want)
			}
			for _, three := range of[3] {
				all := []api.Msg{one, two, three}
				if got, want := choose.Choose(3, all), words(3, all); !same(got, want) {
					t.Fatalf("%+v: %+v, not %+v", all, got, want)
				}
			}
		}
	}
}

// scene makes logs that look like any: of a log that branches, which they kept more or less of.
type scene struct {
	some    *rand.Rand
	count   int
	marks   []api.Mark      // the checkpoints there may be
	entries [20][]api.Entry // by their places
	kinds   [4]int          // how often an item is of that kind
	likely  int             // of a hundred: the first entry of a place is what is kept
}

// newScene: one by its number.
func newScene(seed int64) *scene {
	some := rand.New(rand.NewSource(seed))
	s := &scene{some: some, count: 3 + 2*some.Intn(2), likely: 50 + some.Intn(51)}
	s.kinds = [][4]int{{1, 30, 0, 0}, {1, 15, 3, 3}, {6, 6, 0, 0}, {2, 20, 8, 2}, {0, 10, 3, 3}, {5, 5, 5, 5}, {0, 1, 0, 0}, {1, 30, 1, 1}}[some.Intn(8)]
	m := api.Mark{}
	if some.Intn(3) == 0 {
		m = api.Mark{Op: some.Intn(4), View: some.Intn(3), Sum: some.Uint64()}
	}
	s.marks = append(s.marks, m)
	for op := m.Op + 1; op < len(s.entries); op++ {
		e := next(m, m.View+some.Intn(2), "main")
		s.entries[op] = append(s.entries[op], e, s.strange(e), s.strange(e))
		if earlier := s.entries[op-1]; len(earlier) > 0 {
			s.entries[op] = append(s.entries[op], next(entry.MarkOf(earlier[some.Intn(len(earlier))]), m.View+9, "branch"))
		}
		m = entry.MarkOf(e)
		if op < 9 && some.Intn(4) == 0 {
			s.marks = append(s.marks, m, entry.MarkOf(s.entries[op][1]))
		}
	}
	return s
}

// strange: an entry that isn't just that one.
func (s *scene) strange(e api.Entry) api.Entry {
	switch s.some.Intn(6) {
	case 0:
		e.Op += 1 + s.some.Intn(2)
	case 1:
		e.Parent ^= 1 << s.some.Intn(64)
	case 2:
		e.Under, e.View = e.Under+1, e.View+1
	case 3:
		e.View++
	default:
		e.Body = string(rune('a' + s.some.Intn(3)))
	}
	return e
}

// item: what a log may say of an operation.
func (s *scene) item(op int) api.Item {
	all := 0
	for _, often := range s.kinds {
		all += often
	}
	kind, at := 0, s.some.Intn(all)
	for at >= s.kinds[kind] {
		at -= s.kinds[kind]
		kind++
	}
	e := s.entries[op][0]
	if s.some.Intn(100) >= s.likely {
		e = s.entries[op][s.some.Intn(len(s.entries[op]))]
	}
	switch kind {
	case holds:
		return held(e)
	case faulty:
		return spoilt(e)
	}
	return api.Item{Kind: kind}
}

// log: one that a replica may report.
func (s *scene) log(from int) api.Msg {
	check := s.marks[s.some.Intn(len(s.marks))]
	m := behind(check, from, s.some.Intn(4), items())
	m.View, m.Commit = 4+s.some.Intn(3), s.some.Intn(12)
	for i := range m.Items {
		m.Items[i] = s.item(check.Op + 1 + i)
	}
	return m
}

// logs: one of each replica of a set, in any order.
func (s *scene) logs() []api.Msg {
	var l []api.Msg
	for from := 1; from <= s.count; from++ {
		if s.some.Intn(8) > 0 {
			l = append(l, s.log(from))
		}
	}
	s.some.Shuffle(len(l), func(i, j int) { l[i], l[j] = l[j], l[i] })
	return l
}

// clutter: logs, and among them others that may count or not.
func (s *scene) clutter(logs []api.Msg) []api.Msg {
	l := slices.Clone(logs)
	for range s.some.Intn(5) {
		m := s.log(s.some.Intn(s.count + 2))
		switch s.some.Intn(4) {
		case 0:
			m.Items = m.Items[1:]
		case 1:
			m = api.Msg{Kind: api.MsgChange, From: m.From, View: m.View}
		}
		l = slices.Insert(l, s.some.Intn(len(l)+1), m)
	}
	return l
}

const scenes = 3000

// TestWords is P18.1: logs of all kinds against the chapter's words.
func TestWords(t *testing.T) {
	var ready, long, whole, none int
	for k := range scenes {
		s := newScene(int64(k))
		logs := s.logs()
		for _, l := range [][]api.Msg{logs, s.clutter(logs)} {
			got, want := choose.Choose(s.count, l), words(s.count, l)
			if !same(got, want) {
				t.Fatalf("scene %d: %+v: %+v, not %+v", k, l, got, want)
			}
			switch {
			case !got.Ready:
				none++
			case len(got.Entries) == slots:
				whole++
			case len(got.Entries) > 2:
				long++
			}
			if got.Ready {
				ready++
			}
		}
	}
	if min(ready, none) < 1000 || min(long, whole) < 300 {
		t.Errorf("scenes of one sort: %d ready, %d long, %d whole, %d not ready", ready, long, whole, none)
	}
}

// TestFollow is P18.2: entries follow the checkpoint and one another, and a log that counts holds each one in its place.
func TestFollow(t *testing.T) {
	for k := range scenes / 4 {
		s := newScene(int64(scenes + k))
		logs := s.clutter(s.logs())
		got, m := choose.Choose(s.count, logs), api.Mark{}
		if m = got.Check; len(got.Entries) > slots {
			t.Fatalf("scene %d: %d entries", k, len(got.Entries))
		}
		for _, e := range got.Entries {
			if !entry.Follows(m, e) {
				t.Fatalf("scene %d: %+v doesn't follow %+v", k, e, m)
			}
			if m = entry.MarkOf(e); !isHeld(counted(s.count, logs), e) {
				t.Fatalf("scene %d: nobody holds %+v", k, e)
			}
		}
	}
}

// isHeld: does a log hold just that entry in its place?
func isHeld(logs []api.Msg, e api.Entry) bool {
	for _, log := range logs {
		if item := said(log)[e.Op]; item.Kind == holds && item.Entry == e {
			return true
		}
	}
	return false
}

// TestOrder is P18.2: logs in each order come to the same.
func TestOrder(t *testing.T) {
	for k := range scenes / 10 {
		s := newScene(int64(2*scenes + k))
		logs := s.logs()
		want := choose.Choose(s.count, logs)
		all := orders(len(logs))
		for range 24 {
			order := all[s.some.Intn(len(all))]
			if got := choose.Choose(s.count, ordered(logs, order)); !same(got, want) {
				t.Fatalf("scene %d, order %v: %+v, not %+v", k, order, got, want)
			}
		}
	}
}

// bound: is an entry one that must stay by the view v, by the words of P18.3, but for what is ahead of it?
func bound(logs []api.Msg, e api.Entry, v int) bool {
	isThere := false
	for _, log := range logs {
		if log.LogView < v {
			continue
		}
		switch item := said(log)[e.Op]; item.Kind {
		case lacks:
			return false
		case holds, faulty:
			if item.Stub != slot.StubOf(e) {
				return false
			}
			isThere = isThere || item.Kind == holds
		}
	}
	return isThere
}

// staying: the entries that must be chosen by the view v.
func staying(logs []api.Msg, check api.Mark, v int) []api.Entry {
	var l []api.Entry
	for m := check; ; {
		at := len(l)
		for _, log := range logs {
			item := said(log)[m.Op+1]
			if item.Kind == holds && log.LogView >= v && entry.Follows(m, item.Entry) && bound(logs, item.Entry, v) {
				l, m = append(l, item.Entry), entry.MarkOf(item.Entry)
				break
			}
		}
		if len(l) == at {
			return l
		}
	}
}

// TestStays is P18.3: what was decided once stays.
func TestStays(t *testing.T) {
	bounds, hard := 0, 0
	for k := range scenes / 2 {
		s := newScene(int64(3*scenes + k))
		all := s.logs()
		got, logs := choose.Choose(s.count, all), counted(s.count, all)
		if !got.Ready {
			continue
		}
		for v := range 4 {
			must := staying(logs, got.Check, v)
			if len(got.Entries) < len(must) || !slices.Equal(got.Entries[:len(must)], must) {
				t.Fatalf("scene %d, view %d: %+v, not %+v", k, v, got, must)
			}
			bounds += len(must)
			if len(must) > 2 && v > 0 && !mayChoose(s.count, logs[1:]) {
				hard++
			}
		}
	}
	if bounds < 2000 || hard < 100 {
		t.Errorf("%d had to stay, %d of them hard", bounds, hard)
	}
}

// TestStaysByHand is P18.3: an entry that most have kept in a view stays, whoever else has another one, was away, or lost what it kept.
func TestStaysByHand(t *testing.T) {
	l := chain(api.Mark{}, 2, 2)
	old := next(api.Mark{}, 1, "old")
	late := next(entry.MarkOf(old), 1, "late")
	kept := full(l...)
	views := []int{2, 3, 4}
	for _, v1 := range views {
		for _, v2 := range views {
			for _, lost := range [][]api.Item{kept, items(spoilt(l[0]), spoilt(l[1])), items(dark(), dark()), items(spoilt(l[0]), dark()), items(held(l[0]), dark())} {
				for _, away := range [][]api.Item{items(), full(old, late), full(l[0]), items(spoilt(old)), items(dark(), held(late))} {
					for _, order := range orders(3) {
						logs := []api.Msg{logOf(order[0]+1, v1, kept), logOf(order[1]+1, v2, lost), logOf(order[2]+1, 1, away)}
						isChosen(t, "what most have kept", choose.Choose(3, logs), l...)
					}
				}
			}
		}
	}
}

// lent: messages like these, whose lists have spare room, and whose texts lie in bytes that are told too.
func lent(logs []api.Msg) ([]api.Msg, [][]byte) {
	var places [][]byte
	l := make([]api.Msg, len(logs), len(logs)+2)
	copy(l, logs)
	l[:cap(l)][len(l)].Kind = 77
	for k := range l {
		own := make([]api.Item, len(l[k].Items), len(l[k].Items)+2)
		copy(own, l[k].Items)
		for i := range own {
			if b := []byte(own[i].Entry.Body); len(b) > 0 {
				places = append(places, b)
				own[i].Entry.Body = unsafe.String(&b[0], len(b))
			}
		}
		own[:cap(own)][len(own)].Kind = 77
		l[k].Items = own
	}
	return l, places
}

// TestApart is the rules: what is handed in is neither changed nor kept, and answers are new memory.
func TestApart(t *testing.T) {
	for k := range 400 {
		s := newScene(int64(k))
		logs := s.clutter(s.logs())
		l, places := lent(logs)
		one, two := choose.Choose(s.count, l), choose.Choose(s.count, l)
		if l[:cap(l)][len(l)].Kind != 77 {
			t.Fatalf("scene %d: spare room was changed", k)
		}
		for i, m := range l {
			n := len(m.Items)
			if m.Items[:n+1][n].Kind != 77 || !slices.Equal(m.Items, logs[i].Items) {
				t.Fatalf("scene %d: items that were handed in were changed", k)
			}
			if m.Items = logs[i].Items; !reflect.DeepEqual(m, logs[i]) {
				t.Fatalf("scene %d: a message that was handed in was changed", k)
			}
		}
		for _, b := range places {
			clear(b)
		}
		for i := range l {
			clear(l[i].Items)
		}
		clear(l)
		want := words(s.count, logs)
		if !same(one, want) || !same(two, want) {
			t.Fatalf("scene %d: an answer shares memory with what was handed in", k)
		}
		texts := map[*byte]bool{}
		for _, e := range slices.Concat(one.Entries, two.Entries) {
			texts[unsafe.StringData(e.Body)] = true
		}
		if len(texts) != 2*len(want.Entries) {
			t.Fatalf("scene %d: texts of answers share memory", k)
		}
		clear(one.Entries[:cap(one.Entries)])
		if !same(two, want) {
			t.Fatalf("scene %d: two answers share memory", k)
		}
	}
}

// TestAgain is the rule that an answer hangs on what is handed in alone.
func TestAgain(t *testing.T) {
	first := newScene(1)
	logs := first.logs()
	want := words(first.count, logs)
	for k := range 200 {
		s := newScene(int64(k))
		choose.Choose(s.count, s.clutter(s.logs()))
		choose.Choose(-k, logs)
		if got := choose.Choose(first.count, logs); !same(got, want) {
			t.Fatalf("behind the scene %d: %+v, not %+v", k, got, want)
		}
	}
}

// TestNonsense is the rules: whatever is handed in, the call ends, and what may not be doesn't count.
func TestNonsense(t *testing.T) {
	some := rand.New(rand.NewSource(9))
	numbers := []int{0, 1, 2, 3, 5, 7, -1, 8, 255, 256, top, top + 1, math.MaxInt, math.MinInt}
	number := func() int { return numbers[some.Intn(len(numbers))] }
	for range 3000 {
		var logs []api.Msg
		for range some.Intn(9) {
			m := api.Msg{Kind: msgLog, From: some.Intn(7), LogView: number(), Commit: number(), Check: api.Mark{Op: number(), View: number()}}
			for range number() & 15 {
				e := api.Entry{Op: number(), View: number(), Under: number(), Client: number(), Operation: number()}
				m.Items = append(m.Items, api.Item{Kind: some.Intn(6) - 1, Stub: api.Stub{Op: number(), View: number()}, Entry: e})
			}
			if some.Intn(2) == 0 {
				m.LogView, m.Commit, m.Check = some.Intn(3), some.Intn(3), api.Mark{Op: some.Intn(4)}
				m.Items = items(api.Item{Kind: unsure}, spoilt(next(m.Check, 1, "x")), held(next(m.Check, 2, "y")))
			}
			if some.Intn(9) == 0 {
				m.Kind = number()
			}
			logs = append(logs, m)
		}
		count := number()
		if got, want := choose.Choose(count, logs), words(count, logs); !same(got, want) {
			t.Fatalf("%d, %+v: %+v, not %+v", count, logs, got, want)
		}
	}
}

// TestMany is P18.1: many messages, of which the last of each replica count.
func TestMany(t *testing.T) {
	l := chain(api.Mark{}, 1, 2)
	var logs []api.Msg
	for k := range 20000 {
		logs = append(logs, api.Msg{Kind: api.MsgKept, From: 1 + k%5, Op: k})
	}
	logs = append(logs, logOf(5, 9, full(l[0])), logOf(5, 1, items()), logOf(4, 1, full(l...)), logOf(1, 0, items()))
	logs = append(logs, logs[:20000]...)
	isChosen(t, "many", choose.Choose(5, logs), l...)
	isNone(t, "many", choose.Choose(3, logs))
}
