package msg_test

import (
	"encoding/binary"
	"encoding/hex"
	"hash/crc32"
	"math"
	"math/rand"
	"reflect"
	"strings"
	"testing"
	"unsafe"

	"comptor/api"
	"comptor/crc"
	"comptor/entry"
	"comptor/head"
	"comptor/msg"
	"comptor/slot"
)

const (
	headBytes  = 128
	top        = 1<<56 - 1 // the greatest number
	longest    = 200       // bytes of a body
	blockBytes = 320
	slots      = 8
	blocks     = 6
	lastKind   = 16
	most       = 4096 // bytes of a message
)

// kinds is the chapter's table, from the kind 1 on.
func kinds() []string {
	return []string{
		"",
		"Client Session Request Operation Body",
		"View Commit Entry",
		"View Op",
		"View Op Client Session Request Body",
		"View Commit",
		"View",
		"View LogView Commit Check Items",
		"View Commit Check Entries",
		"View",
		"Op",
		"Entry",
		"",
		"Check Size Sums",
		"Check Index",
		"Check Index Body",
		"View Op Client Session Request",
	}
}

// numbers: the names of all fields that are numbers, and where a header has them; of Size and Index its kind tells whose the place is.
func numbers() map[string]int {
	return map[string]int{"View": 24, "Op": 32, "Commit": 40, "Client": 48, "Session": 56, "Request": 64, "LogView": 72, "Index": 80, "Size": 80, "Operation": 10}
}

// others: the names of all other fields, but for Kind and From.
func others() []string {
	return []string{"Check", "Sums", "Entry", "Entries", "Items", "Body"}
}

// of: a message's number by its name.
func of(m *api.Msg, name string) *int {
	return reflect.ValueOf(m).Elem().FieldByName(name).Addr().Interface().(*int)
}

// has: has a kind the field?
func has(kind int, name string) bool {
	if kind < 1 || kind > lastKind {
		return false
	}
	for _, one := range strings.Fields(kinds()[kind]) {
		if one == name {
			return true
		}
	}
	return false
}

// greatest: what a number may be at most.
func greatest(name string) int {
	if name == "Operation" {
		return 255
	}
	return top
}

// room: how many bytes the body of a kind's message may have.
func room(kind int) int {
	if kind == 15 {
		return blockBytes
	}
	return longest
}

// made: n bytes that look like any.
func made(n int, seed int64) string {
	b := make([]byte, n)
	rand.New(rand.NewSource(seed)).Read(b)
	return string(b)
}

// sumOf is the library's sum.
func sumOf(b []byte) uint32 {
	return crc32.Checksum(b, crc32.MakeTable(crc32.Castagnoli))
}

// reckoned: bytes with the size and the sums that they must have.
func reckoned(b []byte) string {
	binary.LittleEndian.PutUint32(b[12:], uint32(len(b)-headBytes))
	binary.LittleEndian.PutUint32(b[4:], sumOf(b[headBytes:]))
	binary.LittleEndian.PutUint32(b, sumOf(b[4:headBytes]))
	return string(b)
}

// words: b and behind it numbers in eight bytes each.
func words(b []byte, list ...uint64) []byte {
	for _, n := range list {
		b = binary.LittleEndian.AppendUint64(b, n)
	}
	return b
}

// entryBytes is an entry's bytes, each at its place, though it may not be.
func entryBytes(e api.Entry) string {
	b := make([]byte, headBytes)
	b[8], b[10] = 255, byte(e.Operation)
	copy(b[16:], words(nil, e.Parent, uint64(e.View), uint64(e.Op), 0, uint64(e.Client), uint64(e.Session), uint64(e.Request), uint64(e.Under)))
	return reckoned(append(b, e.Body...))
}

// text: b and behind it the text of an entry's bytes.
func text(b []byte, e api.Entry) []byte {
	s := entryBytes(e)
	return append(binary.LittleEndian.AppendUint16(b, uint16(len(s))), s...)
}

// stubOf is an entry's stub, by the words of the chapters 9 and 12.
func stubOf(e api.Entry) api.Stub {
	return api.Stub{Op: e.Op, View: e.View, Under: e.Under, Parent: e.Parent, Sum: crc.Chain(e.Parent, entryBytes(e))}
}

// itemBytes: b and behind it an item.
func itemBytes(b []byte, item api.Item) []byte {
	b = append(b, byte(item.Kind))
	if item.Kind == 1 {
		b = text(b, item.Entry)
	}
	if s := item.Stub; item.Kind == 2 {
		b = words(b, uint64(s.Op), uint64(s.View), uint64(s.Under), s.Parent, s.Sum)
	}
	return b
}

// bodyBytes: b and behind it that field, if it stands in the body.
func bodyBytes(b []byte, m api.Msg, name string) []byte {
	switch name {
	case "Check":
		b = words(b, uint64(m.Check.Op), uint64(m.Check.View), m.Check.Sum)
	case "Sums":
		b = words(b, m.Sums[:]...)
	case "Entry":
		b = text(b, m.Entry)
	case "Entries":
		b = append(b, byte(len(m.Entries)))
		for _, e := range m.Entries {
			b = text(b, e)
		}
	case "Items":
		for _, item := range m.Items {
			b = itemBytes(b, item)
		}
	case "Body":
		b = append(b, m.Body...)
	}
	return b
}

// spelt is a message's bytes but for the size and the sums, each at its place, though it may not be.
func spelt(m api.Msg) []byte {
	b := make([]byte, headBytes)
	b[8], b[9] = byte(m.Kind), byte(m.From)
	for name, at := range numbers() {
		n := *of(&m, name)
		switch {
		case name == "Operation":
			b[at] = byte(n)
		case name == "Size" && m.Kind != 13 || name == "Index" && m.Kind == 13:
		default:
			binary.LittleEndian.PutUint64(b[at:], uint64(n))
		}
	}
	for _, name := range others() {
		if has(m.Kind, name) {
			b = bodyBytes(b, m, name)
		}
	}
	return b
}

// built is the chapter's words on a message's bytes.
func built(m api.Msg) string {
	return reckoned(spelt(m))
}

// between: are all numbers in these bounds?
func between(least, greatest int, list ...int) bool {
	for _, n := range list {
		if n < least || n > greatest {
			return false
		}
	}
	return true
}

// mayEntry is chapter 9's words on which entry may be.
func mayEntry(e api.Entry) bool {
	return between(1, top, e.Op, e.Client) && between(0, top, e.View, e.Under, e.Session, e.Request) && between(1, 255, e.Operation) && e.Under <= e.View && len(e.Body) <= longest
}

// mayItem is the chapter's words on which item may be.
func mayItem(item api.Item) bool {
	s := item.Stub
	switch item.Kind {
	case 0, 3:
		return s == api.Stub{} && item.Entry == api.Entry{}
	case 1:
		return mayEntry(item.Entry) && s == stubOf(item.Entry)
	case 2:
		return between(1, top, s.Op) && between(0, top, s.View, s.Under) && s.Under <= s.View && item.Entry == api.Entry{}
	}
	return false
}

// mayField is the chapter's words on what a field of the message's kind may be.
func mayField(m api.Msg, name string) bool {
	switch name {
	case "Check":
		return between(0, top, m.Check.Op, m.Check.View)
	case "Sums":
		return true
	case "Entry":
		return mayEntry(m.Entry)
	case "Entries":
		for _, e := range m.Entries {
			if !mayEntry(e) {
				return false
			}
		}
		return len(m.Entries) <= slots
	case "Items":
		for _, item := range m.Items {
			if !mayItem(item) {
				return false
			}
		}
		return len(m.Items) == slots
	case "Body":
		return len(m.Body) <= room(m.Kind)
	}
	return between(0, greatest(name), *of(&m, name))
}

// may is the chapter's words on which message may be.
func may(m api.Msg) bool {
	if !between(1, lastKind, m.Kind) || !between(0, 255, m.From) {
		return false
	}
	all := others()
	for name := range numbers() {
		all = append(all, name)
	}
	for _, name := range all {
		field := reflect.ValueOf(m).FieldByName(name)
		nothing := field.IsZero() || field.Kind() == reflect.Slice && field.Len() == 0
		if own := has(m.Kind, name); own && !mayField(m, name) || !own && !nothing {
			return false
		}
	}
	return true
}

// same: are two messages one, whether their lists be nil or empty?
func same(one, two api.Msg) bool {
	if len(one.Entries) != len(two.Entries) || len(one.Items) != len(two.Items) {
		return false
	}
	for i, e := range one.Entries {
		if e != two.Entries[i] {
			return false
		}
	}
	for i, item := range one.Items {
		if item != two.Items[i] {
			return false
		}
	}
	one.Entries, one.Items, two.Entries, two.Items = nil, nil, nil, nil
	return reflect.DeepEqual(one, two)
}

// copied: a message with lists of its own.
func copied(m api.Msg) api.Msg {
	m.Entries = append([]api.Entry(nil), m.Entries...)
	m.Items = append([]api.Item(nil), m.Items...)
	return m
}

// leastEntry: that of the least numbers.
func leastEntry() api.Entry {
	return api.Entry{Op: 1, Client: 1, Operation: 1}
}

// fullEntry: that of the greatest numbers, and of the longest body.
func fullEntry() api.Entry {
	return api.Entry{View: top, Op: top, Under: top, Parent: math.MaxUint64, Client: top, Session: top, Request: top, Operation: 255, Body: strings.Repeat("\xff", longest)}
}

// anyEntry: one that may be, and looks like any.
func anyEntry(some *rand.Rand) api.Entry {
	view := some.Intn(top + 1)
	return api.Entry{
		View: view, Op: 1 + some.Intn(top), Under: some.Intn(view + 1), Parent: some.Uint64(), Client: 1 + some.Intn(top),
		Session: some.Intn(top + 1), Request: some.Intn(top + 1), Operation: 1 + some.Intn(255), Body: made(some.Intn(longest+1), some.Int63()),
	}
}

// held: the item of an entry.
func held(e api.Entry) api.Item {
	return api.Item{Kind: 1, Stub: stubOf(e), Entry: e}
}

// anyItem: one that may be, of that kind.
func anyItem(some *rand.Rand, kind int) api.Item {
	switch e := anyEntry(some); kind {
	case 1:
		return held(e)
	case 2:
		s := stubOf(e)
		s.Sum = some.Uint64()
		return api.Item{Kind: 2, Stub: s}
	}
	return api.Item{Kind: kind}
}

// least: the message of a kind with the least of all.
func least(kind int) api.Msg {
	m := api.Msg{Kind: kind}
	if has(kind, "Entry") {
		m.Entry = leastEntry()
	}
	if has(kind, "Items") {
		m.Items = make([]api.Item, slots)
	}
	return m
}

// full: the message of a kind with the most of all.
func full(kind int) api.Msg {
	m := api.Msg{Kind: kind, From: 255}
	for _, name := range strings.Fields(kinds()[kind]) {
		switch name {
		case "Check":
			m.Check = api.Mark{Op: top, View: top, Sum: math.MaxUint64}
		case "Sums":
			for i := range m.Sums {
				m.Sums[i] = math.MaxUint64
			}
		case "Entry":
			m.Entry = fullEntry()
		case "Entries":
			for range slots {
				m.Entries = append(m.Entries, fullEntry())
			}
		case "Items":
			for range slots {
				m.Items = append(m.Items, held(fullEntry()))
			}
		case "Body":
			m.Body = strings.Repeat("\xff", room(kind))
		default:
			*of(&m, name) = greatest(name)
		}
	}
	return m
}

// anyMsg: one of a kind that may be, and looks like any.
func anyMsg(kind int, seed int64) api.Msg {
	some := rand.New(rand.NewSource(seed))
	m := api.Msg{Kind: kind, From: some.Intn(256)}
	for _, name := range strings.Fields(kinds()[kind]) {
		switch name {
		case "Check":
			m.Check = api.Mark{Op: some.Intn(top + 1), View: some.Intn(top + 1), Sum: some.Uint64()}
		case "Sums":
			for i := range m.Sums {
				m.Sums[i] = some.Uint64()
			}
		case "Entry":
			m.Entry = anyEntry(some)
		case "Entries":
			for range some.Intn(slots + 1) {
				m.Entries = append(m.Entries, anyEntry(some))
			}
		case "Items":
			for range slots {
				m.Items = append(m.Items, anyItem(some, some.Intn(4)))
			}
		case "Body":
			m.Body = made(some.Intn(room(kind)+1), some.Int63())
		default:
			*of(&m, name) = some.Intn(greatest(name) + 1)
		}
	}
	return m
}

// bases: three messages of each kind, the ends and any.
func bases() []api.Msg {
	var l []api.Msg
	for kind := 1; kind <= lastKind; kind++ {
		l = append(l, least(kind), full(kind), anyMsg(kind, 7))
	}
	return l
}

// rightNumbers: some that may be, by which bytes could be mixed up.
func rightNumbers(greatest int) []int {
	var l []int
	for _, n := range []int{0, 1, 2, 127, 128, 254, 255, 256, 257, 1<<32 - 1, 1 << 32, 1<<55 + 3, 0x0102030405060708 % (top + 1), top - 1, top} {
		if n <= greatest {
			l = append(l, n)
		}
	}
	return l
}

// wrongNumbers: some that may not be; by some, a byte or two words go round to what may be.
func wrongNumbers(greatest int) []int {
	l := []int{math.MinInt, math.MinInt + 1, -1 << 56, -1<<32 + 5, -257, -256, -2, -1, top + 1, top + 2, 1<<57 + 1, 1 << 62, math.MaxInt - 1, math.MaxInt}
	if greatest == 255 {
		l = append(l, 256, 257, 511, 512, 1<<16+1, 1<<32, 1<<32+255, top)
	}
	return l
}

// messages: some that may be: the ends, each number alone, lists and bodies of many kinds, and any.
func messages() []api.Msg {
	l := bases()
	for _, m := range bases() {
		for from := range 256 {
			m.From = from
			l = append(l, m)
		}
	}
	for _, m := range bases() {
		for name := range numbers() {
			if !has(m.Kind, name) {
				continue
			}
			for _, n := range rightNumbers(greatest(name)) {
				one := m
				*of(&one, name) = n
				l = append(l, one)
			}
		}
		if has(m.Kind, "Check") {
			for _, n := range rightNumbers(top) {
				o, v, s := m, m, m
				o.Check.Op, v.Check.View, s.Check.Sum = n, n, uint64(n)<<8+9
				l = append(l, o, v, s)
			}
		}
	}
	l = append(l, bodies()...)
	l = append(l, lists()...)
	for kind := 1; kind <= lastKind; kind++ {
		for seed := range 40 {
			l = append(l, anyMsg(kind, int64(seed)))
		}
	}
	return l
}

// bodies: messages of all kinds that have one, with bodies of all lengths.
func bodies() []api.Msg {
	var l []api.Msg
	for _, kind := range []int{1, 4, 15} {
		for n := range room(kind) + 1 {
			noughts, some := least(kind), anyMsg(kind, int64(n))
			noughts.Body, some.Body = strings.Repeat("\x00", n), made(n, int64(n))
			l = append(l, noughts, some)
		}
	}
	return l
}

// lists: messages with sums, entries and items of many kinds.
func lists() []api.Msg {
	var l []api.Msg
	some := rand.New(rand.NewSource(3))
	for i := range blocks {
		for _, n := range []uint64{1, 256, 1 << 63, math.MaxUint64} {
			m := api.Msg{Kind: 13}
			m.Sums[i] = n
			l = append(l, m)
		}
	}
	for n := range slots + 1 {
		m := api.Msg{Kind: 8}
		for range n {
			m.Entries = append(m.Entries, anyEntry(some))
		}
		l = append(l, m)
	}
	for at := range slots {
		for kind := range 4 {
			for other := range 4 {
				m := least(7)
				for i := range m.Items {
					m.Items[i] = anyItem(some, other)
				}
				m.Items[at] = anyItem(some, kind)
				l = append(l, m)
			}
		}
	}
	for _, e := range []api.Entry{leastEntry(), fullEntry(), {Op: 1, View: 5, Under: 5, Client: 1, Operation: 255}} {
		two, eleven, eight, seven, stub := least(2), least(11), least(8), least(7), least(7)
		two.Entry, eleven.Entry, eight.Entries, seven.Items[3] = e, e, []api.Entry{e, e}, held(e)
		s := stubOf(e)
		s.Sum = 0
		stub.Items[4] = api.Item{Kind: 2, Stub: s}
		l = append(l, two, eleven, eight, seven, stub)
	}
	return l
}

// wrongEntries: some that may not be, for one reason each.
func wrongEntries() []api.Entry {
	l := []api.Entry{{}}
	for _, e := range []api.Entry{leastEntry(), fullEntry(), anyEntry(rand.New(rand.NewSource(4)))} {
		op, client, session, operation, request, view, under, above, body := e, e, e, e, e, e, e, e, e
		op.Op, client.Client, operation.Operation = 0, 0, 0
		session.Session, request.Request = top+1, -1
		view.View = top + 1
		under.Under = -1
		above.View, above.Under = 4, 5
		body.Body = strings.Repeat("x", longest+1)
		l = append(l, op, client, operation, session, request, view, under, above, body)
		op.Op, client.Client, operation.Operation = top+1, -1, 256
		l = append(l, op, client, operation)
	}
	return l
}

// wrongStubs: some that are in no header sector, for one reason each.
func wrongStubs() []api.Stub {
	l := []api.Stub{{}, {Parent: 1, Sum: 2}}
	for _, good := range []api.Stub{{Op: 1}, {Op: top, View: top, Under: top, Parent: math.MaxUint64, Sum: math.MaxUint64}, {Op: 3, View: 7, Under: 2, Sum: 9}} {
		for _, n := range append(wrongNumbers(top), 0) {
			s := good
			s.Op = n
			l = append(l, s)
		}
		for _, n := range wrongNumbers(top) {
			view, under := good, good
			view.View = n
			if n > 0 {
				view.Under = 0
			}
			under.Under = n
			if n > 0 {
				under.View = math.MaxInt
			}
			l = append(l, view, under)
		}
		above := good
		above.View, above.Under = 4, 5
		l = append(l, above)
	}
	return l
}

// wrongItems: some that may not be, for one reason each.
func wrongItems() []api.Item {
	e, none := anyEntry(rand.New(rand.NewSource(5))), api.Entry{}
	var l []api.Item
	for _, kind := range []int{math.MinInt, -256, -255, -1, 4, 5, 127, 128, 255, 256, 257, 258, 259, 1<<32 + 1, math.MaxInt} {
		l = append(l, api.Item{Kind: kind}, api.Item{Kind: kind, Stub: stubOf(e), Entry: e}, api.Item{Kind: kind, Stub: stubOf(e)})
	}
	for _, kind := range []int{0, 3} {
		l = append(l, api.Item{Kind: kind, Stub: stubOf(e)}, api.Item{Kind: kind, Entry: e}, api.Item{Kind: kind, Stub: stubOf(e), Entry: e})
		l = append(l, stubsOf(api.Item{Kind: kind})...)
		l = append(l, entriesOf(api.Item{Kind: kind})...)
	}
	l = append(l, api.Item{Kind: 1}, api.Item{Kind: 1, Entry: e}, api.Item{Kind: 1, Stub: stubOf(e)}, api.Item{Kind: 1, Stub: stubOf(e), Entry: leastEntry()})
	for _, wrong := range wrongEntries() {
		l = append(l, api.Item{Kind: 1, Entry: wrong}, api.Item{Kind: 1, Stub: stubOf(wrong), Entry: wrong}, api.Item{Kind: 1, Stub: stubOf(e), Entry: wrong})
	}
	l = append(l, stubsOf(held(e))...)
	for _, s := range wrongStubs() {
		l = append(l, api.Item{Kind: 2, Stub: s})
	}
	l = append(l, api.Item{Kind: 2, Stub: stubOf(e), Entry: e}, api.Item{Kind: 2, Entry: e}, api.Item{Kind: 2, Stub: stubOf(none), Entry: none})
	return append(l, entriesOf(api.Item{Kind: 2, Stub: stubOf(e)})...)
}

// stubsOf: an item with another stub, by one number each.
func stubsOf(item api.Item) []api.Item {
	op, view, under, parent, sum := item, item, item, item, item
	op.Stub.Op++
	view.Stub.View++
	under.Stub.Under++
	parent.Stub.Parent++
	sum.Stub.Sum++
	return []api.Item{op, view, under, parent, sum}
}

// entriesOf: an item without an entry, with one of one field each.
func entriesOf(item api.Item) []api.Item {
	var l []api.Item
	for _, e := range strayEntries() {
		item.Entry = e
		l = append(l, item)
	}
	return l
}

// strayEntries: one for each field that is not zero, and one that may be.
func strayEntries() []api.Entry {
	return []api.Entry{leastEntry(), {View: 1}, {Op: 1}, {Under: 1}, {Parent: 1}, {Client: 1}, {Session: 1}, {Request: 1}, {Operation: 1}, {Body: "\x00"}}
}

// strays: a message with a field that isn't its kind's, for each that isn't.
func strays(m api.Msg) []api.Msg {
	var l []api.Msg
	for name := range numbers() {
		for _, n := range []int{1, 2, 256, top, -1, math.MinInt} {
			if !has(m.Kind, name) {
				one := m
				*of(&one, name) = n
				l = append(l, one)
			}
		}
	}
	if !has(m.Kind, "Check") {
		op, view, sum := m, m, m
		op.Check.Op, view.Check.View, sum.Check.Sum = 1, 1, 1
		l = append(l, op, view, sum)
	}
	for i := range blocks {
		if !has(m.Kind, "Sums") {
			one := m
			one.Sums[i] = 1 << 63
			l = append(l, one)
		}
	}
	for _, e := range strayEntries() {
		if !has(m.Kind, "Entry") {
			one := m
			one.Entry = e
			l = append(l, one)
		}
	}
	for n := 1; n <= slots+1; n++ {
		entries, zeros, items, full := m, m, m, m
		entries.Entries, zeros.Entries, items.Items = make([]api.Entry, n), make([]api.Entry, n), make([]api.Item, n)
		for i := range entries.Entries {
			entries.Entries[i] = leastEntry()
			full.Items = append(full.Items, held(leastEntry()))
		}
		if !has(m.Kind, "Entries") {
			l = append(l, entries, zeros)
		}
		if !has(m.Kind, "Items") {
			l = append(l, items, full)
		}
	}
	if !has(m.Kind, "Body") {
		nought, some := m, m
		nought.Body, some.Body = "\x00", made(longest, 1)
		l = append(l, nought, some)
	}
	return l
}

// spoilt: a message whose number, Kind or From may not be, for each.
func spoilt(m api.Msg) []api.Msg {
	var l []api.Msg
	for _, n := range wrongNumbers(255) {
		one := m
		one.From = n
		l = append(l, one)
	}
	for _, n := range append(wrongNumbers(255), 0, lastKind+1, lastKind+2, 32, 64, 127, 128, 254, 255, 256+m.Kind, m.Kind-256, m.Kind+16, m.Kind+1<<32) {
		one := m
		one.Kind = n
		l = append(l, one)
	}
	for name := range numbers() {
		for _, n := range wrongNumbers(greatest(name)) {
			if has(m.Kind, name) {
				one := m
				*of(&one, name) = n
				l = append(l, one)
			}
		}
	}
	for _, n := range wrongNumbers(top) {
		if has(m.Kind, "Check") {
			op, view := m, m
			op.Check.Op, view.Check.View = n, n
			l = append(l, op, view)
		}
	}
	for n := 1; n <= 140 && has(m.Kind, "Body"); n++ {
		one := m
		one.Body = strings.Repeat("\x00", room(m.Kind)+n)
		l = append(l, one)
	}
	return l
}

// wrongLists: a message whose lists, or whose entry, may not be.
func wrongLists(m api.Msg) []api.Msg {
	var l []api.Msg
	if has(m.Kind, "Entry") {
		for _, e := range wrongEntries() {
			m.Entry = e
			l = append(l, m)
		}
	}
	if has(m.Kind, "Entries") {
		for at := range slots {
			for i, e := range wrongEntries() {
				one := copied(m)
				one.Entries = one.Entries[:min(len(one.Entries), i%(slots+1))]
				for len(one.Entries) <= at {
					one.Entries = append(one.Entries, leastEntry())
				}
				one.Entries[at] = e
				l = append(l, one)
			}
		}
		for _, n := range []int{9, 10, 16, 17, 30, 255, 256, 257, 264} {
			one, zeros := m, m
			one.Entries, zeros.Entries = nil, make([]api.Entry, n)
			for range n {
				one.Entries = append(one.Entries, leastEntry())
			}
			l = append(l, one, zeros)
		}
	}
	if has(m.Kind, "Items") {
		for at := range slots {
			for _, item := range wrongItems() {
				one := copied(m)
				one.Items[at] = item
				l = append(l, one)
			}
		}
		for _, n := range []int{0, 1, 2, 7, 9, 10, 16, 256, 264} {
			one := m
			one.Items = make([]api.Item, n)
			copy(one.Items, m.Items)
			l = append(l, one)
		}
	}
	return l
}

// wrongs: messages that may not be, for one reason each.
func wrongs() []api.Msg {
	l := []api.Msg{{}}
	for _, m := range bases() {
		l = append(l, strays(m)...)
		l = append(l, spoilt(m)...)
		l = append(l, wrongLists(m)...)
	}
	return l
}

// isNone tells that bytes are a message's that should be none's.
func isNone(t *testing.T, what, s string) {
	t.Helper()
	if m, failed := msg.Decode(s); !reflect.DeepEqual(m, api.Msg{}) || failed != api.ErrForm {
		t.Errorf("%s (%x): Decode: %+v %d", what, s, m, failed)
	}
}

// isTold tells that bytes are another message's.
func isTold(t *testing.T, s string, want api.Msg) {
	t.Helper()
	if m, failed := msg.Decode(s); !same(m, want) || failed != api.OK {
		t.Errorf("Decode(%x): %+v %d, not %+v", s, m, failed, want)
	}
}

// isLaid tells that a message has other bytes.
func isLaid(t *testing.T, m api.Msg, want string) {
	t.Helper()
	if s, failed := msg.Encode(m); s != want || failed != api.OK {
		t.Errorf("Encode(%+v): %x %d, not %x", m, s, failed, want)
	}
	if !msg.Right(m) {
		t.Errorf("Right(%+v): no", m)
	}
}

// isWrong tells that a message may be that should not.
func isWrong(t *testing.T, m api.Msg) {
	t.Helper()
	if msg.Right(m) {
		t.Errorf("Right(%+v): yes", m)
	}
	if s, failed := msg.Encode(m); s != "" || failed != api.ErrForm {
		t.Errorf("Encode(%+v): %d bytes %d", m, len(s), failed)
	}
}

// TestFields is about these tests: all fields of a message are asked for, and the limits are those of api.
func TestFields(t *testing.T) {
	names := append(others(), "Kind", "From")
	for name := range numbers() {
		names = append(names, name)
	}
	kind := reflect.TypeFor[api.Msg]()
	if kind.NumField() != len(names) {
		t.Errorf("%d fields of %d", len(names), kind.NumField())
	}
	for _, name := range names {
		if _, ok := kind.FieldByName(name); !ok {
			t.Errorf("there is no field %s", name)
		}
	}
	if api.HeadBytes != headBytes || api.MaxNumber != top || api.MaxBody != longest || api.BlockBytes != blockBytes || api.Slots != slots || api.Blocks != blocks || api.MsgGone != lastKind || api.MaxMessage != most {
		t.Error("these tests are for other limits")
	}
	for _, m := range messages() {
		if !may(m) {
			t.Errorf("%+v may not be", m)
		}
	}
	for _, m := range wrongs() {
		if may(m) {
			t.Errorf("%+v may be", m)
		}
	}
}

// TestExamples is the chapter's.
func TestExamples(t *testing.T) {
	s, failed := msg.Encode(api.Msg{Kind: api.MsgKept, View: 2, Op: 5})
	if len(s) != 128 || failed != api.OK {
		t.Errorf("%d bytes %d", len(s), failed)
	}
	isWrong(t, api.Msg{Kind: api.MsgKept, View: 2, Op: 5, Commit: 1})
}

// known: messages, and their bytes reckoned apart from this program: the two sums, and what stands behind them but for noughts at the end.
func known() []struct {
	m    api.Msg
	size int
	sums string
	rest []string
} {
	second := api.Entry{View: 4, Op: 5, Under: 3, Parent: 6, Client: 7, Session: 8, Request: 9, Operation: 2, Body: "ab"}
	holds := api.Item{Kind: 1, Stub: api.Stub{Op: 5, View: 4, Under: 3, Parent: 6, Sum: 0xF603C3D8987CCC95}, Entry: second}
	faulty := api.Item{Kind: 2, Stub: api.Stub{Op: 6, View: 4, Under: 4, Parent: 0x0102030405060708, Sum: math.MaxUint64}}
	firstText := "8000" + "eb95ba9300000000" + "ff000100" + zeros(20) + "0100000000000000" + zeros(8) + "07" + zeros(79)
	secondText := "8200" + "22e596653629a2e2" + "ff000200" + "02000000" + "0600000000000000" + "0400000000000000" + "0500000000000000" + zeros(8) +
		"0700000000000000" + "0800000000000000" + "0900000000000000" + "0300000000000000" + zeros(48) + "6162"
	return []struct {
		m    api.Msg
		size int
		sums string
		rest []string
	}{
		{api.Msg{Kind: 3, View: 2, Op: 5}, 128, "149d379700000000", []string{"03", zeros(15), "02", zeros(7), "05"}},
		{api.Msg{Kind: 1, From: 9, Operation: 3, Client: 11, Session: 5, Request: 258, Body: "ab"}, 130, "8aa44fbd3629a2e2",
			[]string{"01090300", "02000000", zeros(32), "0b00000000000000", "0500000000000000", "0201000000000000", zeros(56), "6162"}},
		{api.Msg{Kind: 2, From: 1, View: 4, Commit: 3, Entry: second}, 260, "9d7f5803c0809a85",
			[]string{"02010000", "84000000", zeros(8), "0400000000000000", zeros(8), "0300000000000000", zeros(80), secondText}},
		{api.Msg{Kind: 4, From: 2, View: 4, Op: 5, Client: 7, Session: 8, Request: 9, Body: "\x00\x02"}, 130, "93304bdc25075a10",
			[]string{"04020000", "02000000", zeros(8), "0400000000000000", "0500000000000000", zeros(8), "0700000000000000", "0800000000000000", "0900000000000000", zeros(56), "0002"}},
		{api.Msg{Kind: 7, From: 3, View: 6, LogView: 4, Commit: 4, Check: api.Mark{Op: 4, View: 3, Sum: 6}, Items: []api.Item{holds, faulty, {Kind: 3}, {}, {}, {}, {}, {}}}, 332, "dab734d007c0390b",
			[]string{"07030000", "cc000000", zeros(8), "0600000000000000", zeros(8), "0400000000000000", zeros(24), "0400000000000000", zeros(48),
				"0400000000000000", "0300000000000000", "0600000000000000", "01", secondText,
				"02", "0600000000000000", "0400000000000000", "0400000000000000", "0807060504030201", "ffffffffffffffff", "03"}},
		{api.Msg{Kind: 8, From: 255, View: 1, Entries: []api.Entry{{Op: 1, Client: 7, Operation: 1}, second}}, 415, "8b2a80f6108b464b",
			[]string{"08ff0000", "1f010000", zeros(8), "0100000000000000", zeros(96), zeros(24), "02", firstText, secondText}},
		{api.Msg{Kind: 13, From: 2, Size: 700, Check: api.Mark{Op: 4, View: 3, Sum: math.MaxUint64}, Sums: [blocks]uint64{1, 2, 3, 0, 0, 1 << 63}}, 200, "8dd27cae47efc67c",
			[]string{"0d020000", "48000000", zeros(64), "bc02000000000000", zeros(40), "0400000000000000", "0300000000000000", "ffffffffffffffff",
				"0100000000000000", "0200000000000000", "0300000000000000", zeros(16), "0000000000000080"}},
		{api.Msg{Kind: 15, From: 2, Index: 5, Check: api.Mark{Op: 4, View: 3, Sum: 6}, Body: strings.Repeat("c", blockBytes)}, 472, "95ebea5d1d832ddb",
			[]string{"0f020000", "58010000", zeros(64), "0500000000000000", zeros(40), "0400000000000000", "0300000000000000", "0600000000000000", strings.Repeat("63", blockBytes)}},
		{api.Msg{Kind: 12}, 128, "bc552d8a00000000", []string{"0c"}},
		{api.Msg{Kind: 16, From: 1, View: 1, Op: 2, Client: 3, Session: 4, Request: top}, 128, "9ece183200000000",
			[]string{"10010000", zeros(12), "0100000000000000", "0200000000000000", zeros(8), "0300000000000000", "0400000000000000", "ffffffffffffff"}},
	}
}

// zeros: n bytes of noughts, as two signs each.
func zeros(n int) string {
	return strings.Repeat("00", n)
}

// TestKnown is P17.1 and P17.2 by bytes that were reckoned apart from this program.
func TestKnown(t *testing.T) {
	for _, x := range known() {
		b, failed := hex.DecodeString(x.sums + strings.Join(x.rest, ""))
		if failed != nil || len(b) > x.size {
			t.Fatalf("kind %d: %v %d", x.m.Kind, failed, len(b))
		}
		want := string(b) + strings.Repeat("\x00", x.size-len(b))
		isLaid(t, x.m, want)
		isTold(t, want, x.m)
	}
}

// TestRight is P17.1 and P17.2: messages that may be are, have just these bytes, and are told again.
func TestRight(t *testing.T) {
	for _, m := range messages() {
		want := built(m)
		if len(want) > most {
			t.Fatalf("kind %d: %d bytes", m.Kind, len(want))
		}
		isLaid(t, m, want)
		isTold(t, want, m)
	}
	// The longest one: 8 entries of 328 bytes.
	if s, _ := msg.Encode(full(api.MsgLog)); len(s) != 128+24+8*(1+2+328) {
		t.Errorf("%d bytes", len(s))
	}
}

// TestWrong is P17.1: messages that may not be, for one reason each.
func TestWrong(t *testing.T) {
	for _, m := range wrongs() {
		isWrong(t, m)
	}
}

// shown: a message without what its bytes don't show.
func shown(m api.Msg) api.Msg {
	bare := api.Msg{Kind: m.Kind, From: m.From}
	for name := range numbers() {
		*of(&bare, name) = *of(&m, name)
	}
	if m.Kind == 13 {
		bare.Index = 0
	} else {
		bare.Size = 0
	}
	for _, name := range others() {
		if has(m.Kind, name) {
			reflect.ValueOf(&bare).Elem().FieldByName(name).Set(reflect.ValueOf(m).FieldByName(name))
		}
	}
	bare = copied(bare)
	for i, item := range bare.Items {
		switch item.Kind {
		case 1:
			bare.Items[i] = held(item.Entry)
		case 2:
			bare.Items[i].Entry = api.Entry{}
		default:
			bare.Items[i] = api.Item{Kind: item.Kind}
		}
	}
	return bare
}

// inBytes: does a message have its small numbers in a byte each?
func inBytes(m api.Msg) bool {
	list := []int{m.Kind, m.From, m.Operation}
	for _, item := range m.Items {
		list = append(list, item.Kind)
	}
	return between(0, 255, list...)
}

// TestDecodeWrong is P17.2: a message that may not be has no bytes, though all sums be right.
func TestDecodeWrong(t *testing.T) {
	nones := 0
	for _, m := range wrongs() {
		if !inBytes(m) {
			continue
		}
		// What its bytes don't show counts for nothing.
		if bare := shown(m); may(bare) {
			isTold(t, built(m), bare)
		} else {
			isNone(t, "a message that may not be", built(m))
			nones++
		}
	}
	if nones < 1000 {
		t.Errorf("only %d", nones)
	}
}

// TestKinds is P17.2: of all the kinds that a header may have, those of messages alone have bytes, and each has a body of its own.
func TestKinds(t *testing.T) {
	for _, m := range bases() {
		for kind := range 256 {
			b := spelt(m)
			b[8] = byte(kind)
			other, ok := twin(reckoned(b))
			if kind == m.Kind && !ok {
				t.Fatalf("kind %d: none", kind)
			}
			if ok {
				isTold(t, reckoned(b), other)
			} else {
				isNone(t, "another kind", reckoned(b))
			}
		}
	}
}

// twinReader takes numbers and texts from a body.
type twinReader struct {
	b    []byte
	lack bool
}

// bytes: the next n.
func (r *twinReader) bytes(n int) []byte {
	if n > len(r.b) {
		r.lack = true
		return make([]byte, n)
	}
	b := r.b[:n]
	r.b = r.b[n:]
	return b
}

// word: the next number of eight bytes.
func (r *twinReader) word() uint64 {
	return binary.LittleEndian.Uint64(r.bytes(8))
}

// entry: the next one.
func (r *twinReader) entry() api.Entry {
	s := string(r.bytes(int(binary.LittleEndian.Uint16(r.bytes(2)))))
	if len(s) < headBytes {
		r.lack = true
		return api.Entry{}
	}
	b := []byte(s)
	word := func(at int) int { return int(binary.LittleEndian.Uint64(b[at:])) }
	e := api.Entry{
		Operation: int(b[10]), Parent: uint64(word(16)), View: word(24), Op: word(32), Client: word(48),
		Session: word(56), Request: word(64), Under: word(72), Body: s[headBytes:],
	}
	r.lack = r.lack || entryBytes(e) != s
	return e
}

// twin is the chapter's words on the message of bytes.
func twin(s string) (api.Msg, bool) {
	if len(s) < headBytes {
		return api.Msg{}, false
	}
	b := []byte(s)
	m, r := api.Msg{Kind: int(b[8]), From: int(b[9])}, &twinReader{b: b[headBytes:]}
	for name, at := range numbers() {
		switch {
		case name == "Operation":
			m.Operation = int(b[at])
		case name == "Size" && m.Kind != 13 || name == "Index" && m.Kind == 13:
		default:
			*of(&m, name) = int(binary.LittleEndian.Uint64(b[at:]))
		}
	}
	if has(m.Kind, "Check") {
		m.Check.Op, m.Check.View, m.Check.Sum = int(r.word()), int(r.word()), r.word()
	}
	for i := range blocks {
		if has(m.Kind, "Sums") {
			m.Sums[i] = r.word()
		}
	}
	if has(m.Kind, "Entry") {
		m.Entry = r.entry()
	}
	if has(m.Kind, "Entries") {
		for range r.bytes(1)[0] {
			m.Entries = append(m.Entries, r.entry())
		}
	}
	for range slots {
		if !has(m.Kind, "Items") {
			continue
		}
		item := api.Item{Kind: int(r.bytes(1)[0])}
		if item.Kind == 1 {
			item = held(r.entry())
		}
		if item.Kind == 2 {
			item.Stub = api.Stub{Op: int(r.word()), View: int(r.word()), Under: int(r.word()), Parent: r.word(), Sum: r.word()}
		}
		m.Items = append(m.Items, item)
	}
	if has(m.Kind, "Body") {
		m.Body = string(r.bytes(len(r.b)))
	}
	return m, !r.lack && may(m) && built(m) == s
}

// isTwin tells that the chapter's words tell another message of bytes, or none.
func isTwin(t *testing.T, what, s string) bool {
	t.Helper()
	m, ok := twin(s)
	if ok {
		isTold(t, s, m)
	} else {
		isNone(t, what, s)
	}
	return ok
}

// TestChanged is P17.2: bytes of messages that were changed, cut or made longer, and whose sums are right again, are those of the message that the words tell, or of none.
func TestChanged(t *testing.T) {
	some := rand.New(rand.NewSource(9))
	told, all := 0, 0
	for _, m := range bases() {
		good := spelt(m)
		for at := 8; at < len(good); at++ {
			values := []byte{0, 1, 2, 3, 4, 8, 9, 128, 200, 255, byte(some.Intn(256))}
			if len(good) > 700 { // one by one, in long bytes
				values = values[at%len(values):][:1]
			}
			for _, c := range values {
				b := append([]byte(nil), good...)
				b[at] = c
				if all++; isTwin(t, "a byte is another", reckoned(b)) {
					told++
				}
			}
			if at >= headBytes && (len(good) <= 700 || at%7 == 0) {
				cut := append([]byte(nil), good[:at]...)
				gap := append(append([]byte(nil), cut...), good[at+1:]...)
				more := append(append(append([]byte(nil), cut...), byte(some.Intn(4))), good[at:]...)
				isTwin(t, "the last bytes lack", reckoned(cut))
				isTwin(t, "a byte lacks", reckoned(gap))
				isTwin(t, "a byte is too many", reckoned(more))
			}
		}
		for _, more := range []string{"\x00", "\x01", "ab", "\x00\x00", made(200, 2), string(good)} {
			isTwin(t, "some more", reckoned(append(append([]byte(nil), good...), more...)))
		}
	}
	if told < 3000 || all-told < 3000 {
		t.Errorf("%d of %d are told", told, all)
	}
}

// TestMixed is P17.2: each header with each other message's body.
func TestMixed(t *testing.T) {
	for _, m := range bases() {
		for _, other := range bases() {
			b := append(spelt(m)[:headBytes:headBytes], spelt(other)[headBytes:]...)
			isTwin(t, "another body", reckoned(b))
		}
	}
}

// TestEntryBytes is P17.2: texts where an entry's bytes are to be, that are none's.
func TestEntryBytes(t *testing.T) {
	e := anyEntry(rand.New(rand.NewSource(11)))
	good := entryBytes(e)
	spoilt := []byte(good)
	spoilt[20] ^= 1
	heads := []string{"", "a", good[:127], good[:len(good)-1], good + "\x00", good + good, string(spoilt), made(128, 5), built(least(1)), strings.Repeat("\x00", 128)}
	for _, wrong := range wrongEntries() {
		heads = append(heads, entryBytes(wrong))
	}
	for _, s := range heads {
		part := string(binary.LittleEndian.AppendUint16(nil, uint16(len(s)))) + s
		right := string(text(nil, e))
		for kind, body := range map[int]string{2: part, 11: part, 8: zeroBytes(24) + "\x02" + right + part, 7: zeroBytes(24+7) + "\x01" + part} {
			isNone(t, "an entry that is none", reckoned(append(spelt(api.Msg{Kind: kind})[:headBytes], body...)))
		}
	}
	for kind, body := range map[int]string{2: "", 11: "", 8: zeroBytes(24) + "\x01", 7: zeroBytes(24+7) + "\x01"} {
		b := append(spelt(api.Msg{Kind: kind})[:headBytes], body...)
		if !isTwin(t, "an entry that is one", reckoned(append(b, text(nil, e)...))) {
			t.Errorf("kind %d: none", kind)
		}
	}
}

// zeroBytes: n noughts.
func zeroBytes(n int) string {
	return strings.Repeat("\x00", n)
}

// TestHeader is P17.2: what stands in no message's header, though all sums be right.
func TestHeader(t *testing.T) {
	for _, m := range bases() {
		for at := 11; at < headBytes; at++ {
			if at != 11 && !(at >= 16 && at < 24) && at < 88 {
				continue
			}
			for _, c := range []byte{1, 0x80, 0xff} {
				b := spelt(m)
				b[at] = c
				isNone(t, "a byte that is not nought", reckoned(b))
			}
		}
		h, body, failed := head.Unpack(built(m))
		if failed != api.OK {
			t.Fatalf("kind %d: %d", m.Kind, failed)
		}
		h.Parent = 1 << 63
		s, _ := head.Pack(h, body)
		isNone(t, "a Parent", s)
	}
}

// TestBytes is P17.2: too few bytes, too many, and any.
func TestBytes(t *testing.T) {
	for _, m := range bases() {
		s := built(m)
		for n := range s {
			isNone(t, "the first bytes", s[:n])
			isNone(t, "the last bytes", s[n+1:])
		}
		for _, more := range []string{"\x00", "\x01", "ab", s, zeroBytes(1 << 16)} {
			isNone(t, "some more", s+more)
			isNone(t, "some ahead", more+s)
		}
		isNone(t, "very many", strings.Repeat(s, 10000))
	}
	for n := range 600 {
		isNone(t, "noughts", zeroBytes(n))
		isNone(t, "ones", strings.Repeat("\xff", n))
		isNone(t, "any", made(n, int64(n)))
	}
	s, _ := entry.Pack(fullEntry())
	isNone(t, "an entry", s)
}

// TestTurned is P17.3: bytes one of which was turned.
func TestTurned(t *testing.T) {
	for _, m := range bases() {
		good := []byte(built(m))
		for at := range good {
			for _, mask := range []byte{1 << (at % 8), 255, byte(1 + at%255)} {
				good[at] ^= mask
				if got, failed := msg.Decode(string(good)); failed != api.ErrForm || !reflect.DeepEqual(got, api.Msg{}) {
					t.Fatalf("kind %d, byte %d, mask %d: %+v %d", m.Kind, at, mask, got, failed)
				}
				good[at] ^= mask
			}
		}
	}
	for _, m := range []api.Msg{least(3), anyMsg(16, 1), anyMsg(2, 2)} {
		good := []byte(built(m))
		for at := range good {
			for mask := range 255 {
				good[at] ^= byte(mask + 1)
				isNone(t, "a turned byte", string(good))
				good[at] ^= byte(mask + 1)
			}
		}
	}
}

// TestUnlike is P17.3: unlike messages have unlike bytes.
func TestUnlike(t *testing.T) {
	by := map[string]api.Msg{}
	for _, m := range messages() {
		s, failed := msg.Encode(m)
		if failed != api.OK {
			t.Fatalf("Encode(%+v): %d", m, failed)
		}
		if other, is := by[s]; is && !same(m, other) {
			t.Errorf("%+v and %+v have the bytes %x", m, other, s)
		}
		by[s] = m
	}
	if len(by) < 4000 {
		t.Errorf("only %d", len(by))
	}
}

// TestHolds is P17.1: what is held has just its entry's stub, which the slot tells.
func TestHolds(t *testing.T) {
	some := rand.New(rand.NewSource(12))
	for range 200 {
		m := least(7)
		e := anyEntry(some)
		for i := range m.Items {
			m.Items[i] = api.Item{Kind: api.Holds, Stub: slot.StubOf(e), Entry: e}
		}
		isLaid(t, m, built(m))
		m.Items[some.Intn(slots)].Stub.Sum ^= 1 << some.Intn(64)
		isWrong(t, m)
	}
}

// TestEmpty is the rule that a nil list and an empty one are one.
func TestEmpty(t *testing.T) {
	for _, m := range bases() {
		one := m
		if len(m.Entries) == 0 {
			one.Entries = make([]api.Entry, 0, 3)
		}
		if len(m.Items) == 0 {
			one.Items = make([]api.Item, 0, 3)
		}
		isLaid(t, one, built(m))
	}
	m := least(7)
	m.Items = []api.Item{}
	isWrong(t, m)
}

// aliased: a message like that, whose texts lie in the bytes, and whose lists have spare room.
func aliased(m api.Msg) (api.Msg, [][]byte) {
	var places [][]byte
	alias := func(s string) string {
		if s == "" {
			return s
		}
		b := []byte(s)
		places = append(places, b)
		return unsafe.String(&b[0], len(b))
	}
	m.Body, m.Entry.Body = alias(m.Body), alias(m.Entry.Body)
	entries, items := make([]api.Entry, len(m.Entries), len(m.Entries)+3), make([]api.Item, len(m.Items), len(m.Items)+3)
	copy(entries, m.Entries)
	copy(items, m.Items)
	for i := range entries {
		entries[i].Body = alias(entries[i].Body)
	}
	for i := range items {
		items[i].Entry.Body = alias(items[i].Entry.Body)
	}
	entries[:cap(entries)][len(entries)].Op = 77
	items[:cap(items)][len(items)].Kind = 77
	m.Entries, m.Items = entries, items
	return m, places
}

// TestEncodeApart is the rules: what is handed to Encode, the spare room behind it too, is neither changed nor kept.
func TestEncodeApart(t *testing.T) {
	for _, m := range bases() {
		one, places := aliased(m)
		s, failed := msg.Encode(one)
		again, _ := msg.Encode(one)
		if failed != api.OK || !same(one, m) || one.Entries[:cap(one.Entries)][len(m.Entries)].Op != 77 || one.Items[:cap(one.Items)][len(m.Items)].Kind != 77 {
			t.Fatalf("what was handed in was changed: %+v %d", one, failed)
		}
		for _, b := range places {
			clear(b)
		}
		if s != built(m) || again != s || unsafe.StringData(s) == unsafe.StringData(again) {
			t.Errorf("kind %d: an answer of Encode shares memory", m.Kind)
		}
	}
}

// TestDecodeApart is the rules: a message shares no memory with its bytes, which are not changed, nor with another answer, nor its texts with one another.
func TestDecodeApart(t *testing.T) {
	for _, m := range bases() {
		b := []byte(built(m))
		s := unsafe.String(&b[0], len(b))
		one, failed := msg.Decode(s)
		two, _ := msg.Decode(s)
		if failed != api.OK || s != built(m) {
			t.Fatalf("what was handed in was changed: %d", failed)
		}
		clear(b)
		if !same(one, m) || !same(two, m) {
			t.Errorf("kind %d: an answer of Decode shares its bytes", m.Kind)
		}
		places, texts := map[*byte]bool{}, 0
		for _, told := range []api.Msg{one, two} {
			for _, text := range textsOf(told) {
				places[unsafe.StringData(text)] = true
				texts++
			}
		}
		if len(places) != texts {
			t.Errorf("kind %d: %d texts, not %d", m.Kind, len(places), texts)
		}
		for i := range one.Entries {
			one.Entries[i] = api.Entry{}
		}
		for i := range one.Items {
			one.Items[i] = api.Item{}
		}
		if !same(two, m) {
			t.Errorf("kind %d: two answers of Decode share a list", m.Kind)
		}
	}
}

// textsOf: a message's texts that aren't empty.
func textsOf(m api.Msg) []string {
	all := []string{m.Body, m.Entry.Body}
	for _, e := range m.Entries {
		all = append(all, e.Body)
	}
	for _, item := range m.Items {
		all = append(all, item.Entry.Body)
	}
	var l []string
	for _, s := range all {
		if s != "" {
			l = append(l, s)
		}
	}
	return l
}

// TestAgain is the rule that an answer hangs on what is handed in alone.
func TestAgain(t *testing.T) {
	m := anyMsg(7, 3)
	want := built(m)
	for _, other := range bases() {
		msg.Encode(other)
		msg.Encode(api.Msg{Kind: -1})
		msg.Decode(built(other))
		msg.Decode("x")
		isLaid(t, m, want)
		isTold(t, want, m)
	}
}
