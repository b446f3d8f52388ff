package machine_test

import (
	"encoding/binary"
	"math"
	"math/rand"
	"slices"
	"strings"
	"testing"
	"unsafe"

	"comptor/api"
	"comptor/entry"
	"comptor/ledger"
	"comptor/machine"
	"comptor/session"
)

const (
	top     = 1<<56 - 1 // the greatest number
	most    = 200       // bytes of a reply, of an entry's body
	refused = "\x01"    // what the ledger answers to what can't be done
)

// The kinds of operations.
const (
	register      = 1
	makeAccounts  = 2
	makeTransfers = 3
	findAccounts  = 4
	findTransfers = 5
)

// bad: numbers that none may be.
func bad() []int {
	return []int{math.MinInt, -1 << 56, -256, -1, 1 << 56, 1<<56 + 1, 1 << 62, math.MaxInt}
}

// state is what a machine is.
type state struct {
	mark      api.Mark
	sessions  []api.Session
	accounts  []api.Account
	transfers []api.Transfer
}

// little: numbers by the library, the lowest byte first.
func little(l ...uint64) string {
	var b []byte
	for _, n := range l {
		b = binary.LittleEndian.AppendUint64(b, n)
	}
	return string(b)
}

// text: how many bytes s has, in two bytes, and s.
func text(s string) string {
	return string(binary.LittleEndian.AppendUint16(nil, uint16(len(s)))) + s
}

// asked: the bytes of accounts that are asked for.
func asked(l ...api.Account) string {
	s := ""
	for _, a := range l {
		s += little(a.ID) + string([]byte{byte(a.Flags)})
	}
	return s
}

// moves: the bytes of transfers.
func moves(l ...api.Transfer) string {
	s := ""
	for _, x := range l {
		s += little(x.ID, x.Debit, x.Credit, x.Amount)
	}
	return s
}

// table is the bytes of sessions (chapter 8).
func table(l []api.Session) string {
	s := string([]byte{byte(len(l))})
	for _, x := range l {
		s += little(uint64(x.Client), uint64(x.Session), uint64(x.Request), uint64(x.Op)) + text(x.Reply)
	}
	return s
}

// books is the bytes of a ledger (chapter 7).
func books(accounts []api.Account, transfers []api.Transfer) string {
	s := string([]byte{byte(len(accounts))})
	for _, a := range accounts {
		s += asked(a) + little(a.Debits, a.Credits)
	}
	return s + string([]byte{byte(len(transfers))}) + moves(transfers...)
}

// packed is P10.3's words on a machine's bytes.
func packed(s state) string {
	return little(uint64(s.mark.Op), uint64(s.mark.View), s.mark.Sum) + text(table(s.sessions)) + text(books(s.accounts, s.transfers))
}

// with: a machine that is so.
func with(t *testing.T, s state) *machine.Machine {
	t.Helper()
	m, e := machine.Unpack(packed(s))
	if e != api.OK || m == nil {
		t.Fatalf("Unpack: %v %d", m, e)
	}
	return m
}

// is tells that a machine is otherwise.
func is(t *testing.T, m *machine.Machine, want state) {
	t.Helper()
	if got := m.Mark(); got != want.mark {
		t.Errorf("Mark: %+v, not %+v", got, want.mark)
	}
	if got := m.Sessions(); !slices.Equal(got, want.sessions) {
		t.Errorf("Sessions: %+v, not %+v", got, want.sessions)
	}
	if got := m.Accounts(); !slices.Equal(got, want.accounts) {
		t.Errorf("Accounts: %+v, not %+v", got, want.accounts)
	}
	if got := m.Transfers(); !slices.Equal(got, want.transfers) {
		t.Errorf("Transfers: %+v, not %+v", got, want.transfers)
	}
	if got := m.Pack(); got != packed(want) {
		t.Errorf("Pack: %x, not %x", got, packed(want))
	}
}

// does tells that an entry, put behind the machine's mark, comes to something else than is told by want, or has another mark.
func does(t *testing.T, m *machine.Machine, e api.Entry, want api.Answer) {
	t.Helper()
	e = entry.Next(m.Mark(), e)
	if got, failed := m.Apply(e); got != want || failed != api.OK {
		t.Errorf("Apply(%+v): %+v %d, not %+v", e, got, failed, want)
	}
	if got := m.Mark(); got != entry.MarkOf(e) {
		t.Errorf("Apply(%+v): the mark %+v", e, got)
	}
}

// refuses tells that an entry is done, or is refused otherwise, or changes something.
func refuses(t *testing.T, m *machine.Machine, e api.Entry, want api.Errno) {
	t.Helper()
	before := m.Pack()
	if got, failed := m.Apply(e); got != (api.Answer{}) || failed != want {
		t.Errorf("Apply(%+v): %+v %d, not %d", e, got, failed, want)
	}
	if m.Pack() != before {
		t.Errorf("Apply(%+v) changed something", e)
	}
}

// caches tells that Cached answers something else; nothing, if want is zero.
func caches(t *testing.T, m *machine.Machine, client, number, request int, want api.Answer) {
	t.Helper()
	if got, ok := m.Cached(client, number, request); got != want || ok != (want != api.Answer{}) {
		t.Errorf("Cached(%d, %d, %d): %+v %v, not %+v", client, number, request, got, ok, want)
	}
}

// judges tells that Verdict answers something else.
func judges(t *testing.T, m *machine.Machine, client, number, request, want int) {
	t.Helper()
	if got := m.Verdict(client, number, request); got != want {
		t.Errorf("Verdict(%d, %d, %d): %d, not %d", client, number, request, got, want)
	}
}

// replies: the answer that replies.
func replies(client, number, request, op int, body string) api.Answer {
	return api.Answer{Kind: 1, Client: client, Session: number, Request: request, Op: op, Body: body}
}

// some: a machine with three sessions, two accounts and a transfer; all numbers are unlike.
func some() state {
	return state{
		mark: api.Mark{Op: 20, View: 2, Sum: 0x1122334455667788},
		sessions: []api.Session{
			{Client: 4, Session: 9, Request: 3, Op: 12, Reply: "abc"},
			{Client: 5, Session: 8, Request: 0, Op: 8},
			{Client: 6, Session: 7, Request: 900, Op: 13, Reply: strings.Repeat("z", most)},
		},
		accounts:  []api.Account{{ID: 1, Debits: 5}, {ID: 258, Flags: 1, Credits: 5}},
		transfers: []api.Transfer{{ID: 7, Debit: 1, Credit: 258, Amount: 5}},
	}
}

// behind: a state with the mark of an entry that was put behind its own.
func behind(s state, e api.Entry) state {
	s.mark = entry.MarkOf(entry.Next(s.mark, e))
	return s
}

// TestExamples is the chapter's.
func TestExamples(t *testing.T) {
	m := machine.New()
	e := api.Entry{Client: 7, Operation: register}
	does(t, m, e, replies(7, 1, 0, 1, ""))
	does(t, m, e, replies(7, 1, 0, 1, ""))
}

// TestKnown is P10.1 to P10.3 by bytes and sums that were reckoned apart from this program.
func TestKnown(t *testing.T) {
	m := machine.New()
	one := api.Entry{Op: 1, Client: 258, Operation: 1}
	two := api.Entry{View: 3, Op: 2, Parent: 0x4FD3DA037A7AD65E, Client: 258, Session: 1, Request: 1, Operation: 2,
		Body: "\x01\x00\x00\x00\x00\x00\x00\x00\x00" + "\x02\x00\x00\x00\x00\x00\x00\x00\x01"}
	move := "\x07\x00\x00\x00\x00\x00\x00\x00" + "\x01\x00\x00\x00\x00\x00\x00\x00" + "\x02\x00\x00\x00\x00\x00\x00\x00" + "\x05\x00\x00\x00\x00\x00\x00\x00"
	three := api.Entry{View: 3, Op: 3, Under: 3, Parent: 0x3E4F4B520DE2FC42, Client: 258, Session: 1, Request: 2, Operation: 3, Body: move}
	for _, x := range []struct {
		e    api.Entry
		told api.Answer
		sum  uint64
	}{
		{one, api.Answer{Kind: 1, Client: 258, Session: 1, Request: 0, Op: 1}, 0x4FD3DA037A7AD65E},
		{two, api.Answer{Kind: 1, Client: 258, Session: 1, Request: 1, Op: 2, Body: "\x00\x00\x00"}, 0x3E4F4B520DE2FC42},
		{three, api.Answer{Kind: 1, Client: 258, Session: 1, Request: 2, Op: 3, Body: "\x00\x00"}, 0x0EB139DAFDD176C7},
	} {
		if got, failed := m.Apply(x.e); got != x.told || failed != 0 {
			t.Errorf("Apply(%+v): %+v %d", x.e, got, failed)
		}
		if got := m.Mark(); got != (api.Mark{Op: x.e.Op, View: x.e.View, Sum: x.sum}) {
			t.Errorf("Mark: %+v", got)
		}
	}
	want := "\x03\x00\x00\x00\x00\x00\x00\x00" + "\x03\x00\x00\x00\x00\x00\x00\x00" + "\xc7\x76\xd1\xfd\xda\x39\xb1\x0e" +
		"\x25\x00" + "\x01" + "\x02\x01\x00\x00\x00\x00\x00\x00" + "\x01\x00\x00\x00\x00\x00\x00\x00" + "\x02\x00\x00\x00\x00\x00\x00\x00" + "\x03\x00\x00\x00\x00\x00\x00\x00" + "\x02\x00\x00\x00" +
		"\x54\x00" + "\x02" +
		"\x01\x00\x00\x00\x00\x00\x00\x00" + "\x00" + "\x05\x00\x00\x00\x00\x00\x00\x00" + "\x00\x00\x00\x00\x00\x00\x00\x00" +
		"\x02\x00\x00\x00\x00\x00\x00\x00" + "\x01" + "\x00\x00\x00\x00\x00\x00\x00\x00" + "\x05\x00\x00\x00\x00\x00\x00\x00" +
		"\x01" + move
	if got := m.Pack(); got != want {
		t.Errorf("Pack: %x, not %x", got, want)
	}
	is(t, m, state{
		api.Mark{Op: 3, View: 3, Sum: 0x0EB139DAFDD176C7},
		[]api.Session{{Client: 258, Session: 1, Request: 2, Op: 3, Reply: "\x00\x00"}},
		[]api.Account{{ID: 1, Debits: 5}, {ID: 2, Flags: 1, Credits: 5}},
		[]api.Transfer{{ID: 7, Debit: 1, Credit: 2, Amount: 5}},
	})
}

// TestNew is a machine that did nothing.
func TestNew(t *testing.T) {
	m := machine.New()
	is(t, m, state{})
	if got := m.Pack(); got != strings.Repeat("\x00", 24)+"\x01\x00\x00"+"\x02\x00\x00\x00" {
		t.Errorf("Pack: %x", got)
	}
	judges(t, m, 0, 0, 0, 5)
	judges(t, m, 1, 1, 1, 5)
	caches(t, m, 0, 0, 0, api.Answer{})
	caches(t, m, 1, 1, 1, api.Answer{})
}

// TestNil is the chapter's word on a nil machine.
func TestNil(t *testing.T) {
	var m *machine.Machine
	for _, e := range []api.Entry{{}, {Op: 1}, {Op: 1, Client: 7, Operation: register}, {Op: 2, Client: 7, Operation: findAccounts}} {
		refuses(t, m, e, api.ErrNil)
	}
	for _, n := range append(bad(), 0, 1, 2, top) {
		judges(t, m, n, n, n, 5)
		judges(t, m, n, 0, 0, 5)
		caches(t, m, n, n, n, api.Answer{})
		caches(t, m, n, 0, 0, api.Answer{})
	}
	is(t, m, state{})
	if m.Pack() != machine.New().Pack() {
		t.Errorf("Pack: %x", m.Pack())
	}
}

// TestRegister is P10.1: who has no session gets one by the entry's Op, whatever else the entry has.
func TestRegister(t *testing.T) {
	for _, e := range []api.Entry{
		{Client: 1}, {Client: 7}, {Client: 258}, {Client: top},
		{Client: 7, Session: 1, Request: 1, Body: "a body"}, {Client: 7, Session: top, Request: top, Body: strings.Repeat("\xff", most)},
		{Client: 7, View: 2}, {Client: 7, View: top}, {Client: 7, Session: 21}, {Client: 7, Request: 2},
	} {
		e.Operation = register
		m := machine.New()
		does(t, m, e, replies(e.Client, 1, 0, 1, ""))
		want := behind(state{}, e)
		want.sessions = []api.Session{{Client: e.Client, Session: 1, Op: 1}}
		is(t, m, want)

		before := some()
		e.View = max(2, e.View)
		before.sessions = before.sessions[:2]
		m = with(t, before)
		does(t, m, e, replies(e.Client, 21, 0, 21, ""))
		want = behind(before, e)
		want.sessions = append(want.sessions, api.Session{Client: e.Client, Session: 21, Op: 21})
		is(t, m, want)
	}
}

// TestRegisterAgain is P10.1: who has a session without requests is told it once more, who has another one nothing.
func TestRegisterAgain(t *testing.T) {
	for _, e := range []api.Entry{{}, {Session: 8}, {Session: 9, Request: 4, Body: "abc"}, {Session: top, Request: top}} {
		e.View, e.Operation = 2, register
		m, want := with(t, some()), some()
		for range 3 {
			e.Client = 5
			does(t, m, e, replies(5, 8, 0, 8, ""))
			want = behind(want, e)
			is(t, m, want)
			for _, client := range []int{4, 6} {
				e.Client = client
				does(t, m, e, api.Answer{})
				want = behind(want, e)
				is(t, m, want)
			}
		}
	}
	m := machine.New()
	e := api.Entry{Client: 7, Operation: register}
	does(t, m, e, replies(7, 1, 0, 1, ""))
	does(t, m, api.Entry{Client: 7, Session: 1, Request: 1, Operation: findAccounts, Body: little(1)}, replies(7, 1, 1, 2, "\x00\x00"))
	does(t, m, e, api.Answer{})
	does(t, m, api.Entry{Client: 7, Session: 1, Request: 2, Operation: findAccounts}, replies(7, 1, 2, 4, refused))
}

// TestRegisterNoted is P10.1: of a session without requests that is told once more it is the Op and the Body that are noted in it.
func TestRegisterNoted(t *testing.T) {
	for _, noted := range []api.Session{
		{Client: 5, Session: 8, Op: 11, Reply: "noted"}, {Client: 5, Session: 0, Op: 0}, {Client: 5, Session: 0, Op: top, Reply: strings.Repeat("n", most)},
		{Client: 5, Session: top, Op: 0, Reply: "\x00"},
	} {
		before := some()
		before.sessions[1] = noted
		m := with(t, before)
		e := api.Entry{View: 2, Client: 5, Operation: register}
		does(t, m, e, replies(5, noted.Session, 0, noted.Op, noted.Reply))
		want := behind(before, e)
		is(t, m, want)
		caches(t, m, 5, noted.Session, 0, replies(5, noted.Session, 0, noted.Op, noted.Reply))
		e = api.Entry{View: 2, Client: 5, Session: noted.Session, Operation: makeAccounts, Body: asked(api.Account{ID: 3})}
		does(t, m, e, replies(5, noted.Session, 0, noted.Op, noted.Reply))
		is(t, m, behind(want, e))
	}
}

// TestRegisterOut is P10.1: for a fourth session the one goes whose Op is the least, and who lost it is told so, till a new one is opened.
func TestRegisterOut(t *testing.T) {
	m, want := with(t, some()), some()
	e := api.Entry{View: 2, Client: 9, Operation: register}
	does(t, m, e, replies(9, 21, 0, 21, ""))
	want = behind(want, e)
	want.sessions = []api.Session{want.sessions[0], want.sessions[2], {Client: 9, Session: 21, Op: 21}}
	is(t, m, want)
	judges(t, m, 5, 8, 0, 5)
	caches(t, m, 5, 8, 0, api.Answer{})

	e = api.Entry{View: 2, Client: 5, Session: 8, Request: 1, Operation: makeAccounts, Body: asked(api.Account{ID: 3})}
	does(t, m, e, api.Answer{Kind: 2, Client: 5, Session: 8, Request: 1, Op: 22})
	want = behind(want, e)
	is(t, m, want)

	e = api.Entry{View: 2, Client: 5, Session: 8, Operation: register}
	does(t, m, e, replies(5, 23, 0, 23, ""))
	want = behind(want, e)
	want.sessions = []api.Session{want.sessions[1], want.sessions[2], {Client: 5, Session: 23, Op: 23}}
	is(t, m, want)
	judges(t, m, 5, 8, 1, 5)
	judges(t, m, 5, 23, 1, 1)
}

// ask: an entry of the View 2 by which a client makes the account 3.
func ask(client, number, request int) api.Entry {
	return api.Entry{View: 2, Client: client, Session: number, Request: request, Operation: makeAccounts, Body: asked(api.Account{ID: 3})}
}

// TestFresh is P10.1: the ledger does a fresh request, and the session notes it; the others stay.
func TestFresh(t *testing.T) {
	for i, e := range []api.Entry{ask(4, 9, 4), ask(5, 8, 1), ask(6, 7, 901)} {
		m := with(t, some())
		does(t, m, e, replies(e.Client, e.Session, e.Request, 21, "\x00\x00"))
		want := behind(some(), e)
		want.sessions[i].Request, want.sessions[i].Op, want.sessions[i].Reply = e.Request, 21, "\x00\x00"
		want.accounts = append(want.accounts, api.Account{ID: 3})
		is(t, m, want)
		judges(t, m, e.Client, e.Session, e.Request, 2)
		judges(t, m, e.Client, e.Session, e.Request+1, 1)
	}
}

// TestAgain is P10.1: what was noted is told once more, of the Request 0, too, whatever is asked now; nothing is done.
func TestAgain(t *testing.T) {
	for i, e := range []api.Entry{ask(4, 9, 3), ask(5, 8, 0), ask(6, 7, 900)} {
		for _, operation := range []int{makeAccounts, makeTransfers, findAccounts, findTransfers, 6, 255} {
			e.Operation = operation
			noted := some().sessions[i]
			told := replies(noted.Client, noted.Session, noted.Request, noted.Op, noted.Reply)
			m, want := with(t, some()), some()
			for range 3 {
				does(t, m, e, told)
				want = behind(want, e)
				is(t, m, want)
			}
		}
	}
}

// TestOldAhead is P10.1: of what is neither the last request nor the next one nothing is told, and nothing is done.
func TestOldAhead(t *testing.T) {
	for _, operation := range []int{makeAccounts, makeTransfers, findAccounts, findTransfers, 6, 255} {
		for _, e := range []api.Entry{
			ask(4, 9, 0), ask(4, 9, 1), ask(4, 9, 2), ask(6, 7, 0), ask(6, 7, 899), ask(6, 7, 900-256),
			ask(4, 9, 5), ask(4, 9, 6), ask(4, 9, 4+256), ask(4, 9, top), ask(5, 8, 2), ask(5, 8, top), ask(6, 7, 902),
		} {
			e.Operation = operation
			m := with(t, some())
			does(t, m, e, api.Answer{})
			is(t, m, behind(some(), e))
		}
	}
}

// TestGone is P10.1: who has no session, or another one, is told so, with the entry's own numbers; nothing is done.
func TestGone(t *testing.T) {
	for _, operation := range []int{makeAccounts, makeTransfers, findAccounts, findTransfers, 6, 255} {
		for _, e := range []api.Entry{
			ask(1, 0, 0), ask(7, 9, 4), ask(top, 9, 3), ask(4+256, 9, 4),
			ask(4, 8, 3), ask(4, 8, 4), ask(4, 0, 0), ask(4, 10, 5), ask(4, top, top), ask(4, 9+256, 1),
			ask(5, 0, 0), ask(5, 9, 0), ask(5, 9, 1), ask(6, 8, 901), ask(6, 9, 4),
		} {
			e.Operation = operation
			m := with(t, some())
			does(t, m, e, api.Answer{Kind: 2, Client: e.Client, Session: e.Session, Request: e.Request, Op: 21})
			is(t, m, behind(some(), e))
		}
	}
}

// TestFirst is P10.1 and P10.2: of two sessions of one client the first one is meant.
func TestFirst(t *testing.T) {
	before := some()
	before.sessions[1].Client = 4
	m := with(t, before)
	judges(t, m, 4, 9, 3, 2)
	judges(t, m, 4, 8, 0, 5)
	caches(t, m, 4, 9, 3, replies(4, 9, 3, 12, "abc"))
	caches(t, m, 4, 8, 0, api.Answer{})
	e := api.Entry{View: 2, Client: 4, Operation: register}
	does(t, m, e, api.Answer{})
	want := behind(before, e)
	e = ask(4, 8, 1)
	does(t, m, e, api.Answer{Kind: 2, Client: 4, Session: 8, Request: 1, Op: 22})
	want = behind(want, e)
	e = ask(4, 9, 4)
	does(t, m, e, replies(4, 9, 4, 23, "\x00\x00"))
	want = behind(want, e)
	want.sessions[0] = api.Session{Client: 4, Session: 9, Request: 4, Op: 23, Reply: "\x00\x00"}
	want.accounts = append(want.accounts, api.Account{ID: 3})
	is(t, m, want)
}

// TestOperations is P10.1: what the ledger does by each operation is what is told and noted, refusals too.
func TestOperations(t *testing.T) {
	var many []api.Transfer
	for id := uint64(8); id < 11; id++ {
		many = append(many, api.Transfer{ID: id, Debit: 1, Credit: 258, Amount: id})
	}
	one, two := asked(api.Account{ID: 1})+little(5+8+9+10, 0), asked(api.Account{ID: 258, Flags: 1})+little(0, 5+8+9+10)
	first := some().transfers[0]
	m, want := with(t, some()), some()
	for i, x := range []struct {
		operation  int
		body, told string
	}{
		{makeTransfers, moves(many...), "\x00\x00\x00\x00"},
		{makeTransfers, moves(many...), "\x00\x02\x02\x02"},
		{makeTransfers, moves(api.Transfer{ID: 11, Debit: 258, Credit: 1, Amount: 33}), "\x00\x09"},
		{makeAccounts, asked(api.Account{}, api.Account{ID: 1}, api.Account{ID: 9, Flags: 2}), "\x00\x01\x02\x03"},
		{findAccounts, little(258, 9, 1), "\x00\x01" + two + "\x00\x01" + one},
		{findTransfers, little(10, 7, 8, 9), "\x00\x01" + moves(many[2]) + "\x01" + moves(first) + "\x01" + moves(many[0]) + "\x01" + moves(many[1])},
		{findTransfers, little(1), "\x00\x00"},
		{makeAccounts, "", refused}, {makeTransfers, "a body", refused}, {findAccounts, little(1, 2, 3, 4, 5), refused}, {findTransfers, "\x01", refused},
		{6, little(1), refused}, {7, "", refused}, {128, asked(api.Account{ID: 3}), refused}, {255, moves(many...), refused}, {255, strings.Repeat("a", most), refused},
	} {
		e := api.Entry{View: 2, Client: 4, Session: 9, Request: 4 + i, Operation: x.operation, Body: x.body}
		does(t, m, e, replies(4, 9, 4+i, 21+i, x.told))
		want = behind(want, e)
		want.sessions[0] = api.Session{Client: 4, Session: 9, Request: 4 + i, Op: 21 + i, Reply: x.told}
		if i == 0 {
			want.transfers = append(want.transfers, many...)
			want.accounts[0].Debits, want.accounts[1].Credits = 5+8+9+10, 5+8+9+10
		}
		is(t, m, want)
		caches(t, m, 4, 9, 4+i, replies(4, 9, 4+i, 21+i, x.told))
	}
}

// TestWrong is P10.1: entries that may not be, be they behind the mark or not; they change nothing.
func TestWrong(t *testing.T) {
	for _, good := range []api.Entry{ask(4, 9, 4), {View: 2, Client: 7, Operation: register}, ask(5, 8, 0)} {
		var wrong []api.Entry
		for _, n := range append(bad(), 0) {
			for field := range 6 {
				e := entry.Next(some().mark, good)
				if n == 0 && field > 1 {
					continue
				}
				*[]*int{&e.Client, &e.Operation, &e.Session, &e.Request, &e.View, &e.Op}[field] = n
				wrong = append(wrong, e)
			}
		}
		for range 4 {
			wrong = append(wrong, entry.Next(some().mark, good))
		}
		last := wrong[len(wrong)-4:]
		last[0].Operation, last[1].Op, last[2].View, last[3].Body = 256, 0, 1, strings.Repeat("a", most+1)
		for _, e := range append(wrong, api.Entry{}) {
			m := with(t, some())
			refuses(t, m, e, api.ErrForm)
			e.Parent++
			refuses(t, m, e, api.ErrForm)
			does(t, m, ask(4, 9, 4), replies(4, 9, 4, 21, "\x00\x00"))
		}
	}
}

// TestOrder is P10.1: entries that may be, and don't follow the mark; they change nothing.
func TestOrder(t *testing.T) {
	for _, good := range []api.Entry{ask(4, 9, 4), {View: 2, Client: 7, Operation: register}, ask(5, 8, 0), ask(9, 9, 9)} {
		m := with(t, some())
		for _, op := range []int{1, 2, 19, 20, 22, 21 + 256, 21 + 1<<32, top} {
			e := entry.Next(some().mark, good)
			e.Op = op
			refuses(t, m, e, api.ErrOrder)
		}
		for _, under := range []int{0, 1, 3, 258} {
			e := entry.Next(some().mark, good)
			e.View, e.Under = 300, under
			refuses(t, m, e, api.ErrOrder)
		}
		for bit := range 64 {
			e := entry.Next(some().mark, good)
			e.Parent ^= 1 << bit
			refuses(t, m, e, api.ErrOrder)
		}
		refuses(t, m, entry.Next(api.Mark{}, good), api.ErrOrder)
		is(t, m, some())

		e := entry.Next(m.Mark(), good)
		if _, failed := m.Apply(e); failed != api.OK {
			t.Errorf("Apply(%+v): %d", e, failed)
		}
		refuses(t, m, e, api.ErrOrder)
	}
	m := machine.New()
	for _, e := range []api.Entry{{Op: 2}, {Op: 1, View: 1, Under: 1}, {Op: 1, Parent: 1}, {Op: top}} {
		e.Client, e.Operation = 7, register
		refuses(t, m, e, api.ErrOrder)
	}
	is(t, m, state{})
}

// TestEnds is P10.1: the last place, behind which nothing is, and the greatest numbers.
func TestEnds(t *testing.T) {
	before := some()
	before.mark = api.Mark{Op: top - 1, View: top, Sum: math.MaxUint64}
	before.sessions[2].Client, before.sessions[2].Session, before.sessions[2].Request = top, top, top-1
	for _, good := range []api.Entry{ask(top, top, top), {Client: 7, Operation: register}} {
		good.View = top
		m := with(t, before)
		want := replies(top, top, top, top, "\x00\x00")
		if good.Operation == register {
			want = replies(7, top, 0, top, "")
		}
		does(t, m, good, want)
		judges(t, m, good.Client, top, want.Request, 2)
		e := entry.Next(m.Mark(), good)
		for _, op := range []int{1, top - 1, top} {
			e.Op = op
			refuses(t, m, e, api.ErrOrder)
		}
		e.Op = top + 1
		refuses(t, m, e, api.ErrForm)
	}
}

// TestBody is P10.1: bodies up to the longest come to the ledger whole.
func TestBody(t *testing.T) {
	for n := range most + 1 {
		e := api.Entry{View: 2, Client: 4, Session: 9, Request: 4, Operation: makeAccounts, Body: strings.Repeat("\x00", n)}
		want := refused
		if n%9 == 0 && n > 0 && n <= 36 {
			want = "\x00" + strings.Repeat("\x01", n/9)
		}
		does(t, with(t, some()), e, replies(4, 9, 4, 21, want))
	}
}

// TestCached is P10.2: what would be told once more, of just the last request.
func TestCached(t *testing.T) {
	m := with(t, some())
	for _, x := range some().sessions {
		told := replies(x.Client, x.Session, x.Request, x.Op, x.Reply)
		caches(t, m, x.Client, x.Session, x.Request, told)
		for _, d := range []int{-1 << 32, -256, -2, -1, 1, 2, 256, 1 << 32} {
			caches(t, m, x.Client, x.Session, x.Request+d, api.Answer{})
			caches(t, m, x.Client, x.Session+d, x.Request, api.Answer{})
			caches(t, m, x.Client+1000*d, x.Session, x.Request, api.Answer{})
		}
		for _, n := range append(bad(), 0, 1, top) {
			if n != x.Request {
				caches(t, m, x.Client, x.Session, n, api.Answer{})
			}
			caches(t, m, x.Client, n, x.Request, api.Answer{})
			caches(t, m, n, x.Session, x.Request, api.Answer{})
		}
	}
	is(t, m, some())
}

// TestCachedNobody is P10.2: a session of a client 0, with the number 0, of a machine that was told so, is one as well.
func TestCachedNobody(t *testing.T) {
	m := with(t, state{sessions: []api.Session{{}, {Client: 1, Op: 5, Reply: "b"}}})
	judges(t, m, 0, 0, 0, 2)
	caches(t, m, 0, 0, 0, replies(0, 0, 0, 0, ""))
	caches(t, m, 1, 0, 0, replies(1, 0, 0, 5, "b"))
	caches(t, m, 0, 1, 0, api.Answer{})
}

// TestCachedAsTold is P10.2: what is cached is what the entry told, and what its asking again tells.
func TestCachedAsTold(t *testing.T) {
	m := machine.New()
	told := replies(7, 1, 0, 1, "")
	does(t, m, api.Entry{Client: 7, Operation: register}, told)
	for request := range 5 {
		caches(t, m, 7, 1, request, told)
		caches(t, m, 7, 1, request-1, api.Answer{})
		caches(t, m, 7, 1, request+1, api.Answer{})
		does(t, m, api.Entry{Client: 7, Session: 1, Request: request, Operation: findAccounts}, told)
		caches(t, m, 7, 1, request, told)
		told = replies(7, 1, request+1, m.Mark().Op+1, refused)
		does(t, m, api.Entry{Client: 7, Session: 1, Request: request + 1, Operation: findAccounts}, told)
	}
}

// TestVerdict is P10.2: what requests are to the machine's sessions; to ask changes nothing.
func TestVerdict(t *testing.T) {
	m := with(t, some())
	sessions, failed := session.Unpack(table(some().sessions))
	if failed != api.OK {
		t.Fatal(failed)
	}
	numbers := append(bad(), 0, 1, 2, 3, 4, 5, 6, 7, 8, 9, 10, 899, 900, 901, 902, top)
	seen := map[int]int{}
	for _, client := range numbers {
		for _, number := range numbers {
			for _, request := range numbers {
				want := sessions.Verdict(client, number, request)
				judges(t, m, client, number, request, want)
				seen[want]++
			}
		}
	}
	if len(seen) != 5 {
		t.Errorf("verdicts: %v", seen)
	}
	is(t, m, some())
}

// full: a machine that has as much as it may.
func full() state {
	s := state{mark: api.Mark{Op: top, View: top, Sum: math.MaxUint64}}
	for i := range 3 {
		s.sessions = append(s.sessions, api.Session{Client: top - i, Session: top, Request: top, Op: top, Reply: strings.Repeat("\xff", most)})
	}
	for i := range uint64(8) {
		s.accounts = append(s.accounts, api.Account{ID: math.MaxUint64 - i, Flags: 255, Debits: math.MaxUint64, Credits: math.MaxUint64 - i})
	}
	for i := range uint64(16) {
		s.transfers = append(s.transfers, api.Transfer{ID: math.MaxUint64 - i, Debit: i, Credit: math.MaxUint64, Amount: math.MaxUint64})
	}
	return s
}

// TestPack is P10.3: the bytes of the least and of the fullest machine, which are told again.
func TestPack(t *testing.T) {
	for _, s := range []state{{}, some(), full()} {
		is(t, with(t, s), s)
	}
	if n := len(with(t, full()).Pack()); n != 24+2+703+2+714 || n > 1920 {
		t.Errorf("%d bytes", n)
	}
}

// TestUnpack is P10.3: marks at their ends, and so many sessions, accounts and transfers.
func TestUnpack(t *testing.T) {
	for _, n := range []int{0, 1, 255, 256, 1 << 32, 1 << 48, top - 1, top} {
		for _, mark := range []api.Mark{{Op: n}, {View: n}, {Op: n, View: top - n}, {Op: 20, View: n, Sum: 9}, {Op: n, View: 2, Sum: math.MaxUint64}} {
			s := some()
			s.mark = mark
			is(t, with(t, s), s)
		}
	}
	for bit := range 64 {
		s := some()
		s.mark.Sum = 1 << bit
		is(t, with(t, s), s)
	}
	for n := range 4 {
		s := full()
		s.sessions = s.sessions[:n]
		is(t, with(t, s), s)
	}
	for n := range 9 {
		s := full()
		s.accounts = s.accounts[:n]
		is(t, with(t, s), s)
	}
	for n := range 17 {
		s := full()
		s.transfers = s.transfers[:n]
		is(t, with(t, s), s)
	}
}

// isForm tells that bytes are a machine's that should be none's.
func isForm(t *testing.T, s string) {
	t.Helper()
	if m, e := machine.Unpack(s); m != nil || e != api.ErrForm {
		t.Errorf("Unpack of %d bytes %.60x: %v %d", len(s), s, m, e)
	}
}

// TestUnpackLength is P10.3: bytes that lack some, or have some more.
func TestUnpackLength(t *testing.T) {
	for _, x := range []state{{}, some(), full()} {
		s := packed(x)
		for i := range s {
			isForm(t, s[:i])
			isForm(t, s[i+1:])
		}
		for _, more := range []string{"\x00", "\x01", "\x00\x00", "\x02\x00\x00\x00", s, strings.Repeat("\x00", 1<<16)} {
			isForm(t, s+more)
			isForm(t, more+s)
		}
	}
	for _, c := range []string{"\x00", "\x01", "\xff"} {
		isForm(t, strings.Repeat(c, 1<<20))
	}
}

// TestUnpackMark is P10.3: a mark's Op and View are numbers, whichever bit is too high.
func TestUnpackMark(t *testing.T) {
	for _, n := range bad() {
		op, view := some(), some()
		op.mark.Op, view.mark.View = n, n
		isForm(t, packed(op))
		isForm(t, packed(view))
	}
	for bit := 56; bit < 64; bit++ {
		op, view := some(), some()
		op.mark.Op |= 1 << bit
		view.mark.View |= 1 << bit
		isForm(t, packed(op))
		isForm(t, packed(view))
	}
}

// TestUnpackTexts is P10.3: each of both texts is just a table's, and just a ledger's.
func TestUnpackTexts(t *testing.T) {
	mark, sessions, all := little(1, 2, 3), table(some().sessions), books(some().accounts, some().transfers)
	if m, e := machine.Unpack(mark + text(sessions) + text(all)); m == nil || e != api.OK {
		t.Errorf("Unpack: %v %d", m, e)
	}
	for _, other := range []string{
		"", "\x04", sessions[1:], sessions[:len(sessions)-1], sessions + "\x00", "\x02" + sessions[1:], all,
		table(make([]api.Session, 4)), table([]api.Session{{Client: -1}}), table([]api.Session{{Op: top + 1}}), table([]api.Session{{Reply: strings.Repeat("a", most+1)}}),
		strings.Repeat("\x00", 1000), strings.Repeat("\x00", math.MaxUint16),
	} {
		isForm(t, mark+text(other)+text(all))
	}
	for _, other := range []string{
		"", "\x00", "\x09\x00", all[1:], all[:len(all)-1], all + "\x00", "\x01" + all[1:], sessions,
		books(make([]api.Account, 9), nil), books(nil, make([]api.Transfer, 17)),
		strings.Repeat("\x00", 1000), strings.Repeat("\x00", math.MaxUint16),
	} {
		isForm(t, mark+text(sessions)+text(other))
	}
	isForm(t, mark+text(all)+text(sessions))
	isForm(t, mark+text(sessions))
	isForm(t, mark+text(all))
	isForm(t, mark+text(sessions)+text(all)+text(all))
	isForm(t, mark+text(sessions+all))
	isForm(t, text(sessions)+text(all))
	for _, d := range []int{1, 2, 255, 256, math.MaxUint16} { // the seam moves, and the whole stays as long
		n, k := uint16(len(sessions)+d), uint16(len(all)-d)
		isForm(t, mark+string([]byte{byte(n), byte(n >> 8)})+sessions+string([]byte{byte(k), byte(k >> 8)})+all)
	}
}

// mayBe: are bytes a machine's?
func mayBe(s string) bool {
	if len(s) < 26 || s[7]|s[15] != 0 {
		return false
	}
	n := int(s[24]) | int(s[25])<<8
	if s = s[26:]; len(s) < n+2 {
		return false
	}
	_, first := session.Unpack(s[:n])
	k := int(s[n]) | int(s[n+1])<<8
	_, second := ledger.Unpack(s[n+2:])
	return k == len(s)-n-2 && first == api.OK && second == api.OK
}

// TestUnpackAny is P10.3: bytes some of which were turned are another machine's, or none's.
func TestUnpackAny(t *testing.T) {
	r := rand.New(rand.NewSource(1))
	taken := 0
	for range 30000 {
		b := []byte(packed([]state{{}, some(), full()}[r.Intn(3)]))
		for range 1 + r.Intn(2) {
			b[r.Intn(len(b))] = byte(r.Intn(256))
		}
		m, e := machine.Unpack(string(b))
		if mayBe(string(b)) {
			taken++
			if e != api.OK || m.Pack() != string(b) {
				t.Errorf("Unpack(%x): %d", b, e)
			}
		} else if e != api.ErrForm || m != nil {
			t.Errorf("Unpack(%x): %v %d", b, m, e)
		}
	}
	if taken < 10000 || taken > 29000 {
		t.Errorf("%d of 30000 are machines", taken)
	}
}

// TestUnpackedGoesOn is P10.3: a machine that was told again does what it would have done.
func TestUnpackedGoesOn(t *testing.T) {
	want := full()
	want.mark.Op = top - 1
	m := with(t, want)
	e := api.Entry{View: top, Client: 3, Operation: register}
	does(t, m, e, replies(3, top, 0, top, ""))
	want = behind(want, e)
	want.sessions = append(want.sessions[1:], api.Session{Client: 3, Session: top, Op: top})
	is(t, m, want)
}

// reckoning is the chapter's words on a machine; what the ledger answers is the ledger's own (chapter 7).
type reckoning struct {
	mark     api.Mark
	sessions []api.Session
	ledger   *ledger.Ledger
}

// apply is P10.1's.
func (w *reckoning) apply(e api.Entry) api.Answer {
	w.mark = entry.MarkOf(e)
	i := slices.IndexFunc(w.sessions, func(s api.Session) bool { return s.Client == e.Client })
	if e.Operation == register {
		return w.register(i, e)
	}
	if i < 0 || w.sessions[i].Session != e.Session {
		return api.Answer{Kind: 2, Client: e.Client, Session: e.Session, Request: e.Request, Op: e.Op}
	}
	s := &w.sessions[i]
	if e.Request == s.Request+1 {
		body := w.ledger.Do(e.Operation, e.Body)
		s.Request, s.Op, s.Reply = e.Request, e.Op, body
		return replies(e.Client, e.Session, e.Request, e.Op, body)
	}
	if e.Request == s.Request {
		return replies(e.Client, e.Session, e.Request, s.Op, s.Reply)
	}
	return api.Answer{}
}

// register is P10.1's; i is the place of the client's session.
func (w *reckoning) register(i int, e api.Entry) api.Answer {
	if i >= 0 {
		if s := w.sessions[i]; s.Request == 0 {
			return replies(e.Client, s.Session, 0, s.Op, s.Reply)
		}
		return api.Answer{}
	}
	if len(w.sessions) == 3 {
		least := min(w.sessions[0].Op, w.sessions[1].Op, w.sessions[2].Op)
		k := slices.IndexFunc(w.sessions, func(s api.Session) bool { return s.Op == least })
		w.sessions = slices.Concat(w.sessions[:k], w.sessions[k+1:])
	}
	w.sessions = append(w.sessions, api.Session{Client: e.Client, Session: e.Op, Op: e.Op})
	return replies(e.Client, e.Op, 0, e.Op, "")
}

// anyEntry: one that looks like any; often it is what a client of these sessions may ask next.
func anyEntry(r *rand.Rand, mark api.Mark, sessions []api.Session) api.Entry {
	e := api.Entry{View: mark.View + r.Intn(20)/19, Client: 1 + r.Intn(5), Operation: 1 + r.Intn(6), Session: r.Intn(mark.Op + 2), Request: r.Intn(4)}
	if len(sessions) > 0 && r.Intn(8) > 0 {
		s := sessions[r.Intn(len(sessions))]
		e.Client, e.Session, e.Request = s.Client, s.Session, max(0, s.Request+1-r.Intn(20)/14+r.Intn(20)/19)
	}
	if r.Intn(3) == 0 {
		e.Operation = register
	}
	e.Body = asked(api.Account{ID: uint64(r.Intn(9)), Flags: r.Intn(2)})
	switch e.Operation {
	case makeTransfers:
		e.Body = moves(api.Transfer{ID: r.Uint64() % 40, Debit: uint64(r.Intn(9)), Credit: uint64(r.Intn(9)), Amount: uint64(r.Intn(5))})
	case findAccounts, findTransfers:
		e.Body = little(uint64(r.Intn(9)), r.Uint64()%40)
	}
	return entry.Next(mark, e)
}

// TestAsReckoned is P10.1 to P10.3: entries as they come, against the chapter's words; a machine that was packed goes on as it would have.
func TestAsReckoned(t *testing.T) {
	r := rand.New(rand.NewSource(2))
	told := map[int]int{}
	for range 60 {
		m, want := machine.New(), &reckoning{ledger: ledger.New()}
		for range 200 {
			if r.Intn(10) == 0 {
				m = with(t, state{m.Mark(), m.Sessions(), m.Accounts(), m.Transfers()})
			}
			e := anyEntry(r, want.mark, want.sessions)
			answer := want.apply(e)
			if got, failed := m.Apply(e); got != answer || failed != api.OK {
				t.Fatalf("Apply(%+v): %+v %d, not %+v", e, got, failed, answer)
			}
			told[answer.Kind]++
			is(t, m, state{want.mark, want.sessions, want.ledger.Accounts(), want.ledger.Transfers()})
		}
	}
	if told[0] < 500 || told[1] < 500 || told[2] < 500 {
		t.Errorf("told: %v", told)
	}
}

// TestSame is P10.4: the same entries come to the same, whatever is asked in between, refused, or packed and told again.
func TestSame(t *testing.T) {
	r := rand.New(rand.NewSource(3))
	one, two, three := machine.New(), machine.New(), machine.New()
	for range 300 {
		e := anyEntry(r, one.Mark(), one.Sessions())
		first, _ := one.Apply(e)
		two.Cached(e.Client, e.Session, e.Request)
		two.Verdict(e.Client, e.Session, e.Request)
		refuses(t, two, api.Entry{}, api.ErrForm)
		wrong := e
		wrong.Parent++
		refuses(t, two, wrong, api.ErrOrder)
		second, _ := two.Apply(e)
		three, _ = machine.Unpack(three.Pack())
		third, _ := three.Apply(e)
		if first != second || first != third || one.Pack() != two.Pack() || one.Pack() != three.Pack() {
			t.Fatalf("unlike behind %+v", e)
		}
	}
}

// TestOnce is P10.4: a request takes effect once at most, however often it comes, and in whichever view.
func TestOnce(t *testing.T) {
	m := machine.New()
	for client := 1; client <= 2; client++ {
		does(t, m, api.Entry{Client: client, Operation: register}, replies(client, client, 0, client, ""))
	}
	does(t, m, api.Entry{Client: 1, Session: 1, Request: 1, Operation: makeAccounts, Body: asked(api.Account{ID: 1}, api.Account{ID: 2})}, replies(1, 1, 1, 3, "\x00\x00\x00"))
	move := func(id uint64) string { return moves(api.Transfer{ID: id, Debit: 1, Credit: 2, Amount: 1}) }
	for round := range 10 {
		moved := len(m.Transfers())
		e := api.Entry{View: round, Client: 2, Session: 2, Request: round + 1, Operation: makeTransfers, Body: move(uint64(round + 1))}
		told := replies(2, 2, round+1, m.Mark().Op+1, "\x00\x00")
		for again := range 4 {
			does(t, m, e, told)
			e.View += again
			e.Body = move(uint64(100 + 10*round + again)) // another body makes no other request
			does(t, m, api.Entry{View: e.View, Client: 1, Session: 1, Request: 1, Operation: makeTransfers, Body: move(200)}, replies(1, 1, 1, 3, "\x00\x00\x00"))
			does(t, m, api.Entry{View: e.View, Client: 3, Session: 3, Request: 1, Operation: makeTransfers, Body: move(201)}, api.Answer{Kind: 2, Client: 3, Session: 3, Request: 1, Op: m.Mark().Op + 1})
			if round > 0 {
				does(t, m, api.Entry{View: e.View, Client: 2, Session: 2, Request: round, Operation: makeTransfers, Body: move(202)}, api.Answer{})
			}
		}
		if got := m.Transfers(); len(got) != moved+1 || got[moved] != (api.Transfer{ID: uint64(round + 1), Debit: 1, Credit: 2, Amount: 1}) {
			t.Errorf("round %d: %v", round, got)
		}
		m = with(t, state{api.Mark{Op: m.Mark().Op, View: round + 1}, m.Sessions(), m.Accounts(), m.Transfers()})
	}
	if l := m.Accounts(); l[0].Debits != 10 || l[1].Credits != 10 {
		t.Errorf("%v", l)
	}
}

// TestApart is the rules: answers share no memory with the machine, and what is handed in is neither changed nor kept.
func TestApart(t *testing.T) {
	bytes := []byte(packed(some()))
	before := string(bytes)
	m, e := machine.Unpack(unsafe.String(&bytes[0], len(bytes)))
	if e != api.OK || string(bytes) != before {
		t.Fatal("what was handed in was changed")
	}
	clear(bytes)
	is(t, m, some())
	sessions, accounts, transfers := m.Sessions(), m.Accounts(), m.Transfers()
	clear(sessions[:cap(sessions)])
	clear(accounts[:cap(accounts)])
	clear(transfers[:cap(transfers)])
	is(t, m, some())

	body := []byte(asked(api.Account{ID: 3}))
	next := ask(4, 9, 4)
	next.Body = unsafe.String(&body[0], len(body))
	next.Op, next.Under, next.Parent = 21, some().mark.View, some().mark.Sum
	want := behind(some(), ask(4, 9, 4))
	if told, failed := m.Apply(next); told != replies(4, 9, 4, 21, "\x00\x00") || failed != api.OK {
		t.Errorf("Apply: %+v %d", told, failed)
	}
	if string(body) != asked(api.Account{ID: 3}) {
		t.Error("a body was changed")
	}
	clear(body)
	want.sessions[0] = api.Session{Client: 4, Session: 9, Request: 4, Op: 21, Reply: "\x00\x00"}
	want.accounts = append(want.accounts, api.Account{ID: 3})
	is(t, m, want)
}

// TestTextsApart is the rules: no two answers share a text's memory.
func TestTextsApart(t *testing.T) {
	m := with(t, some())
	places := map[*byte]bool{}
	for range 2 {
		cached, _ := m.Cached(4, 9, 3)
		told, _ := m.Apply(entry.Next(m.Mark(), ask(4, 9, 3)))
		for _, s := range []string{cached.Body, told.Body, m.Sessions()[0].Reply, m.Pack()} {
			places[unsafe.StringData(s)] = true
		}
	}
	found, _ := m.Apply(entry.Next(m.Mark(), api.Entry{View: 2, Client: 4, Session: 9, Request: 4, Operation: findAccounts, Body: little(1, 2)}))
	again, _ := m.Cached(4, 9, 4)
	for _, s := range []string{found.Body, again.Body, m.Sessions()[0].Reply} {
		places[unsafe.StringData(s)] = true
	}
	if len(places) != 11 {
		t.Errorf("%d texts, not 11", len(places))
	}
}

// TestOld is the rules: what was answered stays as it was, whatever is done behind it, and the other way about.
func TestOld(t *testing.T) {
	m := with(t, some())
	was := state{m.Mark(), m.Sessions(), m.Accounts(), m.Transfers()}
	pack := m.Pack()
	cached, _ := m.Cached(4, 9, 3)
	sessions, accounts, transfers := append(m.Sessions(), api.Session{Client: 70}), append(m.Accounts(), api.Account{ID: 70}), append(m.Transfers(), api.Transfer{ID: 70})
	does(t, m, ask(4, 9, 4), replies(4, 9, 4, 21, "\x00\x00"))
	does(t, m, api.Entry{View: 2, Client: 4, Session: 9, Request: 5, Operation: makeTransfers, Body: moves(api.Transfer{ID: 8, Debit: 1, Credit: 3, Amount: 1})}, replies(4, 9, 5, 22, "\x00\x00"))
	does(t, m, api.Entry{View: 2, Client: 9, Operation: register}, replies(9, 23, 0, 23, ""))
	if packed(was) != packed(some()) || pack != packed(some()) || cached != replies(4, 9, 3, 12, "abc") {
		t.Error("an answer was changed behind it")
	}
	if sessions[3].Client != 70 || accounts[2].ID != 70 || transfers[1].ID != 70 {
		t.Error("an answer's spare room is the machine's")
	}
}

// TestTwo is the rule that what a machine answers hangs on what it was told alone: two of them know nothing of each other.
func TestTwo(t *testing.T) {
	one, two := machine.New(), machine.New()
	does(t, one, api.Entry{Client: 7, Operation: register}, replies(7, 1, 0, 1, ""))
	is(t, two, state{})
	does(t, two, api.Entry{View: 4, Client: 8, Operation: register}, replies(8, 1, 0, 1, ""))
	again, _ := machine.Unpack(one.Pack())
	does(t, again, api.Entry{Client: 7, Session: 1, Request: 1, Operation: makeAccounts, Body: asked(api.Account{ID: 3})}, replies(7, 1, 1, 2, "\x00\x00"))
	want := behind(state{}, api.Entry{Client: 7, Operation: register})
	want.sessions = []api.Session{{Client: 7, Session: 1, Op: 1}}
	is(t, one, want)
	want = behind(state{}, api.Entry{View: 4, Client: 8, Operation: register})
	want.sessions = []api.Session{{Client: 8, Session: 1, Op: 1}}
	is(t, two, want)
	is(t, machine.New(), state{})
}
