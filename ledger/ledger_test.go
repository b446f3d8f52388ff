package ledger_test

import (
	"encoding/binary"
	"math"
	"math/big"
	"math/rand"
	"slices"
	"strings"
	"testing"
	"unsafe"

	"comptor/api"
	"comptor/ledger"
)

const (
	makeAccounts  = 2
	makeTransfers = 3
	findAccounts  = 4
	findTransfers = 5
	refused       = "\x01"
	top           = math.MaxUint64
)

// little: numbers by the library, the lowest byte first.
func little(l ...uint64) string {
	var b []byte
	for _, n := range l {
		b = binary.LittleEndian.AppendUint64(b, n)
	}
	return string(b)
}

// asked is the chapter's words on accounts that are asked for.
func asked(l ...api.Account) string {
	s := ""
	for _, a := range l {
		s += little(a.ID) + string([]byte{byte(a.Flags)})
	}
	return s
}

// whole is the chapter's words on an account with its sums.
func whole(a api.Account) string {
	return asked(a) + little(a.Debits, a.Credits)
}

// transfers is the chapter's words on transfers.
func transfers(l ...api.Transfer) string {
	s := ""
	for _, t := range l {
		s += little(t.ID, t.Debit, t.Credit, t.Amount)
	}
	return s
}

// packed is P7.2's words on a ledger's bytes.
func packed(accounts []api.Account, l []api.Transfer) string {
	s := string([]byte{byte(len(accounts))})
	for _, a := range accounts {
		s += whole(a)
	}
	return s + string([]byte{byte(len(l))}) + transfers(l...)
}

// codes: the answer that has these.
func codes(l ...byte) string {
	return "\x00" + string(l)
}

// with: a ledger that has these, in order.
func with(t *testing.T, accounts []api.Account, l []api.Transfer) *ledger.Ledger {
	t.Helper()
	made, e := ledger.Unpack(packed(accounts, l))
	if e != api.OK || made == nil {
		t.Fatalf("Unpack: %v %d", made, e)
	}
	return made
}

// has tells that a ledger has other accounts or transfers than these.
func has(t *testing.T, l *ledger.Ledger, accounts []api.Account, moved []api.Transfer) {
	t.Helper()
	if got := l.Accounts(); !slices.Equal(got, accounts) {
		t.Errorf("accounts: %v, not %v", got, accounts)
	}
	if got := l.Transfers(); !slices.Equal(got, moved) {
		t.Errorf("transfers: %v, not %v", got, moved)
	}
	if got := l.Pack(); got != packed(accounts, moved) {
		t.Errorf("packed: %x, not %x", got, packed(accounts, moved))
	}
}

// does tells that an operation comes to something else.
func does(t *testing.T, l *ledger.Ledger, operation int, body string, want string) {
	t.Helper()
	if got := l.Do(operation, body); got != want {
		t.Errorf("Do(%d, %.80x): %x, not %x", operation, body, got, want)
	}
}

// eight: accounts with the IDs 1 to 8.
func eight() []api.Account {
	var l []api.Account
	for id := uint64(1); id <= 8; id++ {
		l = append(l, api.Account{ID: id})
	}
	return l
}

// sixteen: transfers with the IDs 1 to 16, of 1 each from the account 1 to the account 2.
func sixteen() []api.Transfer {
	var l []api.Transfer
	for id := uint64(1); id <= 16; id++ {
		l = append(l, api.Transfer{ID: id, Debit: 1, Credit: 2, Amount: 1})
	}
	return l
}

// TestExamples is the chapter's.
func TestExamples(t *testing.T) {
	l := ledger.New()
	does(t, l, makeAccounts, asked(api.Account{ID: 1}, api.Account{ID: 1}, api.Account{}), "\x00\x00\x02\x01")
	does(t, l, makeTransfers, transfers(api.Transfer{ID: 1, Debit: 1, Credit: 2, Amount: 5}), "\x00\x06")
	has(t, l, []api.Account{{ID: 1}}, nil)
}

// TestKnown is P7.1 and P7.2 by bytes that were written out by hand.
func TestKnown(t *testing.T) {
	l := ledger.New()
	does(t, l, 2, "\x01\x00\x00\x00\x00\x00\x00\x00\x00"+"\x02\x01\x00\x00\x00\x00\x00\x00\x01", "\x00\x00\x00")
	move := "\x07\x00\x00\x00\x00\x00\x00\x00" + "\x01\x00\x00\x00\x00\x00\x00\x00" + "\x02\x01\x00\x00\x00\x00\x00\x00" + "\x05\x00\x00\x00\x00\x00\x00\x00"
	does(t, l, 3, move, "\x00\x00")
	one := "\x01\x00\x00\x00\x00\x00\x00\x00\x00" + "\x05\x00\x00\x00\x00\x00\x00\x00" + "\x00\x00\x00\x00\x00\x00\x00\x00"
	two := "\x02\x01\x00\x00\x00\x00\x00\x00\x01" + "\x00\x00\x00\x00\x00\x00\x00\x00" + "\x05\x00\x00\x00\x00\x00\x00\x00"
	does(t, l, 4, little(258, 9, 1), "\x00"+"\x01"+two+"\x00"+"\x01"+one)
	does(t, l, 5, little(9, 7), "\x00"+"\x00"+"\x01"+move)
	if got := l.Pack(); got != "\x02"+one+two+"\x01"+move {
		t.Errorf("%x", got)
	}
}

// TestNew is a ledger that has nothing.
func TestNew(t *testing.T) {
	has(t, ledger.New(), nil, nil)
	does(t, ledger.New(), findAccounts, little(0, 1, 2, top), codes(0, 0, 0, 0))
	does(t, ledger.New(), findTransfers, little(0, 1, 2, top), codes(0, 0, 0, 0))
	if got := ledger.New().Pack(); got != "\x00\x00" {
		t.Errorf("%x", got)
	}
}

// TestNil is the chapter's word on a nil ledger.
func TestNil(t *testing.T) {
	var l *ledger.Ledger
	for operation := -1; operation < 8; operation++ {
		for _, body := range []string{"", "x", asked(api.Account{ID: 1}), little(1), transfers(api.Transfer{ID: 1})} {
			does(t, l, operation, body, "")
		}
	}
	has(t, l, nil, nil)
	if got := l.Pack(); got != "\x00\x00" {
		t.Errorf("%x", got)
	}
}

// TestAccountCodes is P7.1: each code of accounts, and which of two is told.
func TestAccountCodes(t *testing.T) {
	full := append([]api.Account{{ID: 0}}, eight()[:7]...)
	for _, c := range []struct {
		before []api.Account
		event  api.Account
		code   byte
	}{
		{nil, api.Account{ID: 1}, 0},
		{nil, api.Account{ID: 1, Flags: 1}, 0},
		{nil, api.Account{ID: top, Flags: 1}, 0},
		{eight()[:7], api.Account{ID: 8}, 0},
		{nil, api.Account{}, 1},
		{nil, api.Account{Flags: 255}, 1},
		{full, api.Account{}, 1},
		{full, api.Account{Flags: 2}, 1},
		{eight()[:1], api.Account{ID: 1}, 2},
		{eight()[:3], api.Account{ID: 3, Flags: 1}, 2},
		{eight()[:1], api.Account{ID: 1, Flags: 2}, 2},
		{eight(), api.Account{ID: 8}, 2},
		{eight(), api.Account{ID: 1, Flags: 9}, 2},
		{nil, api.Account{ID: 1, Flags: 2}, 3},
		{nil, api.Account{ID: 1, Flags: 3}, 3},
		{nil, api.Account{ID: 1, Flags: 128}, 3},
		{nil, api.Account{ID: 1, Flags: 255}, 3},
		{eight(), api.Account{ID: 9, Flags: 2}, 3},
		{eight(), api.Account{ID: 9}, 10},
		{eight(), api.Account{ID: 9, Flags: 1}, 10},
		{full, api.Account{ID: top}, 10},
	} {
		l := with(t, c.before, nil)
		does(t, l, makeAccounts, asked(c.event), codes(c.code))
		if c.code == 0 {
			has(t, l, append(slices.Clone(c.before), c.event), nil)
		} else {
			has(t, l, c.before, nil)
		}
	}
}

// TestEachFlags is P7.1: Flags above 1 are bad, each of them.
func TestEachFlags(t *testing.T) {
	for flags := range 256 {
		want := byte(3)
		if flags <= 1 {
			want = 0
		}
		does(t, ledger.New(), makeAccounts, asked(api.Account{ID: 5, Flags: flags}), codes(want))
	}
}

// sides: accounts whose sums are near their ends: 1 and 2 without Flags, 3 and 4 with 1, 5 and 6 with others.
func sides() []api.Account {
	return []api.Account{
		{ID: 1, Debits: top - 5},
		{ID: 2, Credits: top - 5},
		{ID: 3, Flags: 1, Debits: 10, Credits: 15},
		{ID: 4, Flags: 1, Debits: top - 5, Credits: top - 9},
		{ID: 5, Flags: 2},
		{ID: 6, Flags: 3},
		{ID: 7},
	}
}

// TestTransferCodes is P7.1: each code of transfers, its ends, and which of two is told.
func TestTransferCodes(t *testing.T) {
	there := []api.Transfer{{ID: 9, Debit: 8, Credit: 8}}
	for _, c := range []struct {
		event api.Transfer
		code  byte
	}{
		{api.Transfer{ID: 1, Debit: 7, Credit: 5, Amount: 1}, 0},
		{api.Transfer{ID: top, Debit: 7, Credit: 5, Amount: top}, 0},
		{api.Transfer{ID: 0, Debit: 7, Credit: 5, Amount: 1}, 1},
		{api.Transfer{ID: 0, Debit: 8, Credit: 8, Amount: 0}, 1},
		{api.Transfer{ID: 9, Debit: 7, Credit: 5, Amount: 1}, 2},
		{api.Transfer{ID: 9, Debit: 7, Credit: 7, Amount: 0}, 2},
		{api.Transfer{ID: 9, Debit: 8, Credit: 0, Amount: 0}, 2},
		{api.Transfer{ID: 1, Debit: 7, Credit: 7, Amount: 1}, 4},
		{api.Transfer{ID: 1, Debit: 8, Credit: 8, Amount: 1}, 4},
		{api.Transfer{ID: 1, Debit: 7, Credit: 7, Amount: 0}, 4},
		{api.Transfer{ID: 1, Debit: 4, Credit: 4, Amount: top}, 4},
		{api.Transfer{ID: 1, Debit: 8, Credit: 7, Amount: 1}, 5},
		{api.Transfer{ID: 1, Debit: 0, Credit: 7, Amount: 1}, 5},
		{api.Transfer{ID: 1, Debit: 8, Credit: 10, Amount: 0}, 5},
		{api.Transfer{ID: 1, Debit: 8, Credit: 2, Amount: top}, 5},
		{api.Transfer{ID: 1, Debit: 7, Credit: 8, Amount: 1}, 6},
		{api.Transfer{ID: 1, Debit: 7, Credit: 0, Amount: 0}, 6},
		{api.Transfer{ID: 1, Debit: 4, Credit: 8, Amount: top}, 6},
		{api.Transfer{ID: 1, Debit: 7, Credit: 5, Amount: 0}, 7},
		{api.Transfer{ID: 1, Debit: 4, Credit: 5, Amount: 0}, 7},
		{api.Transfer{ID: 1, Debit: 1, Credit: 7, Amount: 5}, 0},
		{api.Transfer{ID: 1, Debit: 1, Credit: 7, Amount: 6}, 8},
		{api.Transfer{ID: 1, Debit: 1, Credit: 7, Amount: top}, 8},
		{api.Transfer{ID: 1, Debit: 7, Credit: 2, Amount: 5}, 0},
		{api.Transfer{ID: 1, Debit: 7, Credit: 2, Amount: 6}, 8},
		{api.Transfer{ID: 1, Debit: 7, Credit: 2, Amount: top}, 8},
		{api.Transfer{ID: 1, Debit: 1, Credit: 2, Amount: 6}, 8},
		{api.Transfer{ID: 1, Debit: 2, Credit: 1, Amount: top}, 0},
		{api.Transfer{ID: 1, Debit: 4, Credit: 7, Amount: 6}, 8},
		{api.Transfer{ID: 1, Debit: 3, Credit: 2, Amount: 6}, 8},
		{api.Transfer{ID: 1, Debit: 3, Credit: 7, Amount: top - 10}, 9},
		{api.Transfer{ID: 1, Debit: 3, Credit: 7, Amount: top - 9}, 8},
		{api.Transfer{ID: 1, Debit: 3, Credit: 7, Amount: 5}, 0},
		{api.Transfer{ID: 1, Debit: 3, Credit: 7, Amount: 6}, 9},
		{api.Transfer{ID: 1, Debit: 4, Credit: 7, Amount: 5}, 9},
		{api.Transfer{ID: 1, Debit: 4, Credit: 7, Amount: 1}, 9},
		{api.Transfer{ID: 1, Debit: 7, Credit: 3, Amount: 99}, 0},
		{api.Transfer{ID: 1, Debit: 5, Credit: 7, Amount: 1}, 0},
		{api.Transfer{ID: 1, Debit: 6, Credit: 7, Amount: 1}, 0},
	} {
		l := with(t, sides(), there)
		does(t, l, makeTransfers, transfers(c.event), codes(c.code))
		accounts, moved := sides(), there
		if c.code == 0 {
			accounts[c.event.Debit-1].Debits += c.event.Amount
			accounts[c.event.Credit-1].Credits += c.event.Amount
			moved = append(slices.Clone(there), c.event)
		}
		has(t, l, accounts, moved)
	}
}

// TestRoom is P7.1: what becomes of what there is no room for, and that all else is told ahead of that.
func TestRoom(t *testing.T) {
	for _, c := range []struct {
		event api.Transfer
		code  byte
	}{
		{api.Transfer{ID: 99, Debit: 7, Credit: 5, Amount: 1}, 10},
		{api.Transfer{ID: 99, Debit: 3, Credit: 5, Amount: 5}, 10},
		{api.Transfer{ID: 99, Debit: 3, Credit: 5, Amount: 6}, 9},
		{api.Transfer{ID: 99, Debit: 1, Credit: 5, Amount: 6}, 8},
		{api.Transfer{ID: 99, Debit: 7, Credit: 5}, 7},
		{api.Transfer{ID: 99, Debit: 7, Credit: 8, Amount: 1}, 6},
		{api.Transfer{ID: 99, Debit: 8, Credit: 7, Amount: 1}, 5},
		{api.Transfer{ID: 99, Debit: 7, Credit: 7, Amount: 1}, 4},
		{api.Transfer{ID: 16, Debit: 7, Credit: 5, Amount: 1}, 2},
		{api.Transfer{ID: 0, Debit: 7, Credit: 5, Amount: 1}, 1},
	} {
		l := with(t, sides(), sixteen())
		does(t, l, makeTransfers, transfers(c.event), codes(c.code))
		has(t, l, sides(), sixteen())
	}
	l := with(t, sides(), sixteen()[:15])
	does(t, l, makeTransfers, transfers(api.Transfer{ID: 16, Debit: 7, Credit: 5, Amount: 1}, api.Transfer{ID: 17, Debit: 7, Credit: 5, Amount: 1}), codes(0, 10))
	if n := len(l.Transfers()); n != 16 {
		t.Error(n)
	}
}

// TestInOrder is P7.1: each of a list is done behind the ones ahead of it.
func TestInOrder(t *testing.T) {
	l := ledger.New()
	does(t, l, makeAccounts, asked(api.Account{ID: 3}, api.Account{ID: 1, Flags: 1}, api.Account{ID: 3, Flags: 1}, api.Account{ID: 2}), codes(0, 0, 2, 0))
	has(t, l, []api.Account{{ID: 3}, {ID: 1, Flags: 1}, {ID: 2}}, nil)
	first := api.Transfer{ID: 9, Debit: 1, Credit: 2, Amount: 4}
	second := api.Transfer{ID: 8, Debit: 3, Credit: 1, Amount: 4}
	does(t, l, makeTransfers, transfers(first, second, first, first), codes(9, 0, 0, 2))
	has(t, l, []api.Account{{ID: 3, Debits: 4}, {ID: 1, Flags: 1, Debits: 4, Credits: 4}, {ID: 2, Credits: 4}}, []api.Transfer{second, first})
}

// TestGrows is P7.1 and P7.2: a ledger by lists of all lengths, up to where no room is left.
func TestGrows(t *testing.T) {
	for n := 1; n <= 4; n++ {
		l := ledger.New()
		for from := uint64(1); from < 12; from += uint64(n) {
			var events []api.Account
			var want []byte
			for id := from; id < from+uint64(n); id++ {
				events = append(events, api.Account{ID: id})
				want = append(want, roomCode(id, 8))
			}
			does(t, l, makeAccounts, asked(events...), codes(want...))
		}
		has(t, l, eight(), nil)
		for from := uint64(1); from < 20; from += uint64(n) {
			var events []api.Transfer
			var want []byte
			for id := from; id < from+uint64(n); id++ {
				events = append(events, api.Transfer{ID: id, Debit: 1, Credit: 2, Amount: 1})
				want = append(want, roomCode(id, 16))
			}
			does(t, l, makeTransfers, transfers(events...), codes(want...))
		}
		accounts := eight()
		accounts[0].Debits, accounts[1].Credits = 16, 16
		has(t, l, accounts, sixteen())
	}
}

// roomCode: the code of the one of that number, where so many have room.
func roomCode(number, room uint64) byte {
	if number > room {
		return 10
	}
	return 0
}

// TestFind is P7.1: what is found, and what isn't, at each place of lists of all lengths.
func TestFind(t *testing.T) {
	l := with(t, sides(), sixteen())
	for n := 1; n <= 4; n++ {
		for from := range uint64(20) {
			var ids []uint64
			accounts, moved := "\x00", "\x00"
			for id := from; id < from+3*uint64(n); id += 3 {
				ids = append(ids, id)
				accounts += found(id, 7, func(i uint64) string { return whole(sides()[i]) })
				moved += found(id, 16, func(i uint64) string { return transfers(sixteen()[i]) })
			}
			does(t, l, findAccounts, little(ids...), accounts)
			does(t, l, findTransfers, little(ids...), moved)
		}
	}
	does(t, l, findAccounts, little(2, 2, 2, 2), "\x00"+strings.Repeat("\x01"+whole(sides()[1]), 4))
	does(t, l, findAccounts, little(top, 1<<56, 1<<32+1, 257), codes(0, 0, 0, 0))
	does(t, l, findTransfers, little(top, 1<<56, 1<<32+1, 257), codes(0, 0, 0, 0))
	has(t, l, sides(), sixteen())
}

// found: what is told of an id, where 1 to most have one.
func found(id, most uint64, spelt func(uint64) string) string {
	if id == 0 || id > most {
		return "\x00"
	}
	return "\x01" + spelt(id-1)
}

// TestFindMade is P7.1: what was done is found, with the sums that it has then.
func TestFindMade(t *testing.T) {
	l := ledger.New()
	does(t, l, makeAccounts, asked(api.Account{ID: 1}, api.Account{ID: 2, Flags: 1}), codes(0, 0))
	var paid uint64
	for id := uint64(1); id <= 16; id++ {
		one := api.Transfer{ID: id, Debit: 1, Credit: 2, Amount: id << (2 * id)}
		paid += one.Amount
		does(t, l, makeTransfers, transfers(one), codes(0))
		does(t, l, findTransfers, little(id, id+1), "\x00\x01"+transfers(one)+"\x00")
		does(t, l, findAccounts, little(1, 2), "\x00\x01"+whole(api.Account{ID: 1, Debits: paid})+"\x01"+whole(api.Account{ID: 2, Flags: 1, Credits: paid}))
	}
}

// TestRefused is P7.1: bodies that are no such list, of all lengths, and other operations: nothing is done.
func TestRefused(t *testing.T) {
	sizes := map[int]int{makeAccounts: 9, makeTransfers: 32, findAccounts: 8, findTransfers: 8}
	for operation, size := range sizes {
		l := with(t, sides(), sixteen()[:3])
		for n := range 12 * size {
			if n == 0 || n%size != 0 || n/size > 4 {
				does(t, l, operation, strings.Repeat("\x21", n), refused)
			}
		}
		for _, n := range []int{256, 257, 1 << 16, 1 << 20} {
			does(t, l, operation, strings.Repeat("\x21", n*size), refused)
			does(t, l, operation, strings.Repeat("\x21", n*size+1), refused)
		}
		has(t, l, sides(), sixteen()[:3])
	}
}

// TestOperations is P7.1: each other operation, with bodies that are lists.
func TestOperations(t *testing.T) {
	l := with(t, sides(), nil)
	bodies := []string{"", asked(api.Account{ID: 70}), transfers(api.Transfer{ID: 70, Debit: 7, Credit: 5, Amount: 1}), little(1)}
	others := []int{math.MinInt, -1 << 32, -256, -5, -4, -3, -2, -1, 0, 1, 6, 7, 8, 9, 16, 255, 256, 258, 259, 260, 261, 1 << 32, 1<<32 + 2, 1<<32 + 3, math.MaxInt}
	for _, operation := range others {
		for _, body := range bodies {
			does(t, l, operation, body, refused)
		}
	}
	has(t, l, sides(), nil)
}

// TestWrongAtTheEnd is P7.1: a list whose last one lacks a byte is none, and none of it is done.
func TestWrongAtTheEnd(t *testing.T) {
	l := with(t, sides(), nil)
	accounts := asked(api.Account{ID: 70}, api.Account{ID: 71})
	moved := transfers(api.Transfer{ID: 1, Debit: 7, Credit: 5, Amount: 1}, api.Transfer{ID: 2, Debit: 7, Credit: 5, Amount: 1})
	does(t, l, makeAccounts, accounts[:17], refused)
	does(t, l, makeAccounts, accounts+"\x00", refused)
	does(t, l, makeTransfers, moved[:63], refused)
	does(t, l, makeTransfers, moved+"\x00", refused)
	has(t, l, sides(), nil)
}

// TestUnpack is P7.2: the ledger whose bytes they are, of all numbers of accounts and transfers.
func TestUnpack(t *testing.T) {
	r := rand.New(rand.NewSource(1))
	for n := range 9 {
		for m := range 17 {
			accounts, moved := anyAccounts(r, n), anyTransfers(r, m)
			has(t, with(t, accounts, moved), accounts, moved)
		}
	}
	for flags := range 256 {
		accounts := []api.Account{{ID: 1, Flags: flags, Debits: top, Credits: top}}
		has(t, with(t, accounts, nil), accounts, nil)
	}
}

// anyAccounts: so many, of all numbers.
func anyAccounts(r *rand.Rand, n int) []api.Account {
	var l []api.Account
	for range n {
		l = append(l, api.Account{ID: r.Uint64(), Flags: r.Intn(256), Debits: r.Uint64(), Credits: r.Uint64()})
	}
	return l
}

// anyTransfers: so many, of all numbers.
func anyTransfers(r *rand.Rand, n int) []api.Transfer {
	var l []api.Transfer
	for range n {
		l = append(l, api.Transfer{ID: r.Uint64(), Debit: r.Uint64(), Credit: r.Uint64(), Amount: r.Uint64()})
	}
	return l
}

// isForm tells that bytes are a ledger's that should be none's.
func isForm(t *testing.T, s string) {
	t.Helper()
	if l, e := ledger.Unpack(s); l != nil || e != api.ErrForm {
		t.Errorf("Unpack of %d bytes %.60x: %v %d", len(s), s, l, e)
	}
}

// TestUnpackNone is P7.2: bytes that lack some, or have some more, or too many accounts or transfers.
func TestUnpackNone(t *testing.T) {
	for _, n := range []int{0, 1, 2, 7, 8} {
		for _, m := range []int{0, 1, 2, 15, 16} {
			s := packed(append(eight(), eight()...)[:n], sixteen()[:m])
			for i := range s {
				isForm(t, s[:i])
			}
			for _, more := range []string{"\x00", "\x01", strings.Repeat("\x00", 25), strings.Repeat("\x00", 32), s} {
				isForm(t, s+more)
			}
		}
	}
	for n := 9; n < 256; n++ {
		isForm(t, packed(make([]api.Account, n), nil))
		isForm(t, packed(make([]api.Account, n), sixteen()))
	}
	for m := 17; m < 256; m++ {
		isForm(t, packed(nil, make([]api.Transfer, m)))
		isForm(t, packed(eight(), make([]api.Transfer, m)))
	}
	isForm(t, strings.Repeat("\x01", 1<<20))
}

// TestUnpackAny is P7.2: bytes are a ledger's just if they are so many as their two numbers say.
func TestUnpackAny(t *testing.T) {
	r := rand.New(rand.NewSource(2))
	for range 20000 {
		b := make([]byte, r.Intn(800))
		r.Read(b)
		if len(b) > 0 {
			b[0] %= 11
			if at := 1 + 25*int(b[0]); at < len(b) {
				b[at] = byte(max(0, (len(b)-at-1)/32))
			}
		}
		l, e := ledger.Unpack(string(b))
		if mayBe(b) && (e != api.OK || l.Pack() != string(b)) {
			t.Errorf("Unpack(%x): %d", b, e)
		} else if !mayBe(b) && (e != api.ErrForm || l != nil) {
			t.Errorf("Unpack(%x): %v %d", b, l, e)
		}
	}
}

// mayBe: are bytes a ledger's?
func mayBe(b []byte) bool {
	if len(b) == 0 || b[0] > 8 {
		return false
	}
	at := 1 + 25*int(b[0])
	return at < len(b) && b[at] <= 16 && len(b) == at+1+32*int(b[at])
}

// TestFirst is P7.2: of two with one id the first one is told, and meant.
func TestFirst(t *testing.T) {
	accounts := []api.Account{{ID: 1}, {ID: 2, Flags: 1, Credits: 9}, {ID: 2, Credits: top}, {ID: 1, Flags: 1}, {ID: 0, Debits: 3}, {ID: 0}}
	moved := []api.Transfer{{ID: 5, Amount: 1}, {ID: 5, Amount: 2}, {ID: 0, Amount: 3}, {ID: 0, Amount: 4}}
	l := with(t, accounts, moved)
	does(t, l, findAccounts, little(1, 2, 0), "\x00\x01"+whole(accounts[0])+"\x01"+whole(accounts[1])+"\x01"+whole(accounts[4]))
	does(t, l, findTransfers, little(0, 5), "\x00\x01"+transfers(moved[2])+"\x01"+transfers(moved[0]))
	one := api.Transfer{ID: 6, Debit: 2, Credit: 1, Amount: 9}
	two := api.Transfer{ID: 7, Debit: 1, Credit: 0, Amount: 4}
	three := api.Transfer{ID: 8, Debit: 2, Credit: 1, Amount: 1}
	does(t, l, makeTransfers, transfers(one, two, three), codes(0, 0, 9))
	accounts[1].Debits, accounts[0].Credits = 9, 9
	accounts[0].Debits, accounts[4].Credits = 4, 4
	has(t, l, accounts, append(moved, one, two))
}

// allCodes: all of the chapter's words that hold of a transfer, in their order.
func allCodes(accounts []api.Account, moved []api.Transfer, one api.Transfer) []byte {
	debit := slices.IndexFunc(accounts, func(a api.Account) bool { return a.ID == one.Debit })
	credit := slices.IndexFunc(accounts, func(a api.Account) bool { return a.ID == one.Credit })
	var debits, debitCredits, credits uint64
	covered := false
	if debit >= 0 {
		debits, debitCredits, covered = accounts[debit].Debits, accounts[debit].Credits, accounts[debit].Flags == 1
	}
	if credit >= 0 {
		credits = accounts[credit].Credits
	}
	var l []byte
	for _, rule := range []struct {
		holds bool
		code  byte
	}{
		{one.ID == 0, 1},
		{slices.ContainsFunc(moved, func(o api.Transfer) bool { return o.ID == one.ID }), 2},
		{one.Debit == one.Credit, 4},
		{debit < 0, 5},
		{credit < 0, 6},
		{one.Amount == 0, 7},
		{debit >= 0 && above(debits, one.Amount, top) || credit >= 0 && above(credits, one.Amount, top), 8},
		{covered && above(debits, one.Amount, debitCredits), 9},
		{len(moved) >= 16, 10},
	} {
		if rule.holds {
			l = append(l, rule.code)
		}
	}
	return l
}

// above: are two numbers together above a third?
func above(a, b, c uint64) bool {
	sum := new(big.Int).SetUint64(a)
	sum.Add(sum, new(big.Int).SetUint64(b))
	return sum.Cmp(new(big.Int).SetUint64(c)) > 0
}

// pick: one of some.
func pick(r *rand.Rand, l ...uint64) uint64 {
	return l[r.Intn(len(l))]
}

// near: accounts and transfers, as many as come, of few ids and of sums at their ends.
func near(r *rand.Rand) ([]api.Account, []api.Transfer) {
	accounts := anyAccounts(r, r.Intn(9))
	for i := range accounts {
		accounts[i] = api.Account{ID: uint64(r.Intn(4)), Flags: r.Intn(3), Debits: pick(r, 0, 1, 2, top-1, top), Credits: pick(r, 0, 1, 2, top-1, top)}
	}
	moved := anyTransfers(r, int(pick(r, 0, 1, 2, 15, 16, 16)))
	for i := range moved {
		moved[i].ID = pick(r, 0, 4, 5, 6, 7, 8)
	}
	return accounts, moved
}

// TestFirstCode is P7.1: the first of the codes that hold is told, however many and whichever do.
func TestFirstCode(t *testing.T) {
	r := rand.New(rand.NewSource(3))
	seen := map[[2]byte]bool{}
	for range 100000 {
		accounts, moved := near(r)
		one := api.Transfer{ID: pick(r, 0, 1, 2, 3, 4, 5), Debit: uint64(r.Intn(5)), Credit: uint64(r.Intn(5)), Amount: pick(r, 0, 1, 2, top-1, top)}
		all := append(allCodes(accounts, moved, one), 0)
		for _, other := range all[1:] {
			seen[[2]byte{all[0], other}] = true
		}
		l := with(t, accounts, moved)
		does(t, l, makeTransfers, transfers(one), codes(all[0]))
		if all[0] == 0 {
			seen[[2]byte{}] = true
			i := slices.IndexFunc(accounts, func(a api.Account) bool { return a.ID == one.Debit })
			j := slices.IndexFunc(accounts, func(a api.Account) bool { return a.ID == one.Credit })
			accounts[i].Debits += one.Amount
			accounts[j].Credits += one.Amount
			moved = append(moved, one)
		}
		has(t, l, accounts, moved)
	}
	order := []byte{1, 2, 4, 5, 6, 7, 8, 9, 10, 0}
	for i, first := range order {
		for _, other := range order[i+1:] {
			// An amount of 0 is too much for nobody's sum; nobody who isn't there has Flags.
			never := first == 7 && other == 8 || first == 5 && other == 9
			if seen[[2]byte{first, other}] == never {
				t.Errorf("%d beside %d came: %v", first, other, !never)
			}
		}
	}
	if !seen[[2]byte{}] {
		t.Error("none was done")
	}
}

// some: a body of a few events, most of which may be done.
func some(r *rand.Rand) (int, string) {
	operation, n := 2+r.Intn(4), 1+r.Intn(4)
	s := ""
	for range n {
		switch operation {
		case makeAccounts:
			s += asked(api.Account{ID: uint64(r.Intn(10)), Flags: r.Intn(5) % 3})
		case makeTransfers:
			s += transfers(api.Transfer{ID: uint64(r.Intn(40)), Debit: uint64(r.Intn(10)), Credit: uint64(r.Intn(10)), Amount: pick(r, 0, 1, 2, 3, 1<<62, 1<<63, top)})
		default:
			s += little(uint64(r.Intn(40)))
		}
	}
	return operation, s
}

// total: what amounts are together.
func total(l []api.Transfer, counts func(api.Transfer) bool) *big.Int {
	sum := new(big.Int)
	for _, one := range l {
		if counts(one) {
			sum.Add(sum, new(big.Int).SetUint64(one.Amount))
		}
	}
	return sum
}

// isEven is P7.3, of a ledger.
func isEven(t *testing.T, l *ledger.Ledger) {
	t.Helper()
	debits, credits := new(big.Int), new(big.Int)
	for _, a := range l.Accounts() {
		debit, credit := new(big.Int).SetUint64(a.Debits), new(big.Int).SetUint64(a.Credits)
		debits.Add(debits, debit)
		credits.Add(credits, credit)
		if total(l.Transfers(), func(o api.Transfer) bool { return o.Debit == a.ID }).Cmp(debit) != 0 {
			t.Errorf("the debits of %v are not what debits it", a)
		}
		if total(l.Transfers(), func(o api.Transfer) bool { return o.Credit == a.ID }).Cmp(credit) != 0 {
			t.Errorf("the credits of %v are not what credits it", a)
		}
		if a.Flags == 1 && a.Debits > a.Credits {
			t.Errorf("the debits of %v are above its credits", a)
		}
	}
	if debits.Cmp(credits) != 0 {
		t.Errorf("debits of %v, credits of %v", debits, credits)
	}
}

// TestEven is P7.3: whatever is done, sums are even; and P7.2: a ledger that was packed goes on as it would have.
func TestEven(t *testing.T) {
	r := rand.New(rand.NewSource(4))
	most := 0
	for range 100 {
		l := ledger.New()
		for range 200 {
			again, e := ledger.Unpack(l.Pack())
			if e != api.OK {
				t.Fatal(e)
			}
			operation, body := some(r)
			does(t, again, operation, body, l.Do(operation, body))
			has(t, again, l.Accounts(), l.Transfers())
			isEven(t, l)
		}
		most = max(most, len(l.Transfers()))
	}
	if most != 16 {
		t.Errorf("at most %d transfers came", most)
	}
}

// TestApart is the rules: no answers share memory, with each other or with the ledger, and what is handed in is neither changed nor kept.
func TestApart(t *testing.T) {
	bytes := []byte(packed(sides(), sixteen()[:3]))
	before := string(bytes)
	text := unsafe.String(&bytes[0], len(bytes))
	l, _ := ledger.Unpack(text)
	other, _ := ledger.Unpack(text)
	if string(bytes) != before {
		t.Error("what was handed in was changed")
	}
	clear(bytes)
	has(t, l, sides(), sixteen()[:3])
	accounts, moved := l.Accounts(), l.Transfers()
	clear(accounts[:cap(accounts)])
	clear(moved[:cap(moved)])
	has(t, l, sides(), sixteen()[:3])
	does(t, other, makeTransfers, transfers(api.Transfer{ID: 99, Debit: 7, Credit: 5, Amount: 1}), codes(0))
	has(t, l, sides(), sixteen()[:3])
}

// TestOld is the rules: what was answered stays as it was, whatever is done behind it, and the other way about.
func TestOld(t *testing.T) {
	l := with(t, eight()[:3], sixteen()[:3])
	accounts, moved := l.Accounts(), l.Transfers()
	pack := l.Pack()
	does(t, l, makeAccounts, asked(api.Account{ID: 9}), codes(0))
	does(t, l, makeTransfers, transfers(api.Transfer{ID: 9, Debit: 1, Credit: 2, Amount: 3}), codes(0))
	if !slices.Equal(accounts, eight()[:3]) || !slices.Equal(moved, sixteen()[:3]) || pack != packed(eight()[:3], sixteen()[:3]) {
		t.Error("an answer was changed behind it")
	}
	accounts = append(l.Accounts(), api.Account{ID: 77})
	moved = append(l.Transfers(), api.Transfer{ID: 77})
	does(t, l, makeAccounts, asked(api.Account{ID: 10}), codes(0))
	does(t, l, makeTransfers, transfers(api.Transfer{ID: 10, Debit: 1, Credit: 2, Amount: 3}), codes(0))
	if accounts[4].ID != 77 || moved[4].ID != 77 {
		t.Error("an answer's spare room is the ledger's")
	}
}

// TestBodies is the rules: a body is neither changed nor kept.
func TestBodies(t *testing.T) {
	l := ledger.New()
	one := api.Transfer{ID: 1, Debit: 1, Credit: 2, Amount: 7}
	for _, c := range []struct {
		operation int
		body      string
	}{
		{makeAccounts, asked(eight()[:4]...)},
		{makeTransfers, transfers(one)},
		{findAccounts, little(1, 2)},
		{findTransfers, little(1, 2)},
	} {
		bytes := []byte(c.body)
		answer := l.Do(c.operation, unsafe.String(&bytes[0], len(bytes)))
		before := strings.Clone(answer)
		if string(bytes) != c.body {
			t.Error("what was handed in was changed")
		}
		clear(bytes)
		if answer != before {
			t.Error("an answer shares memory with a body")
		}
	}
	accounts := eight()[:4]
	accounts[0].Debits, accounts[1].Credits = 7, 7
	has(t, l, accounts, []api.Transfer{one})
}

// TestTwo is the rule that what a ledger answers hangs on what it was told alone: two of them know nothing of each other.
func TestTwo(t *testing.T) {
	one, two := ledger.New(), ledger.New()
	does(t, one, makeAccounts, asked(eight()[:4]...), codes(0, 0, 0, 0))
	has(t, two, nil, nil)
	does(t, two, makeAccounts, asked(api.Account{ID: 1, Flags: 1}), codes(0))
	has(t, one, eight()[:4], nil)
	has(t, two, []api.Account{{ID: 1, Flags: 1}}, nil)
	has(t, ledger.New(), nil, nil)
}
