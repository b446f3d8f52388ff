package event_test

import (
	"encoding/binary"
	"math"
	"math/rand"
	"slices"
	"strings"
	"testing"
	"unsafe"

	"comptor/api"
	"comptor/event"
)

const (
	most         = 4 // of a list
	askedSize    = 9
	transferSize = 32
	idSize       = 8
	wholeSize    = 25
)

// kind: one kind of list, its calls beside the chapter's words on it.
type kind[T comparable] struct {
	name  string
	size  int
	put   func([]T) (string, api.Errno)
	take  func(string) ([]T, bool)
	spelt func(T) string // one's bytes
	told  func(T) T      // what is left of one in its bytes
	some  []T            // that may be, of all sorts
}

func asked() kind[api.Account] {
	return kind[api.Account]{
		"accounts", askedSize, event.PutAccounts, event.Accounts,
		speltAsked,
		func(a api.Account) api.Account { return api.Account{ID: a.ID, Flags: a.Flags} },
		accounts(),
	}
}

func transfers() kind[api.Transfer] {
	var l []api.Transfer
	for _, n := range numbers() {
		l = append(l, api.Transfer{ID: n}, api.Transfer{Debit: n}, api.Transfer{Credit: n}, api.Transfer{Amount: n}, api.Transfer{ID: n, Debit: n, Credit: n, Amount: n})
	}
	r := rand.New(rand.NewSource(2))
	for range 50 {
		l = append(l, api.Transfer{ID: r.Uint64(), Debit: r.Uint64(), Credit: r.Uint64(), Amount: r.Uint64()})
	}
	return kind[api.Transfer]{
		"transfers", transferSize, event.PutTransfers, event.Transfers,
		func(t api.Transfer) string { return little(t.ID, t.Debit, t.Credit, t.Amount) },
		func(t api.Transfer) api.Transfer { return t },
		l,
	}
}

func ids() kind[uint64] {
	return kind[uint64]{
		"ids", idSize, event.PutIDs, event.IDs,
		func(id uint64) string { return little(id) },
		func(id uint64) uint64 { return id },
		numbers(),
	}
}

// little: numbers by the library, the lowest byte first.
func little(l ...uint64) string {
	var b []byte
	for _, n := range l {
		b = binary.LittleEndian.AppendUint64(b, n)
	}
	return string(b)
}

// speltAsked is the chapter's words on an account that is asked for.
func speltAsked(a api.Account) string {
	return little(a.ID) + string([]byte{byte(a.Flags)})
}

// speltWhole is the chapter's words on a whole account.
func speltWhole(a api.Account) string {
	return speltAsked(a) + little(a.Debits, a.Credits)
}

// numbers: the ends of each width, and some whose bytes all differ.
func numbers() []uint64 {
	l := []uint64{0, 1, 0x0102030405060708, 0xf1e2d3c4b5a69788}
	for size := 1; size < 8; size++ {
		l = append(l, 1<<(8*size)-1, 1<<(8*size))
	}
	return append(l, 1<<63-1, 1<<63, math.MaxUint64-1, math.MaxUint64)
}

// accounts: some that may be, with sums of all sorts.
func accounts() []api.Account {
	var l []api.Account
	for _, n := range numbers() {
		l = append(l, api.Account{ID: n}, api.Account{Debits: n}, api.Account{Credits: n}, api.Account{ID: n, Flags: 1, Debits: n, Credits: ^n})
	}
	r := rand.New(rand.NewSource(1))
	for flags := range 256 {
		l = append(l, api.Account{Flags: flags}, api.Account{ID: r.Uint64(), Flags: flags, Debits: r.Uint64(), Credits: r.Uint64()})
	}
	return l
}

// wrongFlags: none of them is 0 to 255; by some, a byte or more go round to what may be.
func wrongFlags() []int {
	return []int{math.MinInt, math.MinInt + 1, -1 << 32, -1<<8 + 1, -257, -256, -255, -2, -1, 256, 257, 511, 512, 1 << 16, 1 << 32, 1<<32 + 1, 1 << 56, math.MaxInt - 1, math.MaxInt}
}

// lists: of each length that may be, each of some at each place.
func (k kind[T]) lists() [][]T {
	var l [][]T
	for n := 1; n <= most; n++ {
		for i := range k.some {
			var one []T
			for j := range n {
				one = append(one, k.some[(i+7*j)%len(k.some)])
			}
			l = append(l, one)
		}
		l = append(l, slices.Repeat(k.some[:1], n), slices.Repeat(k.some[len(k.some)-1:], n))
	}
	return l
}

// whole: a list's bytes by the chapter's words.
func (k kind[T]) whole(l []T) string {
	s := ""
	for _, one := range l {
		s += k.spelt(one)
	}
	return s
}

// left: what is left of a list in its bytes.
func (k kind[T]) left(l []T) []T {
	var m []T
	for _, one := range l {
		m = append(m, k.told(one))
	}
	return m
}

// isRefused tells that a list has bytes that may have none.
func (k kind[T]) isRefused(t *testing.T, l []T) {
	t.Helper()
	if s, e := k.put(l); s != "" || e != api.ErrArg {
		t.Errorf("%s %v: %x %d", k.name, l, s, e)
	}
}

// isTaken tells that bytes have another list.
func (k kind[T]) isTaken(t *testing.T, s string, want []T) {
	t.Helper()
	if l, ok := k.take(s); !slices.Equal(l, want) || !ok {
		t.Errorf("%s of %x: %v %v, not %v", k.name, s, l, ok, want)
	}
}

// isNone tells that bytes have a list that should have none.
func (k kind[T]) isNone(t *testing.T, s string) {
	t.Helper()
	if l, ok := k.take(s); len(l) != 0 || ok {
		t.Errorf("%s of %d bytes %.100x: %v %v", k.name, len(s), s, l, ok)
	}
}

// puts is P6.1: each list's bytes, one behind the other, in order.
func (k kind[T]) puts(t *testing.T) {
	for _, l := range k.lists() {
		if s, e := k.put(l); s != k.whole(l) || e != api.OK {
			t.Errorf("%s %v: %x %d, not %x", k.name, l, s, e, k.whole(l))
		}
	}
}

// putsNone is P6.1: no list, and more than four.
func (k kind[T]) putsNone(t *testing.T) {
	k.isRefused(t, nil)
	k.isRefused(t, []T{})
	k.isRefused(t, make([]T, 0, 3))
	for _, n := range []int{5, 6, 7, 8, 255, 256, 257, 260, 1 << 16, 1<<16 + 1} {
		k.isRefused(t, make([]T, n))
		k.isRefused(t, slices.Repeat(k.some[1:2], n))
	}
}

// takes is P6.1: the list whose bytes they are, whoever laid them.
func (k kind[T]) takes(t *testing.T) {
	for _, l := range k.lists() {
		k.isTaken(t, k.whole(l), k.left(l))
		if s, _ := k.put(l); s != "" {
			k.isTaken(t, s, k.left(l))
		}
	}
}

// takesAny is P6.1: any bytes are a list's, if they are just as many as one's of one to four, and else none's.
func (k kind[T]) takesAny(t *testing.T) {
	r := rand.New(rand.NewSource(3))
	for n := range 12 * k.size {
		b := make([]byte, n)
		for range 5 {
			if n == 0 || n%k.size != 0 || n/k.size > most {
				k.isNone(t, string(b))
			} else if l, ok := k.take(string(b)); !ok || len(l) != n/k.size || k.whole(l) != string(b) {
				t.Errorf("%s of %x: %v %v", k.name, b, l, ok)
			}
			r.Read(b)
		}
	}
	for _, n := range []int{255, 256, 257, 1 << 16, 1<<16 + 1, 1 << 20} {
		k.isNone(t, strings.Repeat("\x01", n*k.size))
		k.isNone(t, strings.Repeat("\x01", n*k.size+1))
	}
}

// apart is the rules: nothing that is handed in is changed or kept, the room behind it neither, and no answers share memory.
func (k kind[T]) apart(t *testing.T) {
	for n := 1; n <= most; n++ {
		all := slices.Clone(k.some[len(k.some)-most-2:])
		before := slices.Clone(all)
		want := k.whole(all[:n])
		one, _ := k.put(all[:n])
		two, _ := k.put(all[:n])
		if !slices.Equal(all, before) {
			t.Errorf("%s: what was handed in was changed", k.name)
		}
		clear(all)
		if one != want || two != want || unsafe.StringData(one) == unsafe.StringData(two) {
			t.Errorf("%s: an answer of bytes shares memory", k.name)
		}
		bytes := []byte(want)
		text := unsafe.String(&bytes[0], len(bytes))
		l, _ := k.take(text)
		m, _ := k.take(text)
		if string(bytes) != want {
			t.Errorf("%s: what was handed in was changed", k.name)
		}
		clear(bytes)
		clear(l[:cap(l)])
		if !slices.Equal(m, k.left(before[:n])) {
			t.Errorf("%s: an answer shares memory", k.name)
		}
	}
}

// again is the rule that an answer hangs on what is handed in alone.
func (k kind[T]) again(t *testing.T) {
	want := k.some[:3]
	for _, l := range k.lists() {
		k.put(l)
		k.put(nil)
		k.take(k.whole(l))
		k.take("x")
		if s, e := k.put(want); s != k.whole(want) || e != api.OK {
			t.Errorf("%s: %x %d", k.name, s, e)
		}
		k.isTaken(t, k.whole(want), k.left(want))
	}
}

// TestExamples is the chapter's.
func TestExamples(t *testing.T) {
	s, e := event.PutIDs([]uint64{1, 258})
	if s != "\x01\x00\x00\x00\x00\x00\x00\x00\x02\x01\x00\x00\x00\x00\x00\x00" || e != api.OK {
		t.Errorf("%x %d", s, e)
	}
	asked().isNone(t, "")
	asked().isNone(t, "0123456789")
}

// TestKnown is P6.1 and P6.2 by bytes that were written out by hand.
func TestKnown(t *testing.T) {
	one := api.Account{ID: 0x0807060504030201, Flags: 9, Debits: 0x1716151413121110, Credits: 0x1f1e1d1c1b1a1918}
	if s, e := event.PutAccounts([]api.Account{one, {Flags: 255}}); s != "\x01\x02\x03\x04\x05\x06\x07\x08\x09\x00\x00\x00\x00\x00\x00\x00\x00\xff" || e != api.OK {
		t.Errorf("%x %d", s, e)
	}
	if s, e := event.PutWhole(one); s != "\x01\x02\x03\x04\x05\x06\x07\x08\x09\x10\x11\x12\x13\x14\x15\x16\x17\x18\x19\x1a\x1b\x1c\x1d\x1e\x1f" || e != api.OK {
		t.Errorf("%x %d", s, e)
	}
	transfer := api.Transfer{ID: 0x0706050403020100, Debit: 0x0f0e0d0c0b0a0908, Credit: 0x1716151413121110, Amount: 0x1f1e1d1c1b1a1918}
	bytes := "\x00\x01\x02\x03\x04\x05\x06\x07\x08\x09\x0a\x0b\x0c\x0d\x0e\x0f\x10\x11\x12\x13\x14\x15\x16\x17\x18\x19\x1a\x1b\x1c\x1d\x1e\x1f"
	if s, e := event.PutTransfers([]api.Transfer{transfer}); s != bytes || e != api.OK {
		t.Errorf("%x %d", s, e)
	}
	transfers().isTaken(t, bytes, []api.Transfer{transfer})
	ids().isTaken(t, bytes, []uint64{0x0706050403020100, 0x0f0e0d0c0b0a0908, 0x1716151413121110, 0x1f1e1d1c1b1a1918})
	asked().isTaken(t, bytes[:18], []api.Account{{ID: 0x0706050403020100, Flags: 8}, {ID: 0x100f0e0d0c0b0a09, Flags: 17}})
	if a, ok := event.Whole(bytes[:25]); a != (api.Account{ID: 0x0706050403020100, Flags: 8, Debits: 0x100f0e0d0c0b0a09, Credits: 0x1817161514131211}) || !ok {
		t.Errorf("%v %v", a, ok)
	}
}

// TestPut is P6.1: the list's bytes.
func TestPut(t *testing.T) {
	asked().puts(t)
	transfers().puts(t)
	ids().puts(t)
}

// TestPutNone is P6.1: lists that have none, or too many.
func TestPutNone(t *testing.T) {
	asked().putsNone(t)
	transfers().putsNone(t)
	ids().putsNone(t)
}

// TestPutFlags is P6.1: Flags that may not be, at each place of each list.
func TestPutFlags(t *testing.T) {
	for n := 1; n <= most+2; n++ {
		for at := range n {
			for _, flags := range wrongFlags() {
				l := slices.Clone(accounts()[:n])
				l[at].Flags = flags
				asked().isRefused(t, l)
			}
		}
	}
}

// TestPutSums is P6.1: the sums of accounts that are asked for play no part.
func TestPutSums(t *testing.T) {
	want, _ := event.PutAccounts([]api.Account{{ID: 3, Flags: 1}})
	for _, debits := range numbers() {
		for _, credits := range numbers() {
			if s, e := event.PutAccounts([]api.Account{{ID: 3, Flags: 1, Debits: debits, Credits: credits}}); s != want || e != api.OK {
				t.Errorf("sums of %d and %d: %x %d", debits, credits, s, e)
			}
		}
	}
}

// TestTake is P6.1: the list whose bytes they are.
func TestTake(t *testing.T) {
	asked().takes(t)
	transfers().takes(t)
	ids().takes(t)
}

// TestTakeAny is P6.1: bytes of all lengths.
func TestTakeAny(t *testing.T) {
	asked().takesAny(t)
	transfers().takesAny(t)
	ids().takesAny(t)
}

// TestPutWhole is P6.2: a whole account's bytes.
func TestPutWhole(t *testing.T) {
	for _, a := range accounts() {
		if s, e := event.PutWhole(a); s != speltWhole(a) || e != api.OK {
			t.Errorf("PutWhole(%v): %x %d, not %x", a, s, e, speltWhole(a))
		}
		for _, flags := range wrongFlags() {
			a.Flags = flags
			if s, e := event.PutWhole(a); s != "" || e != api.ErrArg {
				t.Errorf("PutWhole(%v): %x %d", a, s, e)
			}
		}
	}
}

// TestWhole is P6.2: the account whose bytes they are, whoever laid them.
func TestWhole(t *testing.T) {
	for _, a := range accounts() {
		if b, ok := event.Whole(speltWhole(a)); b != a || !ok {
			t.Errorf("Whole(%x): %v %v, not %v", speltWhole(a), b, ok, a)
		}
		s, _ := event.PutWhole(a)
		if b, ok := event.Whole(s); b != a || !ok {
			t.Errorf("Whole(%x): %v %v, not %v", s, b, ok, a)
		}
	}
}

// TestWholeAny is P6.2: any bytes are an account's, if they are just so many, and else none's.
func TestWholeAny(t *testing.T) {
	r := rand.New(rand.NewSource(4))
	for n := range 300 {
		b := make([]byte, n)
		for range 20 {
			a, ok := event.Whole(string(b))
			if n != wholeSize && (ok || a != (api.Account{})) {
				t.Errorf("Whole(%x): %v %v", b, a, ok)
			}
			if n == wholeSize && (!ok || speltWhole(a) != string(b)) {
				t.Errorf("Whole(%x): %v %v", b, a, ok)
			}
			r.Read(b)
		}
	}
	if a, ok := event.Whole(strings.Repeat("\x01", 1<<20)); ok || a != (api.Account{}) {
		t.Error(a, ok)
	}
}

// TestApart is the rules about memory.
func TestApart(t *testing.T) {
	asked().apart(t)
	transfers().apart(t)
	ids().apart(t)
	a := api.Account{ID: 1, Flags: 2, Debits: 3, Credits: 4}
	one, _ := event.PutWhole(a)
	two, _ := event.PutWhole(a)
	if one != two || unsafe.StringData(one) == unsafe.StringData(two) {
		t.Error("an answer of PutWhole shares memory")
	}
	bytes := []byte(one)
	got, _ := event.Whole(unsafe.String(&bytes[0], len(bytes)))
	if string(bytes) != one {
		t.Error("what was handed in was changed")
	}
	clear(bytes)
	if got != a {
		t.Error("an answer of Whole shares memory")
	}
}

// TestAgain is the rule that an answer hangs on what is handed in alone.
func TestAgain(t *testing.T) {
	asked().again(t)
	transfers().again(t)
	ids().again(t)
}
