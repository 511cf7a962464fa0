package lock_test

import (
	"math/rand"
	"slices"
	"strconv"
	"testing"

	"ferrule/api"
	"ferrule/lock"
)

// plainElder is the chapter's Words.
func plainElder(a, b api.Tx) bool {
	if a.Age == b.Age {
		return a.Id < b.Id
	}
	return a.Age < b.Age
}

// plainConflicts is the chapter's Words: does a hold conflict with t, key and write?
func plainConflicts(h api.Hold, t api.Tx, key string, write bool) bool {
	if h.Key != key || h.T == t {
		return false
	}
	return h.Write || write
}

// plainRight is the chapter's Words: every hold with every other one.
func plainRight(l []api.Hold) bool {
	for i, h := range l {
		for k, x := range l {
			if i != k && (plainConflicts(h, x.T, x.Key, x.Write) || h.T == x.T && h.Key == x.Key) {
				return false
			}
		}
	}
	return true
}

// plainHas is P12.1, hold by hold.
func plainHas(l []api.Hold, t api.Tx, key string, write bool) bool {
	n := 0
	for _, h := range l {
		if h.T == t && h.Key == key && (!write || h.Write) {
			n++
		}
	}
	return n > 0
}

// plainDrop is P12.1, hold by hold.
func plainDrop(l []api.Hold, t api.Tx) []api.Hold {
	var after []api.Hold
	for _, h := range l {
		if h.T != t {
			after = append(after, h)
		}
	}
	return after
}

// plainFirst is the place of t's first hold of the key; -1 if it has none.
func plainFirst(l []api.Hold, t api.Tx, key string) int {
	for i, h := range l {
		if h.T == t && h.Key == key {
			return i
		}
	}
	return -1
}

// plainAsk is P12.2, sentence by sentence.
func plainAsk(l []api.Hold, t api.Tx, key string, write bool, firm []api.Tx) ([]api.Hold, []api.Tx, api.Errno) {
	if i := plainFirst(l, t, key); i >= 0 && (l[i].Write || !write) {
		return l, nil, api.OK
	}
	var wounded []api.Tx
	for _, h := range l {
		if plainConflicts(h, t, key, write) && !slices.Contains(wounded, h.T) {
			wounded = append(wounded, h.T)
		}
	}
	for _, x := range wounded {
		if slices.Contains(firm, x) || !plainElder(t, x) {
			return l, nil, api.ErrBusy
		}
	}
	after := slices.Clone(l)
	for _, x := range wounded {
		after = plainDrop(after, x)
	}
	if i := plainFirst(after, t, key); i >= 0 {
		after[i].Write = true
		return after, wounded, api.OK
	}
	if after = append(after, api.Hold{Key: key, T: t, Write: write}); len(after) > 48 {
		return l, nil, api.ErrFull
	}
	return after, wounded, api.OK
}

// want is a request of a lock.
type want struct {
	t     api.Tx
	key   string
	write bool
}

// held holds every call of the list, with the request and the firm ones, to the plain words, and tells Ask's error.
func held(t *testing.T, l []api.Hold, x want, firm []api.Tx) api.Errno {
	t.Helper()
	wantL, wantW, wantE := plainAsk(l, x.t, x.key, x.write, firm)
	got, w, e := lock.Ask(l, x.t, x.key, x.write, firm)
	if !slices.Equal(got, wantL) || !slices.Equal(w, wantW) || e != wantE {
		t.Fatalf("Ask(%v, %v, %v) = %v, %v, %d, want %v, %v, %d", l, x, firm, got, w, e, wantL, wantW, wantE)
	}
	if got := lock.Has(l, x.t, x.key, x.write); got != plainHas(l, x.t, x.key, x.write) {
		t.Fatalf("Has(%v, %v) = %v", l, x, got)
	}
	return e
}

// heldAlone holds Right and Drop of the list to the plain words.
func heldAlone(t *testing.T, l []api.Hold, all []api.Tx) {
	t.Helper()
	if got := lock.Right(l); got != plainRight(l) {
		t.Fatalf("Right(%v) = %v", l, got)
	}
	for _, x := range all {
		if got := lock.Drop(l, x); !slices.Equal(got, plainDrop(l, x)) {
			t.Fatalf("Drop(%v, %v) = %v", l, x, got)
		}
	}
}

// listsOf are all lists of at most so many of the items.
func listsOf[T any](most int, items ...T) [][]T {
	all := [][]T{nil}
	for from := 0; from < len(all) && len(all[from]) < most; from++ {
		for _, x := range items {
			all = append(all, append(slices.Clone(all[from]), x))
		}
	}
	return all
}

// holdsOf are all holds of the transactions and keys.
func holdsOf(all []api.Tx, keys ...string) []api.Hold {
	var l []api.Hold
	for _, t := range all {
		for _, key := range keys {
			l = append(l, api.Hold{Key: key, T: t}, api.Hold{Key: key, T: t, Write: true})
		}
	}
	return l
}

// P12.1 and P12.2: every list of up to three holds, right or not, with every request, and with every list of up to two firm ones.
func TestSmallListsArePlain(t *testing.T) {
	few := txs("1, 2.1, 2.2")
	firms := listsOf(2, few...)
	asking := append(txs("0, 3"), few...)
	for _, l := range listsOf(3, holdsOf(few, "", "\x80")...) {
		heldAlone(t, l, asking)
		for _, h := range holdsOf(asking, "", "\x80", "a") {
			for _, firm := range firms {
				held(t, l, want{h.T, h.Key, h.Write}, firm)
			}
		}
	}
}

// P12.1 and P12.2: every list of up to five holds of one key, right or not, of three transactions, as each of them asks.
func TestListsOfOneKeyArePlain(t *testing.T) {
	few := txs("1, 2, 3")
	firms := listsOf(1, few...)
	for _, l := range listsOf(5, holdsOf(few, "a")...) {
		heldAlone(t, l, few)
		for _, h := range holdsOf(few, "a") {
			for _, firm := range firms {
				held(t, l, want{h.T, h.Key, h.Write}, firm)
			}
		}
	}
}

// some are so many transactions of few ages.
func some(r *rand.Rand, n int) []api.Tx {
	var l []api.Tx
	for range n {
		l = append(l, api.Tx{Age: uint64(r.Intn(n)), Id: uint64(r.Intn(3))})
	}
	return l
}

// names are so many keys: of no byte, of bytes of 0x80 and above, and others.
func names(n int) []string {
	l := []string{"", "\x80", "\xff", "\xff\xff", "a", "ab", "a\x00"}
	for len(l) < n {
		l = append(l, "k"+strconv.Itoa(len(l)))
	}
	return l[:n]
}

// oneOf is one of a list.
func oneOf[T any](r *rand.Rand, l []T) T { return l[r.Intn(len(l))] }

// mixedList is a list of any holds of the transactions and keys, or a right one.
func mixedList(r *rand.Rand, n int, all []api.Tx, keys []string) []api.Hold {
	var l []api.Hold
	writes, right := r.Intn(4), r.Intn(2) > 0
	for range n {
		h := api.Hold{Key: oneOf(r, keys), T: oneOf(r, all), Write: r.Intn(4) < writes}
		if !right || plainRight(append(slices.Clone(l), h)) {
			l = append(l, h)
		}
	}
	return l
}

// P12.1 and P12.2: mixed lists of up to 70 holds, right or not, and mixed requests.
func TestMixedListsArePlain(t *testing.T) {
	r := rand.New(rand.NewSource(12))
	told, rights := map[api.Errno]int{}, 0
	for range 6000 {
		all := some(r, 1+r.Intn(12))
		keys := names(1 + r.Intn(60))
		l := mixedList(r, r.Intn(71), all, keys)
		heldAlone(t, l, append(some(r, 3), all...))
		if plainRight(l) {
			rights++
		}
		for range 10 {
			x := want{oneOf(r, all), oneOf(r, keys), r.Intn(2) > 0}
			if r.Intn(3) == 0 {
				x.t = api.Tx{}
			}
			told[held(t, l, x, some(r, r.Intn(4)))]++
		}
	}
	for _, e := range []api.Errno{api.OK, api.ErrBusy, api.ErrFull} {
		if told[e] < 3000 {
			t.Errorf("the error %d came only %d times", e, told[e])
		}
	}
	if rights < 2000 || rights > 5000 {
		t.Errorf("so many lists are right: %d", rights)
	}
}
