package lock_test

import (
	"math"
	"slices"
	"strconv"
	"strings"
	"testing"

	"ferrule/api"
	"ferrule/lock"
)

// words are what commas separate.
func words(told string) []string {
	if told == "" {
		return nil
	}
	return strings.Split(told, ", ")
}

// num is a number.
func num(told string) uint64 {
	n, err := strconv.ParseUint(told, 10, 64)
	if err != nil {
		panic(err)
	}
	return n
}

// tx is a transaction: "2" of the age 2, "2.1" with the Id 1.
func tx(told string) api.Tx {
	age, id, ok := strings.Cut(told, ".")
	if !ok {
		id = "0"
	}
	return api.Tx{Age: num(age), Id: num(id)}
}

// txs are transactions: "2, 2.1".
func txs(told string) []api.Tx {
	var l []api.Tx
	for _, x := range words(told) {
		l = append(l, tx(x))
	}
	return l
}

// of is a list: "a 2 r, b 2.1 w" has a hold of a that reads, and one of b that writes.
func of(told string) []api.Hold {
	var l []api.Hold
	for _, x := range words(told) {
		part := strings.Split(x, " ")
		l = append(l, api.Hold{Key: part[0], T: tx(part[1]), Write: part[2] == "w"})
	}
	return l
}

// many are so many holds of one transaction, of different keys.
func many(n int, t string) []api.Hold {
	var l []api.Hold
	for i := range n {
		l = append(l, api.Hold{Key: "k" + strconv.Itoa(i), T: tx(t), Write: i%2 > 0})
	}
	return l
}

// join are lists behind one another.
func join(l ...[]api.Hold) []api.Hold { return slices.Concat(l...) }

// turned is the list backwards.
func turned(l []api.Hold) []api.Hold {
	l = slices.Clone(l)
	slices.Reverse(l)
	return l
}

// P12.1: Elder by the Age first, then by the Id.
func TestElder(t *testing.T) {
	const top = math.MaxUint64
	for _, x := range []struct {
		a, b api.Tx
		want bool
	}{
		{api.Tx{}, api.Tx{}, false},
		{tx("1"), tx("2"), true}, {tx("2"), tx("1"), false}, {tx("1"), tx("1"), false},
		{tx("0"), tx("1"), true}, {tx("1"), tx("0"), false},
		{tx("9"), tx("10"), true}, {tx("10"), tx("9"), false},
		// One age: the Id tells.
		{tx("2.1"), tx("2.2"), true}, {tx("2.2"), tx("2.1"), false}, {tx("2.2"), tx("2.2"), false},
		{tx("2.0"), tx("2.1"), true}, {tx("2.1"), tx("2.0"), false},
		{tx("0.0"), tx("0.1"), true}, {tx("0.1"), tx("0.0"), false},
		// Different ages: the Id tells nothing.
		{tx("1.9"), tx("2.1"), true}, {tx("2.1"), tx("1.9"), false},
		{tx("1.1"), tx("2.9"), true}, {tx("2.9"), tx("1.1"), false},
		{tx("1.2"), tx("2.2"), true}, {tx("2.2"), tx("1.2"), false},
		// Great numbers: neither wrapped nor signed.
		{api.Tx{Age: top}, api.Tx{Age: top}, false}, {api.Tx{Age: top, Id: top}, api.Tx{Age: top, Id: top}, false},
		{api.Tx{Age: top - 1}, api.Tx{Age: top}, true}, {api.Tx{Age: top}, api.Tx{Age: top - 1}, false},
		{api.Tx{Age: 0}, api.Tx{Age: top}, true}, {api.Tx{Age: top}, api.Tx{Age: 0}, false},
		{api.Tx{Age: 1<<63 - 1}, api.Tx{Age: 1 << 63}, true}, {api.Tx{Age: 1 << 63}, api.Tx{Age: 1<<63 - 1}, false},
		{api.Tx{Age: top, Id: top - 1}, api.Tx{Age: top, Id: top}, true}, {api.Tx{Age: top, Id: top}, api.Tx{Age: top, Id: top - 1}, false},
		{api.Tx{Age: 5, Id: 0}, api.Tx{Age: 5, Id: top}, true}, {api.Tx{Age: 5, Id: top}, api.Tx{Age: 5, Id: 0}, false},
		{api.Tx{Age: 5, Id: 1<<63 - 1}, api.Tx{Age: 5, Id: 1 << 63}, true}, {api.Tx{Age: 5, Id: 1 << 63}, api.Tx{Age: 5, Id: 1<<63 - 1}, false},
		{api.Tx{Age: top - 1, Id: top}, api.Tx{Age: top, Id: 0}, true}, {api.Tx{Age: top, Id: 0}, api.Tx{Age: top - 1, Id: top}, false},
	} {
		if lock.Elder(x.a, x.b) != x.want {
			t.Errorf("Elder(%v, %v) = %v", x.a, x.b, !x.want)
		}
	}
}

// P12.1: of two that differ one is the elder, and not the other; who is elder than an elder one is elder.
func TestElderOrders(t *testing.T) {
	var all []api.Tx
	numbers := []uint64{0, 1, 2, 1 << 32, 1<<63 - 1, 1 << 63, math.MaxUint64 - 1, math.MaxUint64}
	for _, age := range numbers {
		for _, id := range numbers {
			all = append(all, api.Tx{Age: age, Id: id})
		}
	}
	for i, a := range all {
		for k, b := range all {
			// The list is in order.
			if lock.Elder(a, b) != (i < k) {
				t.Errorf("Elder(%v, %v) = %v", a, b, i >= k)
			}
		}
	}
}

// P12.1: Right of lists in which none, or one, of what it asks for fails; the order of the holds is nothing to it.
func TestRight(t *testing.T) {
	for _, x := range []struct {
		l    string
		want bool
	}{
		{"", true},
		{"a 1 r", true}, {"a 1 w", true}, {" 1 w", true}, {"a 0 w", true},
		// Two of one key.
		{"a 1 r, a 2 r", true},
		{"a 1 w, a 2 r", false},
		{"a 1 w, a 2 w", false},
		{"a 1.1 r, a 1.2 r", true},
		{"a 1.1 w, a 1.2 r", false}, {"a 1 w, a 1.1 w", false},
		{"a 0 w, a 1 r", false}, {"a 0 w, a 0.1 r", false},
		// Two of one key and one transaction.
		{"a 1 r, a 1 r", false}, {"a 1 r, a 1 w", false}, {"a 1 w, a 1 w", false}, {"a 0 r, a 0 r", false},
		// Two keys.
		{"a 1 w, b 1 w", true}, {"a 1 r, b 1 r", true}, {"a 1 r, b 1 w", true},
		{"a 1 w, b 2 w", true}, {"a 1 r, b 2 r", true}, {"a 1 w, b 2 r", true},
		{"a 1 w, A 2 w", true}, {"a 1 w, ab 2 w", true}, {"ab 1 w, b 2 w", true}, {" 1 w, a 2 w", true}, {" 1 w,  2 r", false}, {" 1 r,  1 r", false}, {" 1 r,  2 r", true},
		{"\x80 1 w, \xff 2 w", true}, {"\xff 1 w, \xff 2 r", false}, {"\xff 1 w, \ufffd 2 w", true}, {"\x80 1 r, \x80 2 r", true}, {"a 1 w, a\x00 2 w", true},
		// Three and more.
		{"a 1 r, a 2 r, a 3 r", true},
		{"a 1 r, a 2 r, a 3 w", false},
		{"a 1 r, a 2 r, a 1 r", false},
		{"a 1 r, b 2 w, a 3 r", true},
		{"a 1 w, b 2 w, a 3 r", false},
		{"a 1 r, b 2 w, a 1 r", false},
		{"a 1 w, b 2 w, a 1 r", false},
		{"a 1 w, b 1 w, c 1 w, d 1 w", true},
		{"a 1 w, b 2 w, c 3 w, d 4 w", true},
		{"a 1 r, b 1 r, a 2 r, b 2 r, a 3 r, b 3 r", true},
		{"a 1 r, b 1 r, a 2 r, b 2 r, a 3 r, b 3 w", false},
		{"a 1 w, b 1 w, c 1 w, c 2 r", false},
		{"a 1 w, b 1 w, c 1 w, b 1 w", false},
	} {
		for _, l := range [][]api.Hold{of(x.l), turned(of(x.l))} {
			if lock.Right(l) != x.want {
				t.Errorf("Right(%v) = %v", l, !x.want)
			}
		}
	}
}

// P12.1: Right looks at every two of long lists, and asks for no number of holds.
func TestRightLooksAtEach(t *testing.T) {
	for _, n := range []int{2, api.MaxHold, api.MaxHold + 1, 2 * api.MaxHold} {
		for i := range n {
			l := many(n, "1")
			if !lock.Right(l) {
				t.Fatalf("Right of %d holds of different keys = false", n)
			}
			for k := range i {
				for _, h := range []api.Hold{{Key: l[k].Key, T: l[k].T}, {Key: l[k].Key, T: l[k].T, Write: true}, {Key: l[k].Key, T: tx("2"), Write: true}, {Key: l[k].Key, T: tx("1.1")}} {
					l[i] = h
					// One that reads may be beside another one's that reads.
					want := h.T == tx("1.1") && !l[k].Write
					if lock.Right(l) != want {
						t.Fatalf("Right of %d holds, of which the %d-th is %v and the %d-th %v, = %v", n, i, h, k, l[k], !want)
					}
				}
			}
		}
	}
}

// P12.1: Has, in any of the holds, also in lists that are not right.
func TestHas(t *testing.T) {
	for _, x := range []struct {
		l, t, key   string
		read, write bool
	}{
		{"", "1", "a", false, false}, {"", "0", "", false, false},
		{"a 1 r", "1", "a", true, false},
		{"a 1 w", "1", "a", true, true},
		{"a 1 w", "2", "a", false, false}, {"a 1 w", "0", "a", false, false}, {"a 1 w", "1.1", "a", false, false}, {"a 1.1 w", "1", "a", false, false}, {"a 1.1 w", "1.1", "a", true, true}, {"a 1.2 w", "2.1", "a", false, false},
		{"a 1 w", "1", "b", false, false}, {"a 1 w", "1", "", false, false}, {"a 1 w", "1", "ab", false, false}, {"ab 1 w", "1", "a", false, false}, {" 1 r", "1", "", true, false}, {" 1 w", "1", "", true, true}, {" 0 r", "0", "", true, false},
		{"\x80 1 w", "1", "\x80", true, true}, {"\x80 1 w", "1", "\xff", false, false}, {"\xff 1 w", "1", "\ufffd", false, false}, {"a\xff 1 r", "1", "a\xff", true, false},
		// One transaction has the one, the other the other.
		{"a 1 w, b 2 w", "1", "b", false, false}, {"a 1 w, b 2 w", "2", "b", true, true}, {"a 1 r, a 2 w", "1", "a", true, false}, {"a 1 r, a 2 w", "2", "a", true, true}, {"a 1 r, b 1 w", "1", "a", true, false}, {"a 1 r, b 1 w", "1", "b", true, true},
		// Twice.
		{"a 1 r, a 1 w", "1", "a", true, true}, {"a 1 w, a 1 r", "1", "a", true, true}, {"a 1 r, a 1 r", "1", "a", true, false}, {"a 1 r, b 2 w, c 3 w, a 1 w", "1", "a", true, true},
		// Between others'.
		{"b 1 w, a 2 r, c 3 w", "2", "a", true, false}, {"b 1 w, c 3 w, a 2 w", "2", "a", true, true}, {"b 1 w, a 3 w, c 2 w", "2", "a", false, false},
	} {
		if got := lock.Has(of(x.l), tx(x.t), x.key, false); got != x.read {
			t.Errorf("Has(%s, %s, %q, false) = %v", x.l, x.t, x.key, got)
		}
		if got := lock.Has(of(x.l), tx(x.t), x.key, true); got != x.write {
			t.Errorf("Has(%s, %s, %q, true) = %v", x.l, x.t, x.key, got)
		}
	}
	long := join(many(3*api.MaxHold, "1"), of("last 2 w"))
	if !lock.Has(long, tx("2"), "last", true) || !lock.Has(long, tx("1"), "k143", true) || lock.Has(long, tx("1"), "k142", true) || lock.Has(long, tx("1"), "k144", false) {
		t.Error("Has of a long list")
	}
}

// P12.1: Drop takes all holds of the one transaction, and leaves the others' in their order.
func TestDrop(t *testing.T) {
	for _, x := range []struct{ l, t, want string }{
		{"", "1", ""}, {"", "0", ""},
		{"a 1 r", "1", ""}, {"a 1 w", "1", ""}, {" 0 w", "0", ""},
		{"a 1 w", "2", "a 1 w"}, {"a 1 w", "0", "a 1 w"}, {"a 1 w", "1.1", "a 1 w"}, {"a 1.1 w", "1", "a 1.1 w"}, {"a 1.1 w", "1.1", ""}, {"a 2.1 w", "1.2", "a 2.1 w"},
		{"a 1 w, b 2 r", "1", "b 2 r"}, {"a 1 w, b 2 r", "2", "a 1 w"}, {"a 1 w, b 2 r", "3", "a 1 w, b 2 r"},
		{"a 1 r, a 2 r, a 3 r", "2", "a 1 r, a 3 r"},
		{"a 1 r, a 1.1 r, a 1.2 r", "1.1", "a 1 r, a 1.2 r"},
		// Several between others'.
		{"a 1 w, b 2 w, c 1 r, d 3 r, e 1 w", "1", "b 2 w, d 3 r"},
		{"b 2 w, a 1 w, c 1 r, d 3 r, e 1 w, f 2 r", "1", "b 2 w, d 3 r, f 2 r"},
		{"d 1 w, c 2 w, b 3 w, a 2 r", "2", "d 1 w, b 3 w"},
		{"a 1 w, b 1 w, c 1 w", "1", ""}, {"a 1 w, b 1 w, c 1 w", "2", "a 1 w, b 1 w, c 1 w"},
		// Lists that are not right.
		{"a 1 r, a 1 r, a 1 w", "1", ""}, {"a 1 w, a 2 w, a 1 w, a 2 w", "1", "a 2 w, a 2 w"}, {"a 1 w, a 2 w", "3", "a 1 w, a 2 w"},
		{"\xff 1 w, \x80 2 r,  1 w", "1", "\x80 2 r"},
	} {
		if got := lock.Drop(of(x.l), tx(x.t)); !slices.Equal(got, of(x.want)) {
			t.Errorf("Drop(%s, %s) = %v, want %s", x.l, x.t, got, x.want)
		}
	}
	for _, n := range []int{api.MaxHold, api.MaxHold + 1, 3 * api.MaxHold} {
		if got := lock.Drop(join(many(n, "1"), of("z 2 w"), many(n, "1")), tx("1")); !slices.Equal(got, of("z 2 w")) {
			t.Errorf("Drop of twice %d holds = %v", n, got)
		}
		if got := lock.Drop(many(n, "1"), tx("2")); !slices.Equal(got, many(n, "1")) {
			t.Errorf("Drop of none of %d holds = %v", n, got)
		}
	}
}
