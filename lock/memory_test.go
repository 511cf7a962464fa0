package lock_test

import (
	"slices"
	"testing"

	"ferrule/api"
	"ferrule/lock"
)

// What stands in the room behind lists.
var (
	oddHold = api.Hold{Key: "odd", T: api.Tx{Age: 99, Id: 99}, Write: true}
	oddTx   = api.Tx{Age: 99, Id: 99}
)

// roomy is the list with room behind it that something stands in.
func roomy[T any](l []T, x T) []T {
	return append(append(make([]T, 0, len(l)+3), l...), x, x, x)[:len(l)]
}

// whole is a copy of a list, and of what stands in the room behind it.
func whole[T any](l []T) []T { return slices.Clone(l[:cap(l)]) }

// kept are lists that were passed or answered, and copies of them.
type kept[T comparable] struct{ lists, copies [][]T }

// keep keeps a list.
func (k *kept[T]) keep(l []T) { k.lists, k.copies = append(k.lists, l), append(k.copies, whole(l)) }

// hold holds all that was kept to its copies.
func (k *kept[T]) hold(t *testing.T) {
	t.Helper()
	for i, l := range k.lists {
		if !slices.Equal(whole(l), k.copies[i]) {
			t.Fatalf("a list is written to: %v, was %v", whole(l), k.copies[i])
		}
	}
}

// lists are lists of all kinds: right ones, full ones, and such as are not right.
func lists() [][]api.Hold {
	all := [][]api.Hold{
		nil, of("a 2 r"), of("a 2 w"), of("a 3 r"), of("a 1 w"), of("b 3 w, a 3 r, c 1 r, a 2 r, a 4 r, b 2 w"), of("a 2 r, a 2 w, a 3 w, a 1 r"),
		many(api.MaxHold-1, "3"), many(api.MaxHold, "3"), many(api.MaxHold, "1"), many(api.MaxHold+2, "1"), join(many(api.MaxHold-2, "1"), of("a 3 r, a 2 r")), join(many(api.MaxHold-1, "1"), of("a 3 w")),
	}
	for i := range all {
		all[i] = roomy(all[i], oddHold)
	}
	return all
}

// firms are lists of firm ones.
func firms() [][]api.Tx {
	all := [][]api.Tx{nil, txs("2"), txs("3"), txs("1, 4, 4")}
	for i := range all {
		all[i] = roomy(all[i], oddTx)
	}
	return all
}

// callAll calls each function with the list and the firm ones, and answers the lists.
func callAll(l []api.Hold, firm []api.Tx) (holds [][]api.Hold, wounded [][]api.Tx) {
	for _, x := range []want{{tx("2"), "a", false}, {tx("2"), "a", true}, {tx("2"), "k1", true}, {tx("0"), "b", true}, {tx("4"), "a", true}, {tx("3"), "k0", true}, {tx("5"), "new", true}} {
		after, w, _ := lock.Ask(l, x.t, x.key, x.write, firm)
		holds, wounded = append(holds, after, lock.Drop(l, x.t)), append(wounded, w)
		lock.Has(l, x.t, x.key, x.write)
	}
	lock.Right(l)
	return holds, wounded
}

// R3: nothing that is passed is written to, nor the room behind it, nor what was answered earlier.
func TestArguments(t *testing.T) {
	for _, l := range lists() {
		var holds kept[api.Hold]
		var wounds kept[api.Tx]
		holds.keep(l)
		for _, firm := range firms() {
			wounds.keep(firm)
			after, wounded := callAll(l, firm)
			for _, w := range wounded {
				wounds.keep(w)
			}
			for _, one := range after {
				holds.keep(one)
			}
			// Later calls of the same list, and of what was answered, must not meet in the room behind them.
			for _, one := range after {
				for _, again := range firms() {
					callAll(one, again)
				}
				for _, w := range wounded {
					callAll(one, w)
				}
			}
			callAll(l, firm)
			holds.hold(t)
			wounds.hold(t)
		}
	}
}

// spoil writes into a list, and into the room behind it.
func spoil[T any](l []T, x T) {
	l = l[:cap(l)]
	for i := range l {
		l[i] = x
	}
}

// R3: the same call answers the same again, and whoever writes into an answer changes neither what was passed nor another answer.
func TestAnswersAreNew(t *testing.T) {
	for _, l := range lists() {
		for _, firm := range firms() {
			beforeL, beforeF := whole(l), whole(firm)
			holds, wounded := callAll(l, firm)
			holdsAgain, woundedAgain := callAll(l, firm)
			var keptHolds kept[api.Hold]
			var keptWounded kept[api.Tx]
			for i := range holds {
				if !slices.Equal(holds[i], holdsAgain[i]) {
					t.Fatalf("%v, then %v", holds[i], holdsAgain[i])
				}
				keptHolds.keep(holdsAgain[i])
			}
			for i := range wounded {
				if !slices.Equal(wounded[i], woundedAgain[i]) {
					t.Fatalf("%v, then %v", wounded[i], woundedAgain[i])
				}
				keptWounded.keep(woundedAgain[i])
			}
			for _, one := range holds {
				spoil(one, oddHold)
			}
			for _, one := range wounded {
				spoil(one, oddTx)
			}
			if !slices.Equal(whole(l), beforeL) || !slices.Equal(whole(firm), beforeF) {
				t.Fatalf("an argument shares memory with an answer: %v, was %v", whole(l), beforeL)
			}
			keptHolds.hold(t)
			keptWounded.hold(t)
		}
	}
}
