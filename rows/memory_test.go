package rows_test

import (
	"slices"
	"testing"

	"ferrule/api"
	"ferrule/rows"
)

// odd is what stands in the room behind a list.
var odd = api.Row{Key: "odd", Val: "odd", Ver: 99}

// roomy is the list with room behind it that something stands in.
func roomy[T any](l []T, x T) []T {
	return append(append(make([]T, 0, len(l)+3), l...), x, x, x)[:len(l)]
}

// whole is a copy of a list, and of what stands in the room behind it.
func whole[T any](l []T) []T { return slices.Clone(l[:cap(l)]) }

// ward keeps what was passed and answered, and copies of it.
type ward struct {
	lists, copies [][]api.Row
	puts, same    [][]api.Put
}

// keep keeps a list.
func (w *ward) keep(l []api.Row) { w.lists, w.copies = append(w.lists, l), append(w.copies, whole(l)) }

// keepPuts keeps puts.
func (w *ward) keepPuts(p []api.Put) { w.puts, w.same = append(w.puts, p), append(w.same, whole(p)) }

// hold holds all that was kept to its copies.
func (w *ward) hold(t *testing.T) {
	t.Helper()
	for i, l := range w.lists {
		if !slices.Equal(whole(l), w.copies[i]) {
			t.Fatalf("a list is written to: %v, was %v", whole(l), w.copies[i])
		}
	}
	for i, p := range w.puts {
		if !slices.Equal(whole(p), w.same[i]) {
			t.Fatalf("puts are written to: %v, were %v", whole(p), w.same[i])
		}
	}
}

// several are puts of all kinds: that fit, that have no room, and that do not fit.
func several() [][]api.Put {
	all := [][]api.Put{nil, puts("a=9"), puts("a-"), puts("b=9"), puts("b-"), puts("z=9"), puts("z-"), puts("c=9, a-, b=8, d-"), puts("z=1, y=2, b-, x=3"), puts("k100=9"), puts("k100-"), puts("k100-, z=9"), puts("z=9, k131-, y-"), puts("a=1, a=2"), manyPuts(api.MaxPuts), manyPuts(api.MaxPuts + 1)}
	for _, x := range misfits() {
		all = append(all, []api.Put{x}, append(puts("a=9, b-"), x))
	}
	for i := range all {
		all[i] = roomy(all[i], api.Put{Key: "odd", Val: "odd"})
	}
	return all
}

// lists are lists of all kinds: right ones, full ones, and such as are not right.
func lists() [][]api.Row {
	all := [][]api.Row{nil, of("a 1 1"), of("b 1 1"), of("a 1 1, b 2 2, d 3 3"), of("d 1 1, b 2 2, a 3 3, b 4 4"), keyed("", text(17)), many(api.MaxRows - 2), many(api.MaxRows), many(api.MaxRows + 2)}
	for i := range all {
		all[i] = roomy(all[i], odd)
	}
	return all
}

// callAll calls each function with the list and the puts, and answers the lists.
func callAll(l []api.Row, p []api.Put) [][]api.Row {
	after, _ := rows.All(l, p, 7)
	answers := [][]api.Row{after}
	for _, x := range p {
		one, _ := rows.Do(l, x, 8)
		answers = append(answers, one)
		rows.Get(l, x.Key)
	}
	rows.Fits(p)
	rows.Right(l)
	b, _ := rows.Bytes(l)
	taken, _, _ := rows.Take(b)
	return append(answers, taken)
}

// R3: nothing that is passed is written to, nor the room behind it, nor what was answered earlier.
func TestArguments(t *testing.T) {
	for _, l := range lists() {
		w := &ward{}
		w.keep(l)
		for _, p := range several() {
			w.keepPuts(p)
			for _, one := range callAll(l, p) {
				w.keep(one)
				w.hold(t)
				// Later calls of the same list, and of what was answered, must not meet in the room behind them.
				for _, q := range several() {
					callAll(one, q)
					callAll(l, q)
				}
				w.hold(t)
			}
		}
	}
}

// R3: the same call answers the same again, and whoever writes into an answer changes neither what was passed nor another answer.
func TestAnswersAreNew(t *testing.T) {
	spoil := func(l []api.Row) {
		for i := range l {
			l[i] = odd
		}
		_ = append(l, odd, odd)
	}
	for _, l := range lists() {
		before := whole(l)
		for _, p := range several() {
			first, again := callAll(l, p), callAll(l, p)
			for i, one := range first {
				if !slices.Equal(one, again[i]) {
					t.Fatalf("%v, then %v", one, again[i])
				}
			}
			copies := make([][]api.Row, len(again))
			for i, one := range again {
				copies[i] = slices.Clone(one)
			}
			for _, one := range first {
				spoil(one)
			}
			if !slices.Equal(whole(l), before) {
				t.Fatalf("a list shares memory with an answer: %v, was %v", whole(l), before)
			}
			for i, one := range again {
				if !slices.Equal(one, copies[i]) {
					t.Fatalf("two answers share memory: %v, was %v", one, copies[i])
				}
			}
		}
	}
}

// R2: beside an error there are no rows, and no rest.
func TestErrorsAreAlone(t *testing.T) {
	for _, l := range lists() {
		for _, p := range several() {
			if after, e := rows.All(l, p, 7); e != api.OK && len(after) > 0 {
				t.Errorf("All(%v, %v) = %v, %d", l, p, after, e)
			}
			for _, x := range p {
				if after, e := rows.Do(l, x, 7); e != api.OK && len(after) > 0 {
					t.Errorf("Do(%v, %v) = %v, %d", l, x, after, e)
				}
			}
		}
		if b, e := rows.Bytes(l); e != api.OK && b != "" {
			t.Errorf("Bytes(%v) = %x, %d", l, b, e)
		}
	}
}
