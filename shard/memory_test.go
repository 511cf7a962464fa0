package shard_test

import (
	"reflect"
	"slices"
	"testing"

	"ferrule/api"
	"ferrule/shard"
)

// What stands in the room behind lists.
var (
	oddTx   = api.Tx{Age: 99, Id: 99}
	oddRow  = api.Row{Key: "odd", Val: "odd", Ver: 99}
	oddHold = api.Hold{Key: "odd", T: oddTx, Write: true}
	oddDone = api.Done{T: oddTx, Commit: true}
	oddPut  = api.Put{Key: "odd", Val: "odd"}
	oddOpen = api.Open{T: oddTx, Firm: true}
)

// roomy is a copy of the list, with room behind it that something stands in.
func roomy[T any](l []T, x T) []T {
	return append(append(make([]T, 0, len(l)+3), l...), x, x, x)[:len(l)]
}

// roomyShard is a copy of the shard, with room behind each list of it.
func roomyShard(s api.Shard) api.Shard {
	s.Rows, s.Holds, s.Open, s.Done = roomy(s.Rows, oddRow), roomy(s.Holds, oddHold), roomy(s.Open, oddOpen), roomy(s.Done, oddDone)
	for i := range s.Open {
		s.Open[i].Puts = roomy(s.Open[i].Puts, oddPut)
	}
	return s
}

// roomyOrder is a copy of the order, with room behind each list of it.
func roomyOrder(o api.Order) api.Order {
	o.Puts, o.Parts = roomy(o.Puts, oddPut), roomy([]uint64{1, 2}, 99)
	return o
}

// wholePuts is a copy of puts, and of what stands in the room behind them.
func wholePuts(l []api.Put) []api.Put { return slices.Clone(l[:cap(l)]) }

// whole is a copy of a shard, and of what stands in the room behind its lists.
func whole(s api.Shard) api.Shard {
	s.Rows, s.Holds, s.Open, s.Done = slices.Clone(s.Rows[:cap(s.Rows)]), slices.Clone(s.Holds[:cap(s.Holds)]), slices.Clone(s.Open[:cap(s.Open)]), slices.Clone(s.Done[:cap(s.Done)])
	for i, x := range s.Open {
		s.Open[i].Puts = wholePuts(x.Puts)
	}
	return s
}

// wholeOrder is a copy of an order, and of what stands in the room behind its lists.
func wholeOrder(o api.Order) api.Order {
	o.Puts, o.Parts = wholePuts(o.Puts), slices.Clone(o.Parts[:cap(o.Parts)])
	return o
}

// kept are shards and orders that were passed or answered, and copies of them.
type kept struct {
	shards, shardsWere []api.Shard
	orders, ordersWere []api.Order
}

// keep keeps a shard.
func (k *kept) keep(s api.Shard) {
	k.shards, k.shardsWere = append(k.shards, s), append(k.shardsWere, whole(s))
}

// keepOrder keeps an order.
func (k *kept) keepOrder(o api.Order) {
	k.orders, k.ordersWere = append(k.orders, o), append(k.ordersWere, wholeOrder(o))
}

// hold holds all that was kept to its copies.
func (k *kept) hold(t *testing.T) {
	t.Helper()
	for i, s := range k.shards {
		if !reflect.DeepEqual(whole(s), k.shardsWere[i]) {
			t.Fatalf("a shard is written to: %+v, was %+v", whole(s), k.shardsWere[i])
		}
	}
	for i, o := range k.orders {
		if !reflect.DeepEqual(wholeOrder(o), k.ordersWere[i]) {
			t.Fatalf("an order is written to: %+v, was %+v", wholeOrder(o), k.ordersWere[i])
		}
	}
}

// spoilList writes into a list, and into the room behind it.
func spoilList[T any](l []T, x T) {
	l = l[:cap(l)]
	for i := range l {
		l[i] = x
	}
}

// spoil writes into each list of a shard, and into the room behind them.
func spoil(s api.Shard) {
	for _, x := range s.Open[:cap(s.Open)] {
		spoilList(x.Puts, api.Put{Key: "spoilt"})
	}
	spoilList(s.Rows, api.Row{Key: "spoilt"})
	spoilList(s.Holds, api.Hold{Key: "spoilt"})
	spoilList(s.Open, api.Open{Wounded: true})
	spoilList(s.Done, api.Done{})
}

// memoryShards are shards of all kinds, with room behind their lists.
func memoryShards() []api.Shard {
	all := []api.Shard{
		{}, at(rich), at("holds: a 2 w; open: 2, 1"), at("holds: a 1 w, b 1 w; open: 1"), at("rows: a 1 1, c 3 3; holds: a 1 w, b 1 w, c 2 w; open: 1 firm a=7 b=8, 2 firm c-, 3; ver: 3"),
		at("open: 1 wounded a=1, 1 firm; done: 2 yes, 1 no"), at("holds: a 2 r, a 3 r, a 1 r; open: 2, 3, 1; done: 4 yes"), at("open: 1 firm a=1 a=1, 2 firm b=1 b=2"), at("open: 1; done: 2 no, 3 yes"),
		withRows(at("holds: a 1 w, r100 1 w; open: 1, 2 firm"), api.MaxRows), withOpen(at("open: 1 firm"), api.MaxTx), withDone(api.Shard{}, api.MaxTx),
	}
	for i := range all {
		all[i] = roomyShard(all[i])
	}
	return all
}

// memoryOrders are orders of all kinds, with room behind their lists.
func memoryOrders() []api.Order {
	all := orders("read 1 a, read 2 b, lock 1 a, lock 3 a, lock 9 z, lock 0 a, prepare 1 a=1, prepare 1 a=7 b=8, prepare 2, prepare 3 c=7 d-, commit 1, commit 2, abort 1, abort 2, abort 9, commit 9")
	all = append(all, api.Order{Kind: api.OBegin, T: tx("1")}, api.Order{})
	for i := range all {
		all[i] = roomyOrder(all[i])
	}
	return all
}

// R3: nothing that is passed is written to, nor the room behind it, nor what was answered earlier.
func TestArguments(t *testing.T) {
	for _, s := range memoryShards() {
		var k kept
		k.keep(s)
		var after []api.Shard
		for _, o := range memoryOrders() {
			k.keepOrder(o)
			x, _ := shard.Do(s, o)
			k.keep(x)
			after = append(after, x)
		}
		// Later calls of the same shard, and of what was answered, must not meet in the room behind the lists.
		for i, x := range after {
			for _, o := range k.orders {
				y, _ := shard.Do(x, o)
				if i%4 == 0 {
					k.keep(y)
				}
				shard.Do(s, o)
			}
			shard.Right(x)
			shard.Same(x, s)
			shard.Same(s, x)
		}
		shard.Right(s)
		k.hold(t)
	}
}

// R3, R4: the same call answers the same again, and whoever writes into an answer changes neither what was passed nor another answer.
func TestAnswersAreNew(t *testing.T) {
	for _, s := range memoryShards() {
		for _, o := range memoryOrders() {
			var k kept
			k.keep(s)
			k.keepOrder(o)
			x, a := shard.Do(s, o)
			y, b := shard.Do(s, o)
			if a != b || !plainSame(x, y) {
				t.Fatalf("Do(%+v, %+v) = %+v, %+v, then %+v, %+v", s, o, x, a, y, b)
			}
			k.keep(y)
			z, _ := shard.Do(y, o)
			k.keep(z)
			spoil(x)
			k.hold(t)
		}
	}
}

// R3: whoever writes into what was passed, behind the call, doesn't change what was answered.
func TestArgumentsAreNotKept(t *testing.T) {
	for i := range memoryShards() {
		for k := range memoryOrders() {
			s, o := memoryShards()[i], memoryOrders()[k]
			after, _ := shard.Do(s, o)
			was := trimmed(after)
			spoil(s)
			spoilList(o.Puts, api.Put{Key: "spoilt"})
			spoilList(o.Parts, 0)
			if !plainSame(after, was) {
				t.Fatalf("the answer shares memory with what was passed: %+v, was %+v", after, was)
			}
		}
	}
}

// No two lists of one answer share memory, though those of the argument do.
func TestListsOfOneAnswer(t *testing.T) {
	shared := putsOf("a=1", "b=1")
	for _, o := range memoryOrders() {
		s := at("holds: a 1 w, b 1 w; open: 1, 4, 5, 6")
		for i := range s.Open[1:] {
			s.Open[i+1].Firm, s.Open[i+1].Puts = true, shared
		}
		if o.Kind == api.OPrepare {
			o.Puts = shared
		}
		after, _ := shard.Do(s, o)
		was := trimmed(after)
		for i, x := range after.Open {
			spoilList(x.Puts, api.Put{Key: "spoilt"})
			for k, y := range after.Open {
				if k > i && !slices.Equal(y.Puts, was.Open[k].Puts) {
					t.Fatalf("Do(%+v, %+v): two lists share memory", s, o)
				}
			}
		}
	}
}
