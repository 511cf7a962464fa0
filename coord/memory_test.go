package coord_test

import (
	"reflect"
	"slices"
	"testing"

	"ferrule/api"
	"ferrule/coord"
)

// What stands in the room behind lists.
var oddDeal = api.Deal{T: api.Tx{Age: 99, Id: 99}, Parts: []uint64{99}, State: 9}

// roomy is a copy of the list, with room behind it that something stands in.
func roomy[T any](l []T, x T) []T {
	return append(append(make([]T, 0, len(l)+3), l...), x, x, x)[:len(l)]
}

// roomyCoord is a copy of the coordinator, with room behind each list of it.
func roomyCoord(c api.Coord) api.Coord {
	c.Deals = roomy(c.Deals, oddDeal)
	for i, d := range c.Deals {
		c.Deals[i].Parts = roomy(d.Parts, 99)
	}
	return c
}

// roomyOrder is a copy of the order, with room behind each list of it.
func roomyOrder(o api.Order) api.Order {
	o.Parts, o.Puts = roomy(o.Parts, 99), roomy([]api.Put{{Key: "a"}}, api.Put{Key: "odd"})
	return o
}

// wholeDeal is a copy of a deal, and of what stands in the room behind its Parts.
func wholeDeal(d api.Deal) api.Deal {
	d.Parts = slices.Clone(d.Parts[:cap(d.Parts)])
	return d
}

// whole is a copy of a coordinator, and of what stands in the room behind its lists.
func whole(c api.Coord) api.Coord {
	c.Deals = slices.Clone(c.Deals[:cap(c.Deals)])
	for i, d := range c.Deals {
		c.Deals[i] = wholeDeal(d)
	}
	return c
}

// wholeOrder is a copy of an order, and of what stands in the room behind its lists.
func wholeOrder(o api.Order) api.Order {
	o.Parts, o.Puts = slices.Clone(o.Parts[:cap(o.Parts)]), slices.Clone(o.Puts[:cap(o.Puts)])
	return o
}

// kept are what was passed or answered, and copies of it.
type kept struct {
	coords, coordsWere []api.Coord
	orders, ordersWere []api.Order
	deals, dealsWere   []api.Deal
}

// keep keeps a coordinator.
func (k *kept) keep(c api.Coord) {
	k.coords, k.coordsWere = append(k.coords, c), append(k.coordsWere, whole(c))
}

// keepOrder keeps an order.
func (k *kept) keepOrder(o api.Order) {
	k.orders, k.ordersWere = append(k.orders, o), append(k.ordersWere, wholeOrder(o))
}

// keepDeal keeps a deal.
func (k *kept) keepDeal(d api.Deal) {
	k.deals, k.dealsWere = append(k.deals, d), append(k.dealsWere, wholeDeal(d))
}

// hold holds all that was kept to its copies.
func (k *kept) hold(t *testing.T) {
	t.Helper()
	for i, c := range k.coords {
		if !reflect.DeepEqual(whole(c), k.coordsWere[i]) {
			t.Fatalf("a coordinator is written to: %+v, was %+v", whole(c), k.coordsWere[i])
		}
	}
	for i, o := range k.orders {
		if !reflect.DeepEqual(wholeOrder(o), k.ordersWere[i]) {
			t.Fatalf("an order is written to: %+v, was %+v", wholeOrder(o), k.ordersWere[i])
		}
	}
	for i, d := range k.deals {
		if !reflect.DeepEqual(wholeDeal(d), k.dealsWere[i]) {
			t.Fatalf("a deal is written to: %+v, was %+v", wholeDeal(d), k.dealsWere[i])
		}
	}
}

// spoilList writes into a list, and into the room behind it.
func spoilList[T any](l []T, x T) {
	l = l[:cap(l)]
	for i := range l {
		l[i] = x
	}
}

// spoil writes into each list of a coordinator, and into the room behind them.
func spoil(c api.Coord) {
	for _, d := range c.Deals[:cap(c.Deals)] {
		spoilList(d.Parts, 77)
	}
	spoilList(c.Deals, api.Deal{State: 77})
}

// memoryCoords are coordinators of all kinds, with room behind their lists.
func memoryCoords() []api.Coord {
	all := []api.Coord{
		{}, at(rich), at("1 open 1 2"), at("1 commit 1 2"), at("1 abort 1 2"), at("1 abort"), at("2 open 1, 1 open 1 2, 3 open 63"), at("1 open, 1 open 1 2"), at("2 commit 1, 1 =7 2 1"),
		crowd(api.Coord{}, api.MaxTx-1), crowd(api.Coord{}, api.MaxTx), crowd(at("1 open 1 2"), api.MaxTx-1), crowd(at("1 open 1 2, 2 open 3"), 2*api.MaxTx),
	}
	for i, c := range all {
		all[i] = roomyCoord(c)
	}
	return all
}

// memoryOrders are orders of all kinds, with room behind their lists.
func memoryOrders() []api.Order {
	all := append(orders("begin 1 1 2, begin 1 1 3, begin 9 1 2, begin 9 2 1, begin 1, commit 1, commit 9, abort 1, abort 9, status 1, status 2, status 9"), api.Order{Kind: api.OFinish, T: tx("1")}, api.Order{})
	for i, o := range all {
		all[i] = roomyOrder(o)
	}
	return all
}

// R3: nothing that is passed is written to, nor the room behind it, nor what was answered earlier.
func TestArguments(t *testing.T) {
	for _, c := range memoryCoords() {
		var k kept
		k.keep(c)
		var after []api.Coord
		for _, o := range memoryOrders() {
			k.keepOrder(o)
			x, _ := coord.Do(c, o)
			k.keep(x)
			after = append(after, x)
		}
		// Later calls of the same coordinator, and of what was answered, must not meet in the room behind the lists.
		for _, x := range after {
			for _, o := range k.orders {
				y, _ := coord.Do(x, o)
				k.keep(y)
				coord.Do(c, o)
				d, _ := coord.Find(x, o.T)
				k.keepDeal(d)
			}
			coord.Right(x)
			coord.Same(x, c)
			coord.Same(c, x)
		}
		coord.Right(c)
		k.hold(t)
	}
}

// R3, R4: the same call answers the same again, and whoever writes into an answer changes neither what was passed nor another answer.
func TestAnswersAreNew(t *testing.T) {
	for _, c := range memoryCoords() {
		for _, o := range memoryOrders() {
			var k kept
			k.keep(c)
			k.keepOrder(o)
			x, a := coord.Do(c, o)
			y, b := coord.Do(c, o)
			if a != b || !plainSame(x, y) {
				t.Fatalf("Do(%+v, %+v) = %+v, %+v, then %+v, %+v", c, o, x, a, y, b)
			}
			k.keep(y)
			z, _ := coord.Do(y, o)
			k.keep(z)
			d, there := coord.Find(c, o.T)
			e, again := coord.Find(c, o.T)
			if there != again || !reflect.DeepEqual(d, e) {
				t.Fatalf("Find(%+v, %+v) = %+v, %v, then %+v, %v", c, o.T, d, there, e, again)
			}
			k.keepDeal(e)
			spoil(x)
			spoilList(d.Parts, 77)
			k.hold(t)
		}
	}
}

// R3: whoever writes into what was passed, behind the call, doesn't change what was answered.
func TestArgumentsAreNotKept(t *testing.T) {
	for i := range memoryCoords() {
		for k := range memoryOrders() {
			c, o := memoryCoords()[i], memoryOrders()[k]
			after, _ := coord.Do(c, o)
			d, _ := coord.Find(c, o.T)
			was, dealWas := trimmed(after), wholeDeal(d)
			spoil(c)
			spoilList(o.Parts, 77)
			if !plainSame(after, was) || !reflect.DeepEqual(wholeDeal(d), dealWas) {
				t.Fatalf("an answer shares memory with what was passed: %+v, was %+v; %+v, was %+v", after, was, d, dealWas)
			}
		}
	}
}

// No two lists of one answer share memory, though those of the argument do.
func TestListsOfOneAnswer(t *testing.T) {
	shared := []uint64{1, 2, 3}
	for _, o := range orders("begin 9 1 2 3, begin 1 1 2 3, commit 1, abort 2, abort 9, status 3, commit 9, begin 1 2 1") {
		c := at("1 open, 2 commit, 3 abort")
		for i := range c.Deals {
			c.Deals[i].Parts = shared
		}
		if len(o.Parts) == len(shared) {
			o.Parts = shared
		}
		after, _ := coord.Do(c, o)
		was := trimmed(after)
		for i, d := range after.Deals {
			spoilList(d.Parts, 77)
			for k, x := range after.Deals {
				if k > i && !slices.Equal(x.Parts, was.Deals[k].Parts) {
					t.Fatalf("Do(%+v, %+v): two lists share memory", c, o)
				}
			}
		}
	}
}
