package coord_test

import (
	"math"
	"reflect"
	"slices"
	"strconv"
	"testing"

	"ferrule/api"
	"ferrule/coord"
)

// rich is a coordinator that is right and has something of each kind.
const rich = "4 open 1 2, 2 commit 3 63, 1 abort, 2.1 open 2, 3 abort 1 2 3 4 5 6 7 8"

// checkFind holds Find to what it is to answer.
func checkFind(t *testing.T, c api.Coord, told api.Tx, want api.Deal, there bool) {
	t.Helper()
	d, ok := coord.Find(c, told)
	if ok != there || !plainSame(api.Coord{Deals: []api.Deal{d}}, api.Coord{Deals: []api.Deal{want}}) {
		t.Errorf("Find(%+v, %+v) = %+v, %v, want %+v, %v", c, told, d, ok, want, there)
	}
	if !there && !reflect.DeepEqual(d, api.Deal{}) {
		t.Errorf("Find(%+v, %+v) = %#v beside false", c, told, d)
	}
}

// P14.1: Find of each that is there, and of such as are not.
func TestFind(t *testing.T) {
	for _, c := range []api.Coord{at(rich), crowd(at(rich), api.MaxTx-5), crowd(at(rich), 3*api.MaxTx)} {
		for _, d := range c.Deals {
			checkFind(t, c, d.T, d, true)
		}
		for _, told := range []string{"0", "5", "1.1", "2.2", "3.2", "1.2", "18446744073709551615", "4.18446744073709551615"} {
			checkFind(t, c, tx(told), api.Deal{}, false)
		}
	}
	checkFind(t, api.Coord{}, api.Tx{}, api.Deal{}, false)
	checkFind(t, api.Coord{Deals: []api.Deal{}}, tx("1"), api.Deal{}, false)
	checkFind(t, at("0 abort"), api.Tx{}, api.Deal{State: api.DealAbort}, true)
	checkFind(t, api.Coord{Deals: []api.Deal{{}}}, api.Tx{}, api.Deal{}, true)
	checkFind(t, api.Coord{Deals: []api.Deal{{}}}, tx("1"), api.Deal{}, false)
}

// P14.1: where a T stands twice the first deal counts, also where it is not right.
func TestFindTwice(t *testing.T) {
	for _, x := range []struct{ c, who, want string }{
		{"1 open 1, 1 commit 2", "1", "1 open 1"}, {"1 commit 2, 1 open 1", "1", "1 commit 2"}, {"1 abort, 1 abort 1", "1", "1 abort"},
		{"2 open 3, 1 open 1, 2 commit 3, 1 abort 4, 1 commit 1", "1", "1 open 1"}, {"2 open 3, 1 open 1, 2 commit 3, 1 abort 4, 1 commit 1", "2", "2 open 3"},
		{"1 =7 9 9 0, 1 open 1", "1", "1 =7 9 9 0"}, {"1 =-1, 1 commit 1", "1", "1 =-1"}, {"1.1 open 1, 1 open 2, 1.1 open 3, 1 open 4", "1", "1 open 2"},
	} {
		checkFind(t, at(x.c), tx(x.who), at(x.want).Deals[0], true)
	}
}

// checkRight holds Right to what it is to answer.
func checkRight(t *testing.T, why string, c api.Coord, want bool) {
	t.Helper()
	if coord.Right(c) != want {
		t.Errorf("%s: Right(%+v) = %v", why, c, !want)
	}
}

// P14.1: Right of coordinators in which none, or one, of what it asks for fails.
func TestRight(t *testing.T) {
	for _, x := range []struct {
		c    string
		want bool
	}{
		{"", true}, {"1 open 1", true}, {"1 commit 1", true}, {"1 abort 1", true}, {"1 abort", true}, {"0 open 1", true}, {"18446744073709551615.18446744073709551615 open 1", true},
		{rich, true}, {"3 abort, 2 abort, 1 abort", true}, {"1 open 1, 2 open 1, 3 open 1", true},
		// No T occurs twice.
		{"1 open 1, 1 open 1", false}, {"1 open 1, 1 commit 1", false}, {"1 commit 1, 1 abort", false}, {"1 abort, 1 abort", false}, {"1 open 1, 2 open 1, 1 open 2", false}, {"2 open 1, 1 open 1, 3 abort, 1 commit 4", false}, {"0 abort, 0 abort", false},
		{"1 open 1, 1.1 open 1, 2 open 1, 2.1 open 1", true}, {"1.2 open 1, 2.1 open 1", true},
		// The State is one of three.
		{"1 =-1 1", false}, {"1 =3 1", false}, {"1 =-1", false}, {"1 =3", false}, {"1 =0 1", true}, {"1 =2 1", true},
		{"2 open 1, 1 =3 1, 3 open 1", false}, {"2 open 1, 3 open 1, 1 =-1 1", false}, {"1 =-2 1", false}, {"1 =4294967296 1", false}, {"1 =4294967298 1", false}, {"1 =256 1", false}, {"1 =-9223372036854775808 1", false}, {"1 =9223372036854775807 1", false},
		// Only who was aborted may have no Parts.
		{"1 open", false}, {"1 commit", false}, {"2 open 1, 1 open", false}, {"1 abort, 2 commit, 3 abort", false},
		{"1 open 2 1", false}, {"1 commit 2 1", false}, {"1 abort 2 1", false}, {"2 abort, 1 abort 0", false}, {"1 abort 64, 2 abort", false},
	} {
		checkRight(t, "in words", at(x.c), x.want)
	}
	checkRight(t, "lists without elements", api.Coord{Deals: []api.Deal{}}, true)
}

// P14.1: Right of a deal with each of many Parts, with each State, alone and among others that are right.
func TestRightParts(t *testing.T) {
	for _, x := range manyParts {
		for _, state := range []int{math.MinInt, -2, -1, api.DealOpen, api.DealCommit, api.DealAbort, 3, 4, math.MaxInt} {
			want := 0 <= state && state <= 2 && (x.valid || len(x.l) == 0 && state == 2)
			d := api.Deal{T: tx("7"), Parts: x.l, State: state}
			why := x.why + ", State " + strconv.Itoa(state)
			checkRight(t, why, api.Coord{Deals: []api.Deal{d}}, want)
			for i := range at(rich).Deals {
				c := at(rich)
				c.Deals = slices.Insert(c.Deals, i, d)
				checkRight(t, why+", among others", c, want)
			}
			checkRight(t, why+", the last of MaxTx", api.Coord{Deals: append(crowd(api.Coord{}, api.MaxTx-1).Deals, d)}, want)
		}
	}
}

// P14.1: Right of coordinators of at most MaxTx deals, and of more.
func TestRightNumber(t *testing.T) {
	for _, n := range []int{0, 1, 2, api.MaxTx - 1, api.MaxTx, api.MaxTx + 1, 2 * api.MaxTx, 5000} {
		checkRight(t, strconv.Itoa(n)+" deals", crowd(api.Coord{}, n), n <= api.MaxTx)
		if n > 0 {
			c := crowd(api.Coord{}, n)
			c.Deals = append(c.Deals, c.Deals[n/2])
			checkRight(t, strconv.Itoa(n)+" deals, and one of them again", c, false)
		}
	}
	var many api.Coord
	for i := range api.MaxTx {
		many.Deals = append(many.Deals, api.Deal{T: api.Tx{Age: 1, Id: uint64(i)}, State: api.DealAbort})
	}
	checkRight(t, "MaxTx of one age", many, true)
	many.Deals[api.MaxTx-1].T.Id = 0
	checkRight(t, "the last one as the first one", many, false)
}

// checkSame holds Same to what it is to answer, both ways round.
func checkSame(t *testing.T, why string, a, b api.Coord, want bool) {
	t.Helper()
	if coord.Same(a, b) != want || coord.Same(b, a) != want {
		t.Errorf("%s: Same(%+v, %+v) = %v, %v", why, a, b, coord.Same(a, b), coord.Same(b, a))
	}
}

// P14.1: Same of a coordinator and of one that differs in one element of one deal, in a deal that is more, less, or elsewhere.
func TestSame(t *testing.T) {
	for _, told := range []string{"", "1 abort", rich, "1 open, 1 open, 1 =7 9 9 0, 2 commit 2 1"} {
		checkSame(t, "twice the same", at(told), at(told), true)
		checkSame(t, "twice the same, many", crowd(at(told), 3*api.MaxTx), crowd(at(told), 3*api.MaxTx), true)
	}
	for i := range at(rich).Deals {
		for _, x := range []struct {
			why string
			f   func(*api.Deal)
		}{
			{"the Age", func(d *api.Deal) { d.T.Age = 9 }},
			{"the Age, by 2^32", func(d *api.Deal) { d.T.Age += 1 << 32 }},
			{"the Id", func(d *api.Deal) { d.T.Id = 9 }},
			{"the Id, by 2^63", func(d *api.Deal) { d.T.Id += 1 << 63 }},
			{"the State, by one", func(d *api.Deal) { d.State++ }},
			{"the State, by less", func(d *api.Deal) { d.State-- }},
			{"the State, by much", func(d *api.Deal) { d.State += 1 << 32 }},
			{"one part more", func(d *api.Deal) { d.Parts = append(d.Parts, 9) }},
			{"a part 0 more", func(d *api.Deal) { d.Parts = append(d.Parts, 0) }},
			{"a part more, ahead", func(d *api.Deal) { d.Parts = append([]uint64{0}, d.Parts...) }},
		} {
			c := at(rich)
			x.f(&c.Deals[i])
			checkSame(t, x.why+" of "+strconv.Itoa(i), c, at(rich), false)
			checkSame(t, x.why+" of "+strconv.Itoa(i)+", with itself", c, c, true)
		}
		for k := range at(rich).Deals[i].Parts {
			c := at(rich)
			c.Deals[i].Parts[k]++
			checkSame(t, "a part", c, at(rich), false)
			c.Deals[i].Parts[k] += 1<<32 - 1
			checkSame(t, "a part, by much", c, at(rich), false)
			c = at(rich)
			c.Deals[i].Parts = slices.Delete(c.Deals[i].Parts, k, k+1)
			checkSame(t, "a part less", c, at(rich), false)
			c.Deals[i].Parts = nil
			checkSame(t, "no parts", c, at(rich), false)
		}
		less, more, gone := at(rich), at(rich), at(rich)
		less.Deals = slices.Delete(less.Deals, i, i+1)
		more.Deals = slices.Insert(more.Deals, i, more.Deals[i])
		gone.Deals[i] = api.Deal{}
		checkSame(t, "a deal less", less, at(rich), false)
		checkSame(t, "a deal twice", more, at(rich), false)
		checkSame(t, "a deal that is zero", gone, at(rich), false)
	}
	for _, x := range []struct {
		why string
		f   func(*api.Coord)
	}{
		{"all", func(c *api.Coord) { c.Deals = nil }},
		{"one zero deal more", func(c *api.Coord) { c.Deals = append(c.Deals, api.Deal{}) }},
		{"the order of deals", func(c *api.Coord) { slices.Reverse(c.Deals) }},
		{"two changed about", func(c *api.Coord) { c.Deals[0], c.Deals[1] = c.Deals[1], c.Deals[0] }},
		{"the order of Parts", func(c *api.Coord) { slices.Reverse(c.Deals[0].Parts) }},
		{"Parts of another one", func(c *api.Coord) { c.Deals[0].Parts, c.Deals[3].Parts = c.Deals[3].Parts, c.Deals[0].Parts }},
		{"States of another one", func(c *api.Coord) { c.Deals[0].State, c.Deals[1].State = c.Deals[1].State, c.Deals[0].State }},
		{"the first part at the deal ahead", func(c *api.Coord) {
			c.Deals[0].Parts, c.Deals[1].Parts = append(c.Deals[0].Parts, c.Deals[1].Parts[0]), c.Deals[1].Parts[1:]
		}},
	} {
		c := at(rich)
		x.f(&c)
		checkSame(t, x.why, c, at(rich), false)
	}
}

// P14.1: Same: a list that is nil is one without elements; what stands behind a list is nothing to it.
func TestSameOfEmptyLists(t *testing.T) {
	checkSame(t, "no deals", api.Coord{Deals: []api.Deal{}}, api.Coord{}, true)
	checkSame(t, "no deals, with room", api.Coord{Deals: at(rich).Deals[:0]}, api.Coord{}, true)
	a, b := at("1 abort, 2 open"), at("1 abort, 2 open")
	a.Deals[0].Parts, a.Deals[1].Parts = []uint64{}, []uint64{7}[:0]
	checkSame(t, "no Parts", a, b, true)
	long := at(rich)
	long.Deals = append(long.Deals, api.Deal{})[:5]
	long.Deals[0].Parts = append(long.Deals[0].Parts, 9)[:2]
	checkSame(t, "room behind", long, at(rich), true)
}
