package coord_test

import (
	"math/rand"
	"slices"
	"testing"

	"ferrule/api"
	"ferrule/coord"
)

// plainFind is the first deal with that T, and where it is.
func plainFind(c api.Coord, t api.Tx) (int, api.Deal, bool) {
	for i, d := range c.Deals {
		if d.T == t {
			return i, d, true
		}
	}
	return 0, api.Deal{}, false
}

// plainValid is the chapter's Words: 1 to 8 numbers, strictly ascending, each from 1 to 63.
func plainValid(parts []uint64) bool {
	if len(parts) == 0 || len(parts) > 8 {
		return false
	}
	for i, p := range parts {
		if p < 1 || p > 63 || i > 0 && parts[i-1] >= p {
			return false
		}
	}
	return true
}

// plainBegin is P14.2 of OBegin, sentence by sentence.
func plainBegin(c api.Coord, o api.Order) (api.Coord, api.Answer) {
	if !plainValid(o.Parts) {
		return c, no(api.ErrArg)
	}
	if _, d, there := plainFind(c, o.T); there {
		if d.State != 0 {
			return c, over(d.State == 1)
		}
		same := len(d.Parts) == len(o.Parts)
		for i := 0; same && i < len(d.Parts); i++ {
			same = d.Parts[i] == o.Parts[i]
		}
		if same {
			return c, done
		}
		return c, no(api.ErrThere)
	}
	if len(c.Deals) >= 64 {
		return c, no(api.ErrFull)
	}
	after := trimmed(c)
	after.Deals = append(after.Deals, api.Deal{T: o.T, Parts: slices.Clone(o.Parts)})
	return after, done
}

// plainDecide is P14.2 of ODecide, sentence by sentence.
func plainDecide(c api.Coord, o api.Order, commit bool) (api.Coord, api.Answer) {
	after := trimmed(c)
	if i, d, there := plainFind(c, o.T); there {
		if d.State == 0 && commit {
			after.Deals[i].State = 1
		}
		if d.State == 0 && !commit {
			after.Deals[i].State = 2
		}
		return after, ended(after.Deals[i].State == 1)
	}
	if commit {
		return c, no(api.ErrNone)
	}
	if len(c.Deals) >= 64 {
		return c, no(api.ErrFull)
	}
	after.Deals = append(after.Deals, api.Deal{T: o.T, State: 2})
	return after, ended(false)
}

// plainDo is P14.2.
func plainDo(c api.Coord, o api.Order) (api.Coord, api.Answer) {
	if o.Kind == api.OBegin {
		return plainBegin(c, o)
	}
	if o.Kind == api.ODecide {
		return plainDecide(c, o, o.Commit)
	}
	if o.Kind == api.OStatus {
		return plainDecide(c, o, false)
	}
	return c, no(api.ErrArg)
}

// plainRight is P14.1 of Right, part by part.
func plainRight(c api.Coord) bool {
	if len(c.Deals) > 64 {
		return false
	}
	for i, d := range c.Deals {
		if k, _, _ := plainFind(c, d.T); k != i || d.State < 0 || d.State > 2 {
			return false
		}
		if !plainValid(d.Parts) && !(len(d.Parts) == 0 && d.State == 2) {
			return false
		}
	}
	return true
}

// held holds Do, and Find, to the plain words.
func held(t *testing.T, c api.Coord, o api.Order) (api.Coord, api.Answer) {
	t.Helper()
	wantC, wantA := plainDo(c, o)
	got, a := coord.Do(c, o)
	if a != wantA || !plainSame(got, wantC) {
		t.Fatalf("Do(%+v, %+v):\n got %+v, %+v\nwant %+v, %+v", c, o, got, a, wantC, wantA)
	}
	if a.Err != api.OK && (a != no(a.Err) && a.Err != api.ErrOver || !plainSame(got, c)) {
		t.Fatalf("Do(%+v, %+v) = %+v, %+v", c, o, got, a)
	}
	_, want, wantThere := plainFind(c, o.T)
	if d, there := coord.Find(c, o.T); there != wantThere || !plainSame(api.Coord{Deals: []api.Deal{d}}, api.Coord{Deals: []api.Deal{want}}) {
		t.Fatalf("Find(%+v, %+v) = %+v, %v", c, o.T, d, there)
	}
	return got, a
}

// heldRight holds Right and Same to the plain words.
func heldRight(t *testing.T, c, other api.Coord) bool {
	t.Helper()
	if got := coord.Right(c); got != plainRight(c) {
		t.Fatalf("Right(%+v) = %v", c, got)
	}
	if coord.Same(c, other) != plainSame(c, other) || coord.Same(other, c) != plainSame(c, other) || !coord.Same(c, trimmed(c)) {
		t.Fatalf("Same(%+v, %+v) = %v", c, other, coord.Same(c, other))
	}
	return plainRight(c)
}

// listsOf are all lists of at most so many of the items.
func listsOf[T any](most int, items ...T) [][]T {
	all := [][]T{nil}
	for from := 0; from < len(all) && len(all[from]) < most; from++ {
		for _, x := range items {
			all = append(all, append(slices.Clone(all[from]), x))
		}
	}
	return all
}

// smallOrders are orders of three transactions, of one of which small coordinators have nothing.
func smallOrders() []api.Order {
	var l []api.Order
	for _, who := range []string{"1", "1.1", "3"} {
		l = append(l, orders("begin "+who+" 1, begin "+who+" 1 2, begin "+who+" 2 1, begin "+who+", commit "+who+", abort "+who+", status "+who)...)
		l = append(l, api.Order{Kind: api.OStatus, T: tx(who), Commit: true, Parts: []uint64{1}}, api.Order{Kind: api.OFinish, T: tx(who), Commit: true})
	}
	return l
}

// P14.1 and P14.2: every coordinator of up to three deals, right or not, with every order.
func TestSmallCoordsArePlain(t *testing.T) {
	deals := at("1 open 1, 1 open 1 2, 1 commit 1 2, 1 abort 1 2, 1 abort, 1 open, 1 =3 1, 1.1 open 1, 1.1 open 2 1, 1.1 commit 1, 1.1 abort, 1.1 =-1 1 2").Deals
	all, rights := smallOrders(), 0
	last := api.Coord{}
	for _, l := range listsOf(3, deals...) {
		c := api.Coord{Deals: l}
		if heldRight(t, c, last) {
			rights++
		}
		for _, o := range all {
			held(t, c, o)
		}
		last = c
	}
	if rights < 30 {
		t.Errorf("%d coordinators are right only", rights)
	}
}

// P14.1 and P14.2: all Parts of up to four numbers, of an order and of a deal.
func TestSmallPartsArePlain(t *testing.T) {
	for _, parts := range listsOf(4, uint64(0), 1, 2, 62, 63, 64) {
		o := api.Order{Kind: api.OBegin, T: tx("1"), Parts: parts}
		for _, told := range []string{"", "1 open 1 2", "1 open 1 2 62 63", "1 commit 1 2", "2 open 1"} {
			held(t, at(told), o)
		}
		for state := -1; state <= 3; state++ {
			c := api.Coord{Deals: []api.Deal{{T: tx("1"), Parts: parts, State: state}}}
			heldRight(t, c, at("1 open 1"))
			held(t, c, o)
			held(t, c, order("begin 1 1 2"))
		}
	}
}

// oneOf is one of a list.
func oneOf[T any](r *rand.Rand, l []T) T { return l[r.Intn(len(l))] }

// some are so many transactions of few ages.
func some(r *rand.Rand, n int) []api.Tx {
	var l []api.Tx
	for range n {
		l = append(l, api.Tx{Age: uint64(r.Intn(n)), Id: uint64(r.Intn(3))})
	}
	return l
}

// mixedParts are Parts, most of which are valid.
func mixedParts(r *rand.Rand) []uint64 {
	if r.Intn(4) == 0 {
		return []uint64{uint64(1 + r.Intn(3))}
	}
	var l []uint64
	for range 1 + r.Intn(api.MaxPart) {
		l = append(l, uint64(1+r.Intn(api.MaxId)))
	}
	slices.Sort(l)
	l = slices.Compact(l)
	switch r.Intn(30) {
	case 0:
		return oneOf(r, manyParts).l
	case 1:
		slices.Reverse(l)
	case 2:
		l = append(l, uint64(60+r.Intn(8)))
	case 3:
		return nil
	}
	return l
}

// mixedCoord is a coordinator of any of these, right or not.
func mixedCoord(r *rand.Rand, who []api.Tx) api.Coord {
	var c api.Coord
	n := oneOf(r, []int{r.Intn(6), r.Intn(20), 60 + r.Intn(8)})
	l := slices.Clone(who)
	r.Shuffle(len(l), func(i, k int) { l[i], l[k] = l[k], l[i] })
	if wrong := r.Intn(2) == 0; !wrong {
		met := map[api.Tx]bool{}
		l = slices.DeleteFunc(l, func(t api.Tx) bool {
			twice := met[t]
			met[t] = true
			return twice
		})
	}
	for i := range min(n, len(l)) {
		d := api.Deal{T: l[i], Parts: mixedParts(r), State: r.Intn(3)}
		if d.State == api.DealAbort && r.Intn(3) == 0 {
			d.Parts = nil
		}
		if r.Intn(100) == 0 {
			d.State = r.Intn(9) - 4
		}
		c.Deals = append(c.Deals, d)
	}
	return c
}

// mixedOrder is an order of one of them.
func mixedOrder(r *rand.Rand, c api.Coord, who []api.Tx) api.Order {
	o := api.Order{Kind: api.OBegin + r.Intn(3), T: oneOf(r, who), Commit: r.Intn(2) > 0}
	if o.Kind == api.OBegin {
		o.Parts = mixedParts(r)
		if _, d, there := plainFind(c, o.T); there && r.Intn(2) == 0 {
			o.Parts = d.Parts
		}
	}
	if r.Intn(40) == 0 {
		o.Kind = oneOf(r, otherKinds)
	}
	return o
}

// P14.1 and P14.2: mixed coordinators, right or not, and mixed orders.
func TestMixedCoordsArePlain(t *testing.T) {
	r := rand.New(rand.NewSource(14))
	told := map[int]map[api.Errno]int{}
	last, rights := api.Coord{}, 0
	for range 5000 {
		who := some(r, 1+r.Intn(120))
		c := mixedCoord(r, who)
		if heldRight(t, c, last) {
			rights++
		}
		for range 6 {
			o := mixedOrder(r, c, append(who, api.Tx{Age: 999}))
			after, a := held(t, c, o)
			heldRight(t, after, c)
			if told[o.Kind] == nil {
				told[o.Kind] = map[api.Errno]int{}
			}
			told[o.Kind][a.Err]++
		}
		last = c
	}
	for kind, all := range map[int][]api.Errno{
		api.OBegin:  {api.OK, api.ErrArg, api.ErrOver, api.ErrThere, api.ErrFull},
		api.ODecide: {api.OK, api.ErrNone, api.ErrFull},
		api.OStatus: {api.OK, api.ErrFull},
		api.OFinish: {api.ErrArg},
	} {
		for _, e := range all {
			if told[kind][e] < 20 {
				t.Errorf("kind %d, the error %d: only %d times", kind, e, told[kind][e])
			}
		}
	}
	if rights < 500 {
		t.Errorf("%d coordinators are right only", rights)
	}
}
