package coord_test

import (
	"math"
	"slices"
	"strconv"
	"testing"

	"ferrule/api"
	"ferrule/coord"
)

// partsOf is a list of numbers, and whether it is one of valid Parts.
type partsOf struct {
	why   string
	l     []uint64
	valid bool
}

// manyParts are Parts that are valid, and such as are not, each for one reason.
var manyParts = []partsOf{
	{"one", []uint64{1}, true}, {"another one", []uint64{2}, true}, {"62", []uint64{62}, true}, {"63", []uint64{63}, true},
	{"two", []uint64{1, 2}, true}, {"two far apart", []uint64{1, 63}, true}, {"the last two", []uint64{62, 63}, true}, {"three", []uint64{2, 3, 9}, true},
	{"seven", []uint64{1, 2, 3, 4, 5, 6, 7}, true}, {"eight", []uint64{1, 2, 3, 4, 5, 6, 7, 8}, true}, {"eight, the last ones", []uint64{56, 57, 58, 59, 60, 61, 62, 63}, true},
	{"nil", nil, false}, {"none", []uint64{}, false},
	{"nine", []uint64{1, 2, 3, 4, 5, 6, 7, 8, 9}, false}, {"nine, the last ones", []uint64{55, 56, 57, 58, 59, 60, 61, 62, 63}, false},
	{"0", []uint64{0}, false}, {"0 ahead", []uint64{0, 1}, false}, {"0 ahead of eight", []uint64{0, 1, 2, 3, 4, 5, 6, 7}, false}, {"0 behind", []uint64{1, 0}, false}, {"0 twice", []uint64{0, 0}, false},
	{"64", []uint64{64}, false}, {"64 behind", []uint64{1, 64}, false}, {"64 behind 63", []uint64{63, 64}, false}, {"64 ahead", []uint64{64, 1}, false}, {"64, the eighth", []uint64{1, 2, 3, 4, 5, 6, 7, 64}, false},
	{"63 of a byte and more", []uint64{256 + 63}, false}, {"1 and 2^32", []uint64{1 << 32}, false}, {"1, behind 2^32", []uint64{1<<32 + 1}, false}, {"2^63", []uint64{1 << 63}, false}, {"the greatest", []uint64{math.MaxUint64}, false}, {"the greatest behind", []uint64{1, math.MaxUint64}, false},
	{"descending", []uint64{2, 1}, false}, {"descending at last", []uint64{1, 3, 2}, false}, {"descending at first", []uint64{2, 1, 3}, false}, {"descending, the eighth", []uint64{1, 2, 3, 4, 5, 6, 8, 7}, false}, {"falling to the first", []uint64{2, 3, 1}, false},
	{"twice", []uint64{1, 1}, false}, {"twice at last", []uint64{1, 2, 2}, false}, {"twice at first", []uint64{5, 5, 9}, false}, {"63 twice", []uint64{63, 63}, false}, {"twice, apart", []uint64{1, 2, 1}, false}, {"twice, the eighth", []uint64{1, 2, 3, 4, 5, 6, 7, 7}, false},
}

// begin is the order of a transaction to begin with these Parts.
func begin(told string, parts []uint64) api.Order {
	return api.Order{Kind: api.OBegin, T: tx(told), Parts: parts}
}

// P14.2: OBegin opens a deal if the Parts are valid, and only then.
func TestBeginParts(t *testing.T) {
	for _, x := range manyParts {
		if !x.valid {
			checkOne(t, x.why, api.Coord{}, begin("7", x.l), api.Coord{}, no(api.ErrArg))
			checkOne(t, x.why+", behind another one", at("1 open 1"), begin("7", x.l), at("1 open 1"), no(api.ErrArg))
			continue
		}
		deal := api.Deal{T: tx("7"), Parts: x.l, State: api.DealOpen}
		checkOne(t, x.why, api.Coord{}, begin("7", x.l), api.Coord{Deals: []api.Deal{deal}}, done)
		checkOne(t, x.why+", behind another one", at("1 commit 2"), begin("7", x.l), api.Coord{Deals: []api.Deal{at("1 commit 2").Deals[0], deal}}, done)
	}
}

// P14.2: OBegin asks for valid Parts ahead of all else.
func TestBeginArgFirst(t *testing.T) {
	for _, x := range manyParts {
		if x.valid {
			continue
		}
		for _, c := range []api.Coord{at("1 open 1 2"), at("1 commit 1 2"), at("1 abort 1 2"), at("1 abort"), at("1 =7"), crowd(api.Coord{}, api.MaxTx), crowd(api.Coord{}, 2*api.MaxTx), crowd(at("1 open 1"), api.MaxTx)} {
			checkOne(t, x.why, c, begin("1", x.l), c, no(api.ErrArg))
		}
		// Also where the deal has just these.
		for s := -1; s <= 3; s++ {
			c := api.Coord{Deals: []api.Deal{{T: tx("1"), Parts: x.l, State: s}}}
			checkOne(t, x.why+", as the deal has them", c, begin("1", x.l), c, no(api.ErrArg))
		}
	}
}

// P14.2: OBegin where there is a deal, and where there is none.
func TestBegin(t *testing.T) {
	checkDo(t, []did{
		{"none", "", "begin 1 1 2", "1 open 1 2", done},
		{"of the transaction 0", "", "begin 0 63", "0 open 63", done},
		{"behind others", "2 open 1 2, 3 commit 4, 4 abort", "begin 1 1 2", "2 open 1 2, 3 commit 4, 4 abort, 1 open 1 2", done},
		{"others of its age", "1.1 open 1, 1.2 commit 1", "begin 1 2", "1.1 open 1, 1.2 commit 1, 1 open 2", done},
		{"others of its Id", "1.1 open 1, 2.1 commit 1", "begin 3.1 2", "1.1 open 1, 2.1 commit 1, 3.1 open 2", done},
		{"Age and Id the other way round", "2.1 commit 1", "begin 1.2 2", "2.1 commit 1, 1.2 open 2", done},
		{"the greatest transaction", "1 open 1", "begin 18446744073709551615.18446744073709551615 2", "1 open 1, 18446744073709551615.18446744073709551615 open 2", done},
		// It is open.
		{"the same Parts", "1 open 1 2", "begin 1 1 2", "=", done},
		{"the same one", "1 open 63", "begin 1 63", "=", done},
		{"the same eight", "1 open 1 2 3 4 5 6 7 8", "begin 1 1 2 3 4 5 6 7 8", "=", done},
		{"the same Parts, of one between others", "2 commit 1, 1 open 1 2, 3 abort", "begin 1 1 2", "=", done},
		{"the same Parts as another one", "2 open 1 2, 1 open 1", "begin 1 1 2", "=", no(api.ErrThere)},
		{"fewer Parts", "1 open 1 2", "begin 1 1", "=", no(api.ErrThere)},
		{"fewer Parts, the last", "1 open 1 2", "begin 1 2", "=", no(api.ErrThere)},
		{"more Parts", "1 open 1", "begin 1 1 2", "=", no(api.ErrThere)},
		{"others", "1 open 1 2", "begin 1 1 3", "=", no(api.ErrThere)},
		{"others, the first", "1 open 1 3", "begin 1 2 3", "=", no(api.ErrThere)},
		{"others, the eighth", "1 open 1 2 3 4 5 6 7 8", "begin 1 1 2 3 4 5 6 7 9", "=", no(api.ErrThere)},
		// It is over.
		{"committed, the same Parts", "1 commit 1 2", "begin 1 1 2", "=", over(true)},
		{"committed, others", "1 commit 1 2", "begin 1 3", "=", over(true)},
		{"aborted, the same Parts", "1 abort 1 2", "begin 1 1 2", "=", over(false)},
		{"aborted, others", "1 abort 1 2", "begin 1 1", "=", over(false)},
		{"aborted ahead of its beginning", "1 abort", "begin 1 1 2", "=", over(false)},
		{"committed, between others", "2 open 1 2, 1 commit 1 2, 3 abort", "begin 1 1 2", "=", over(true)},
		{"aborted, between others", "2 open 1 2, 1 abort 1 2, 3 commit 1 2", "begin 1 1 2", "=", over(false)},
		// Coordinators that are not right.
		{"below all states", "1 =-1 1 2", "begin 1 1 2", "=", over(false)},
		{"above all states", "1 =3 1 2", "begin 1 1 2", "=", over(false)},
		{"far above all states", "1 =4294967297 1 2", "begin 1 1 2", "=", over(false)},
		{"open, without Parts", "1 open", "begin 1 1 2", "=", no(api.ErrThere)},
		{"open, with Parts that are not valid", "1 open 2 1", "begin 1 1 2", "=", no(api.ErrThere)},
		{"committed, without Parts", "1 commit", "begin 1 1", "=", over(true)},
		{"twice, open first", "1 open 1 2, 1 commit 1 2", "begin 1 1 2", "=", done},
		{"twice, open first, with others", "1 open 1 2, 1 open 1", "begin 1 1", "=", no(api.ErrThere)},
		{"twice, committed first", "1 commit 1 2, 1 open 1 2", "begin 1 1 2", "=", over(true)},
		{"twice, aborted first", "1 abort 1 2, 1 commit 1 2", "begin 1 1 2", "=", over(false)},
		{"thrice", "2 open 1, 1 commit 1, 1 abort 1, 1 open 1", "begin 1 1", "=", over(true)},
	})
}

// P14.2: OBegin opens no deal where there are MaxTx or more; one that is there is answered as ever.
func TestBeginFull(t *testing.T) {
	for _, n := range []int{api.MaxTx - 2, api.MaxTx - 1, api.MaxTx, api.MaxTx + 1, 2 * api.MaxTx} {
		why := strconv.Itoa(n) + " deals"
		c := crowd(api.Coord{}, n)
		if n < api.MaxTx {
			after := api.Coord{Deals: append(slices.Clone(c.Deals), at("1 open 1 2").Deals...)}
			checkOne(t, why, c, order("begin 1 1 2"), after, done)
		} else {
			checkOne(t, why, c, order("begin 1 1 2"), c, no(api.ErrFull))
		}
		for _, x := range []did{
			{"the same Parts", "1 open 1 2", "begin 1 1 2", "", done},
			{"others", "1 open 1 2", "begin 1 1", "", no(api.ErrThere)},
			{"committed", "1 commit 1 2", "begin 1 1 2", "", over(true)},
			{"aborted", "1 abort 1 2", "begin 1 1 2", "", over(false)},
			{"aborted ahead of its beginning", "1 abort", "begin 1 1 2", "", over(false)},
		} {
			c := crowd(at(x.c), n-1)
			checkOne(t, why+" with it: "+x.why, c, order(x.o), c, x.a)
			slices.Reverse(c.Deals)
			checkOne(t, why+" with it, the first: "+x.why, c, order(x.o), c, x.a)
		}
	}
	// One after another, till there is no room.
	c := api.Coord{}
	for i := range api.MaxTx + 3 {
		o := begin(strconv.Itoa(i), []uint64{uint64(1 + i%63)})
		want := trimmed(c)
		a := no(api.ErrFull)
		if i < api.MaxTx {
			want.Deals = append(want.Deals, api.Deal{T: o.T, Parts: o.Parts})
			a = done
		}
		checkOne(t, "the next one", c, o, want, a)
		c, _ = coord.Do(c, o)
	}
}
