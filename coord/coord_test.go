package coord_test

import (
	"math"
	"reflect"
	"slices"
	"strconv"
	"strings"
	"testing"

	"ferrule/api"
	"ferrule/coord"
)

// words are what commas separate.
func words(told string) []string {
	if told == "" {
		return nil
	}
	return strings.Split(told, ", ")
}

// num is a number.
func num(told string) uint64 {
	n, err := strconv.ParseUint(told, 10, 64)
	if err != nil {
		panic(err)
	}
	return n
}

// nums are several.
func nums(told []string) []uint64 {
	var l []uint64
	for _, x := range told {
		l = append(l, num(x))
	}
	return l
}

// tx is a transaction: "2" of the age 2, "2.1" with the Id 1.
func tx(told string) api.Tx {
	age, id, ok := strings.Cut(told, ".")
	if !ok {
		id = "0"
	}
	return api.Tx{Age: num(age), Id: num(id)}
}

// state is one: "open", "commit", "abort", or another number, as "=7".
func state(told string) int {
	switch told {
	case "open":
		return 0
	case "commit":
		return 1
	case "abort":
		return 2
	}
	n, err := strconv.Atoi(strings.TrimPrefix(told, "="))
	if err != nil {
		panic(err)
	}
	return n
}

// at is a coordinator: "1 open 1 2, 2.1 commit 3, 4 abort".
func at(told string) api.Coord {
	var c api.Coord
	for _, x := range words(told) {
		part := strings.Split(x, " ")
		c.Deals = append(c.Deals, api.Deal{T: tx(part[0]), State: state(part[1]), Parts: nums(part[2:])})
	}
	return c
}

// order is one: "begin 1 1 2", "commit 1", "abort 1", "status 1".
func order(told string) api.Order {
	part := strings.Split(told, " ")
	o := api.Order{T: tx(part[1])}
	switch part[0] {
	case "begin":
		o.Kind, o.Parts = api.OBegin, nums(part[2:])
	case "commit":
		o.Kind, o.Commit = api.ODecide, true
	case "abort":
		o.Kind = api.ODecide
	case "status":
		o.Kind = api.OStatus
	default:
		panic(told)
	}
	return o
}

// orders are several.
func orders(told string) []api.Order {
	var l []api.Order
	for _, x := range words(told) {
		l = append(l, order(x))
	}
	return l
}

// done is the answer that tells nothing but OK.
var done = api.Answer{}

// no is an error alone.
func no(e api.Errno) api.Answer { return api.Answer{Err: e} }

// over is that a transaction is over, and how it ended.
func over(commit bool) api.Answer { return api.Answer{Err: api.ErrOver, Commit: commit} }

// ended is how a transaction has ended.
func ended(commit bool) api.Answer { return api.Answer{Commit: commit} }

// trimmed is a copy of the coordinator in which no list is empty and not nil.
func trimmed(c api.Coord) api.Coord {
	var after api.Coord
	for _, d := range c.Deals {
		d.Parts = append([]uint64(nil), d.Parts...)
		after.Deals = append(after.Deals, d)
	}
	return after
}

// plainSame: are two coordinators the same, in every field? A list that is nil is one that is empty.
func plainSame(a, b api.Coord) bool { return reflect.DeepEqual(trimmed(a), trimmed(b)) }

// crowd is the coordinator with so many more deals of great ages, of all states, ahead of its own.
func crowd(c api.Coord, n int) api.Coord {
	var l []api.Deal
	for i := range n {
		d := api.Deal{T: api.Tx{Age: uint64(1000 + i)}, State: i % 3}
		if i%6 != 5 {
			d.Parts = []uint64{uint64(1 + i%63)}
		}
		l = append(l, d)
	}
	c.Deals = slices.Concat(l, c.Deals)
	return c
}

// did is what Do is given, and what it is to answer; the coordinator that results is told as at tells it, or is "=": as it was.
type did struct {
	why, c, o, after string
	a                api.Answer
}

// checkDo holds Do to what it is to answer.
func checkDo(t *testing.T, all []did) {
	t.Helper()
	for _, x := range all {
		after := x.after
		if after == "=" {
			after = x.c
		}
		checkOne(t, x.why, at(x.c), order(x.o), at(after), x.a)
	}
}

// checkOne holds one call of Do to what it is to answer.
func checkOne(t *testing.T, why string, c api.Coord, o api.Order, after api.Coord, a api.Answer) {
	t.Helper()
	got, said := coord.Do(c, o)
	if !plainSame(got, after) {
		t.Errorf("%s: Do(%+v, %+v):\n got %+v\nwant %+v", why, c, o, got, after)
	}
	if said != a {
		t.Errorf("%s: Do(%+v, %+v) answers %+v, want %+v", why, c, o, said, a)
	}
}

// checkRun holds Do to what it is to answer, from the empty coordinator on; the c of the steps is not asked for.
func checkRun(t *testing.T, all []did) {
	t.Helper()
	c := api.Coord{}
	for _, x := range all {
		checkOne(t, x.why, c, order(x.o), at(x.after), x.a)
		c, _ = coord.Do(c, order(x.o))
	}
}

// P14.2: the chapter's example.
func TestExample(t *testing.T) {
	checkRun(t, []did{
		{"it begins", "", "begin 1 1 2", "1 open 1 2", done},
		{"somebody asks", "", "status 1", "1 abort 1 2", ended(false)},
		{"it is to be committed", "", "commit 1", "1 abort 1 2", ended(false)},
	})
}

// P14.2: the first decision counts, and everybody hears of it.
func TestFirstDecision(t *testing.T) {
	checkRun(t, []did{
		{"to commit what is not there", "", "commit 1", "", no(api.ErrNone)},
		{"it begins", "", "begin 1 1 2", "1 open 1 2", done},
		{"it begins again", "", "begin 1 1 2", "1 open 1 2", done},
		{"it is decided", "", "commit 1", "1 commit 1 2", ended(true)},
		{"again", "", "commit 1", "1 commit 1 2", ended(true)},
		{"otherwise", "", "abort 1", "1 commit 1 2", ended(true)},
		{"somebody asks", "", "status 1", "1 commit 1 2", ended(true)},
		{"it begins too late", "", "begin 1 1 2", "1 commit 1 2", over(true)},
		{"another one is aborted ahead of its beginning", "", "abort 2", "1 commit 1 2, 2 abort", ended(false)},
		{"it begins", "", "begin 2 3", "1 commit 1 2, 2 abort", over(false)},
		{"it is to be committed", "", "commit 2", "1 commit 1 2, 2 abort", ended(false)},
		{"a third one begins", "", "begin 1.1 63", "1 commit 1 2, 2 abort, 1.1 open 63", done},
		{"and is aborted", "", "abort 1.1", "1 commit 1 2, 2 abort, 1.1 abort 63", ended(false)},
		{"it is to be committed", "", "commit 1.1", "1 commit 1 2, 2 abort, 1.1 abort 63", ended(false)},
		{"somebody asks for a fourth one", "", "status 3", "1 commit 1 2, 2 abort, 1.1 abort 63, 3 abort", ended(false)},
		{"which begins", "", "begin 3 1", "1 commit 1 2, 2 abort, 1.1 abort 63, 3 abort", over(false)},
	})
}

// otherKinds are kinds that the coordinator has nothing of.
var otherKinds = []int{0, -1, -5, -6, -7, api.ORead, api.OLock, api.OPrepare, api.OFinish, 8, 9, 1<<8 + 5, 1<<16 + 6, 1<<32 + 7, 1<<32 + 5, math.MinInt, math.MinInt + 6, math.MaxInt}

// P14.2: any other kind is ErrArg, whatever else the order has, and whatever the transaction came to; its fields need not be valid.
func TestOtherKinds(t *testing.T) {
	coords := []api.Coord{{}, at("1 open 1 2, 2 commit 3, 3 abort, 4 abort 5, 5 =7 1, 1 commit 1"), crowd(api.Coord{}, api.MaxTx), crowd(at("1 open 1 2"), 2*api.MaxTx)}
	for _, kind := range otherKinds {
		for _, c := range coords {
			for _, o := range orders("begin 1 1 2, begin 9 1 2, begin 9, begin 9 2 1, begin 9 0, begin 1 64, commit 1, commit 9, abort 1, abort 9, status 1, status 9, commit 3, begin 2 1") {
				o.Kind = kind
				checkOne(t, "kind "+strconv.Itoa(kind), c, o, c, no(api.ErrArg))
				o.Key, o.Puts, o.Commit = strings.Repeat("k", api.MaxKey+1), []api.Put{{}, {}, {Val: "v", Gone: true}}, true
				checkOne(t, "kind "+strconv.Itoa(kind)+", with other fields", c, o, c, no(api.ErrArg))
			}
		}
	}
}

// P14.2: what a kind does not name is nothing to it.
func TestFieldsOfOtherKinds(t *testing.T) {
	for _, told := range []string{"", "1 open 1 2", "1 open 1", "1 commit 1 2", "1 abort 1 2", "1 abort", "2 open 1 2"} {
		for _, o := range orders("begin 1 1 2, begin 1, begin 1 2 1, commit 1, abort 1, status 1") {
			after, a := coord.Do(at(told), o)
			full := o
			full.Key, full.Puts = strings.Repeat("k", api.MaxKey+1), []api.Put{{Key: "a", Val: "1"}, {Key: "a", Gone: true}}
			checkOne(t, "a key and Puts", at(told), full, after, a)
			if o.Kind != api.ODecide {
				full.Commit = true
				checkOne(t, "Commit of a kind without", at(told), full, after, a)
			}
			if o.Kind != api.OBegin {
				for _, parts := range [][]uint64{{1, 2}, {3}, {2, 1}, {0}, {64}, {}} {
					full.Parts = parts
					checkOne(t, "Parts of a kind without", at(told), full, after, a)
				}
			}
		}
	}
}
