package shard_test

import (
	"reflect"
	"slices"
	"strconv"
	"strings"
	"testing"

	"ferrule/api"
	"ferrule/shard"
)

// words are what commas separate.
func words(told string) []string {
	if told == "" {
		return nil
	}
	return strings.Split(told, ", ")
}

// num is a number.
func num(told string) uint64 {
	n, err := strconv.ParseUint(told, 10, 64)
	if err != nil {
		panic(err)
	}
	return n
}

// tx is a transaction: "2" of the age 2, "2.1" with the Id 1.
func tx(told string) api.Tx {
	age, id, ok := strings.Cut(told, ".")
	if !ok {
		id = "0"
	}
	return api.Tx{Age: num(age), Id: num(id)}
}

// put is a put: "a=1" writes, "a-" is Gone.
func put(told string) api.Put {
	if key, gone := strings.CutSuffix(told, "-"); gone {
		return api.Put{Key: key, Gone: true}
	}
	key, val, ok := strings.Cut(told, "=")
	if !ok {
		panic(told)
	}
	return api.Put{Key: key, Val: val}
}

// putsOf are puts: "a=1 b-".
func putsOf(told ...string) []api.Put {
	var l []api.Put
	for _, x := range told {
		l = append(l, put(x))
	}
	return l
}

// rowsOf are rows: "a 2 7, b 1 7".
func rowsOf(told string) []api.Row {
	var l []api.Row
	for _, x := range words(told) {
		part := strings.Split(x, " ")
		l = append(l, api.Row{Key: part[0], Val: part[1], Ver: num(part[2])})
	}
	return l
}

// holdsOf are holds: "a 2 r, b 2.1 w".
func holdsOf(told string) []api.Hold {
	var l []api.Hold
	for _, x := range words(told) {
		part := strings.Split(x, " ")
		l = append(l, api.Hold{Key: part[0], T: tx(part[1]), Write: part[2] == "w"})
	}
	return l
}

// openOf are elements of Open: "1, 2 wounded, 3 firm a=1 b-".
func openOf(told string) []api.Open {
	var l []api.Open
	for _, x := range words(told) {
		part := strings.Split(x, " ")
		o := api.Open{T: tx(part[0])}
		for _, y := range part[1:] {
			switch y {
			case "firm":
				o.Firm = true
			case "wounded":
				o.Wounded = true
			default:
				o.Puts = append(o.Puts, put(y))
			}
		}
		l = append(l, o)
	}
	return l
}

// doneOf are elements of Done: "1 yes, 2 no".
func doneOf(told string) []api.Done {
	var l []api.Done
	for _, x := range words(told) {
		part := strings.Split(x, " ")
		l = append(l, api.Done{T: tx(part[0]), Commit: part[1] == "yes"})
	}
	return l
}

// at is a shard: "rows: a 2 7; holds: b 1 w; open: 1; done: 2 yes; ver: 7", each part if it is not empty.
func at(told string) api.Shard {
	var s api.Shard
	if told == "" {
		return s
	}
	for _, x := range strings.Split(told, "; ") {
		what, is, _ := strings.Cut(x, ": ")
		switch what {
		case "rows":
			s.Rows = rowsOf(is)
		case "holds":
			s.Holds = holdsOf(is)
		case "open":
			s.Open = openOf(is)
		case "done":
			s.Done = doneOf(is)
		case "ver":
			s.Ver = num(is)
		default:
			panic(told)
		}
	}
	return s
}

// order is one: "read 1 a", "lock 1 a", "prepare 1 a=1 b-", "commit 1", "abort 1".
func order(told string) api.Order {
	part := strings.Split(told, " ")
	o := api.Order{T: tx(part[1])}
	switch part[0] {
	case "read":
		o.Kind, o.Key = api.ORead, part[2]
	case "lock":
		o.Kind, o.Key = api.OLock, part[2]
	case "prepare":
		o.Kind, o.Puts = api.OPrepare, putsOf(part[2:]...)
	case "commit":
		o.Kind, o.Commit = api.OFinish, true
	case "abort":
		o.Kind = api.OFinish
	default:
		panic(told)
	}
	return o
}

// orders are several.
func orders(told string) []api.Order {
	var l []api.Order
	for _, x := range words(told) {
		l = append(l, order(x))
	}
	return l
}

// done is the answer that tells nothing but OK.
var done = api.Answer{}

// no is an error alone.
func no(e api.Errno) api.Answer { return api.Answer{Err: e} }

// over is that a transaction is over, and how it ended.
func over(commit bool) api.Answer { return api.Answer{Err: api.ErrOver, Commit: commit} }

// row is a row that was found.
func row(val string, ver uint64) api.Answer { return api.Answer{Val: val, Ver: ver, Found: true} }

// nothing is that there is no row, at a version of the shard.
func nothing(ver uint64) api.Answer { return api.Answer{Ver: ver} }

// ended is how a transaction has ended, as was asked.
func ended(commit bool) api.Answer { return api.Answer{Commit: commit} }

// text is a text of so many bytes.
func text(n int) string { return strings.Repeat("t", n) }

// changed is the shard with something else in it.
func changed(s api.Shard, f func(*api.Shard)) api.Shard {
	f(&s)
	return s
}

// plainSame: are two shards the same, in every field? A list that is nil is one that is empty.
func plainSame(a, b api.Shard) bool { return reflect.DeepEqual(trimmed(a), trimmed(b)) }

// trimmed is a copy of the shard in which no list is empty and not nil.
func trimmed(s api.Shard) api.Shard {
	after := api.Shard{Ver: s.Ver}
	after.Rows = append(after.Rows, s.Rows...)
	after.Holds = append(after.Holds, s.Holds...)
	after.Done = append(after.Done, s.Done...)
	for _, x := range s.Open {
		x.Puts = append([]api.Put(nil), x.Puts...)
		after.Open = append(after.Open, x)
	}
	return after
}

// did is what Do is given, and what it is to answer; the shard that results is told as at tells it, or is "=": as it was.
type did struct {
	why, s, o, after string
	a                api.Answer
}

// checkDo holds Do to what it is to answer.
func checkDo(t *testing.T, all []did) {
	t.Helper()
	for _, x := range all {
		after := x.after
		if after == "=" {
			after = x.s
		}
		checkOne(t, x.why, at(x.s), order(x.o), at(after), x.a)
	}
}

// checkOne holds one call of Do to what it is to answer.
func checkOne(t *testing.T, why string, s api.Shard, o api.Order, after api.Shard, a api.Answer) {
	t.Helper()
	got, said := shard.Do(s, o)
	if !plainSame(got, after) {
		t.Errorf("%s: Do(%+v, %+v):\n got %+v\nwant %+v", why, s, o, got, after)
	}
	if said != a {
		t.Errorf("%s: Do(%+v, %+v) answers %+v, want %+v", why, s, o, said, a)
	}
}

// numbered are so many transactions of great ages, from the i-th on.
func numbered(i, n int) []api.Tx {
	var l []api.Tx
	for k := range n {
		l = append(l, api.Tx{Age: uint64(1000 + i + k)})
	}
	return l
}

// withOpen is the shard with so many more elements of Open, ahead of its own.
func withOpen(s api.Shard, n int) api.Shard {
	var l []api.Open
	for _, t := range numbered(0, n) {
		l = append(l, api.Open{T: t})
	}
	s.Open = slices.Concat(l, s.Open)
	return s
}

// withDone is the shard with so many more elements of Done, ahead of its own.
func withDone(s api.Shard, n int) api.Shard {
	var l []api.Done
	for i, t := range numbered(500, n) {
		l = append(l, api.Done{T: t, Commit: i%2 > 0})
	}
	s.Done = slices.Concat(l, s.Done)
	return s
}

// withRows is the shard with so many rows, r100, r101 and so on, ahead of its own.
func withRows(s api.Shard, n int) api.Shard {
	var l []api.Row
	for i := range n {
		l = append(l, api.Row{Key: "r" + strconv.Itoa(100+i), Val: strconv.Itoa(i), Ver: uint64(i)})
	}
	s.Rows = slices.Concat(l, s.Rows)
	return s
}

// filled are ways to have so many transactions besides those of the shard: all open, all over, some of each.
func filled(s api.Shard, n int) []api.Shard {
	return []api.Shard{withOpen(s, n), withDone(s, n), withDone(withOpen(s, n/2), n-n/2), withDone(withOpen(s, 1), n-1)}
}

// P13.1: the chapter's example.
func TestExample(t *testing.T) {
	s := api.Shard{}
	for _, x := range []did{
		{"it writes a", "", "lock 1 a", "holds: a 1 w; open: 1", nothing(0)},
		{"it prepares", "", "prepare 1 a=1", "holds: a 1 w; open: 1 firm a=1", done},
		{"it commits", "", "commit 1", "rows: a 1 1; done: 1 yes; ver: 1", ended(true)},
		{"it aborts then", "", "abort 1", "rows: a 1 1; done: 1 yes; ver: 1", over(true)},
	} {
		checkOne(t, x.why, s, order(x.o), at(x.after), x.a)
		s, _ = shard.Do(s, order(x.o))
	}
}

// P13.1: any other kind is ErrArg, whatever else the order has, and whatever the transaction is.
func TestOtherKinds(t *testing.T) {
	shards := []api.Shard{{}, at("rows: a 1 1; holds: a 1 w; open: 1 firm a=2, 2 wounded; done: 3 yes, 4 no; ver: 5"), withOpen(api.Shard{}, api.MaxTx)}
	const least, most = -1 << 63, 1<<63 - 1
	for _, kind := range []int{0, -1, -2, -3, -4, least, api.OBegin, api.ODecide, api.OStatus, 8, 9, 257, 1 << 8, 1 << 16, 1 << 32, 1<<32 + 1, most} {
		for _, s := range shards {
			for _, o := range orders("read 1 a, lock 2 , prepare 1 a=2, commit 1, abort 3, commit 9, read 3 a, lock 9 a") {
				o.Kind, o.Parts = kind, []uint64{1, 2}
				checkOne(t, "kind "+strconv.Itoa(kind), s, o, s, no(api.ErrArg))
			}
		}
	}
}

// P13.1: what a kind does not name is nothing to it.
func TestFieldsOfOtherKinds(t *testing.T) {
	states := []string{"", "holds: a 1 w; open: 1", "holds: a 1 w; open: 1 firm a=1", "open: 1 wounded", "done: 1 yes", "rows: a 1 1; done: 1 no; ver: 1"}
	for _, told := range states {
		for _, o := range orders("read 1 a, lock 1 a, prepare 1 a=1, commit 1, abort 1, prepare 1, read 1 ") {
			full := o
			if full.Key == "" && o.Kind != api.ORead {
				full.Key = "b"
			}
			if o.Kind != api.OPrepare {
				full.Puts = putsOf("a=1", "a=2")
			}
			if o.Kind != api.OFinish {
				full.Commit = true
			}
			full.Parts = []uint64{9, 0}
			after, a := shard.Do(at(told), o)
			checkOne(t, "fields of other kinds", at(told), full, after, a)
		}
	}
}
