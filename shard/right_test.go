package shard_test

import (
	"math"
	"slices"
	"strconv"
	"strings"
	"testing"

	"ferrule/api"
	"ferrule/shard"
)

// checkRight holds Right to what it is to answer.
func checkRight(t *testing.T, why string, s api.Shard, want bool) {
	t.Helper()
	if shard.Right(s) != want {
		t.Errorf("%s: Right(%+v) = %v", why, s, !want)
	}
}

// rich is a shard that is right and has something of each kind.
const rich = "rows: a 1 1, b 2 3, d 4 2; holds: a 1 w, b 2 r, c 3 w, b 4 r, d 3 w, e 3 r; open: 4, 3 firm c=7 d-, 2 firm, 1, 5 wounded, 6; done: 7 yes, 8 no; ver: 3"

// P13.2: Right of shards in which none, or one, of what it asks for fails.
func TestRight(t *testing.T) {
	for _, x := range []struct {
		s    string
		want bool
	}{
		{"", true}, {"ver: 7", true}, {"open: 1", true}, {"open: 1 wounded", true}, {"open: 1 firm", true}, {"done: 1 yes", true}, {"done: 1 no", true}, {"rows: a 1 1", true}, {"open: 0; done: 0.1 no", true},
		{rich, true},
		// Rows and holds, as layers 11 and 12 say.
		{"rows: b 1 1, a 1 1", false}, {"rows: a 1 1, a 1 1", false}, {"rows:  1 1", false}, {"rows: a 1 9; ver: 3", true},
		{"holds: a 1 w, a 2 r; open: 1, 2", false}, {"holds: a 1 r, a 2 w; open: 1, 2", false}, {"holds: a 1 w, a 2 w; open: 1, 2", false}, {"holds: a 1 r, a 2 r; open: 1, 2", true},
		{"holds: a 1 r, a 1 r; open: 1", false}, {"holds: a 1 w, a 1 r; open: 1", false}, {"holds: a 1 w, b 1 w; open: 1", true}, {"holds:  1 w; open: 1", true},
		// No transaction is there twice.
		{"open: 1, 1", false}, {"open: 1, 2, 1", false}, {"open: 1, 1 wounded", false}, {"open: 1 firm, 1 firm", false}, {"open: 1, 1.1, 2", true},
		{"done: 1 yes, 1 yes", false}, {"done: 1 yes, 1 no", false}, {"done: 1 no, 2 yes, 1 no", false}, {"done: 1 yes, 1.1 yes, 2 yes", true},
		{"open: 1; done: 1 yes", false}, {"open: 2, 1 wounded; done: 3 yes, 1 no", false}, {"open: 1 firm; done: 1 yes", false}, {"open: 1; done: 1.1 yes", true}, {"open: 0; done: 0 no", false},
		// Who has a hold is open, and not wounded.
		{"holds: a 1 r", false}, {"holds: a 1 w; open: 2", false}, {"holds: a 1 w; open: 1.1", false}, {"holds: a 1 w; done: 1 yes", false}, {"holds: a 1 w; open: 1", true}, {"holds: a 1 w; open: 1 firm", true},
		{"holds: a 1 w; open: 1 wounded", false}, {"holds: a 1 r; open: 1 wounded", false}, {"holds: a 1 w, b 2 r; open: 1, 2 wounded", false}, {"holds: a 1 w, b 2 r; open: 2 wounded, 1", false}, {"holds: a 1 w, b 2 r; open: 1", false}, {"holds: b 2 r, a 1 w; open: 1", false},
		// Who is firm is not wounded; its Puts fit, and it may write all of them.
		{"open: 1 firm wounded", false}, {"open: 2, 1 firm wounded, 3", false},
		{"holds: a 1 w; open: 1 firm a=1", true}, {"holds: a 1 w; open: 1 firm a-", true}, {"holds: a 1 w, b 1 w; open: 1 firm b=1 a=2", true}, {"holds: a 1 w, b 1 r; open: 1 firm a=1", true},
		{"open: 1 firm a=1", false}, {"open: 1 firm a-", false}, {"holds: a 1 r; open: 1 firm a=1", false}, {"holds: a 1 r; open: 1 firm a-", false}, {"holds: a 2 w; open: 1 firm a=1, 2", false}, {"holds: a 2 w; open: 1 firm a=1, 2 firm a=1", false},
		{"holds: a 1 w; open: 1 firm a=1 b=1", false}, {"holds: a 1 w; open: 1 firm b- a=1", false}, {"holds: b 1 w; open: 1 firm a=1", false},
		{"holds: a 1 w; open: 1 firm a=1 a=1", false}, {"holds: a 1 w; open: 1 firm a=1 a-", false}, {"holds:  1 w; open: 1 firm =1", false}, {"holds: a 1 w,  1 w; open: 1 firm a=1 -", false},
		{"holds: a 1 w, b 2 w; open: 1 firm a=1, 2 firm b=1 b=1", false}, {"holds: a 1 w, b 2 w; open: 1 firm a=1 a=1, 2 firm b=1", false},
		// Who is not firm has no Puts.
		{"holds: a 1 w; open: 1 a=1", false}, {"holds: a 1 w; open: 1 a-", false}, {"open: 1 wounded a=1", false}, {"holds: a 1 w; open: 2, 1 a=1, 3", false}, {"holds: a 1 w, b 2 w; open: 1 firm a=1, 2 b=1", false},
	} {
		checkRight(t, "in words", at(x.s), x.want)
	}
	checkRight(t, "lists without elements", api.Shard{Rows: []api.Row{}, Holds: []api.Hold{}, Open: []api.Open{{T: tx("1"), Puts: []api.Put{}}}, Done: []api.Done{}}, true)
}

// P13.2: a shard that is right, with one thing that is not.
func TestRightBrokenAlone(t *testing.T) {
	for _, x := range []struct {
		why  string
		f    func(*api.Shard)
		want bool
	}{
		{"nothing", func(s *api.Shard) {}, true},
		{"another version", func(s *api.Shard) { s.Ver = 0 }, true},
		{"the greatest version", func(s *api.Shard) { s.Ver = math.MaxUint64 }, true},
		{"a row's value", func(s *api.Shard) { s.Rows[0].Val = "7" }, true},
		{"a row's value of MaxVal", func(s *api.Shard) { s.Rows[0].Val = text(api.MaxVal) }, true},
		{"a row's longer value", func(s *api.Shard) { s.Rows[2].Val = text(api.MaxVal + 1) }, false},
		{"a row's version of MaxNum", func(s *api.Shard) { s.Rows[0].Ver = api.MaxNum }, true},
		{"a row's greater version", func(s *api.Shard) { s.Rows[0].Ver = api.MaxNum + 1 }, false},
		{"a row's key", func(s *api.Shard) { s.Rows[0].Key = "b" }, false},
		{"a row's long key", func(s *api.Shard) { s.Rows[2].Key = text(api.MaxKey + 1) }, false},
		{"rows in another order", func(s *api.Shard) { slices.Reverse(s.Rows) }, false},
		{"holds in another order", func(s *api.Shard) { slices.Reverse(s.Holds) }, true},
		{"open ones in another order", func(s *api.Shard) { slices.Reverse(s.Open) }, true},
		{"those that are over in another order", func(s *api.Shard) { slices.Reverse(s.Done) }, true},
		{"Puts in another order", func(s *api.Shard) { slices.Reverse(s.Open[1].Puts) }, true},
		{"one that reads what another one reads writes", func(s *api.Shard) { s.Holds[1].Write = true }, false},
		{"one that writes reads", func(s *api.Shard) { s.Holds[0].Write = false }, true},
		{"one that is firm reads", func(s *api.Shard) { s.Holds[2].Write = false }, false},
		{"a hold of another key", func(s *api.Shard) { s.Holds[2].Key = "x" }, false},
		{"a hold of a long key", func(s *api.Shard) { s.Holds[0].Key = text(api.MaxText) }, true},
		{"a hold of one that is over", func(s *api.Shard) { s.Holds[0].T = tx("7") }, false},
		{"a hold of one that is wounded", func(s *api.Shard) { s.Holds[0].T = tx("5") }, false},
		{"a hold of one that is not known", func(s *api.Shard) { s.Holds[0].T = tx("9") }, false},
		{"a hold of another one", func(s *api.Shard) { s.Holds[0].T = tx("6") }, true},
		{"one with holds is wounded", func(s *api.Shard) { s.Open[3].Wounded = true }, false},
		{"one without holds is wounded", func(s *api.Shard) { s.Open[5].Wounded = true }, true},
		{"a wounded one is not", func(s *api.Shard) { s.Open[4].Wounded = false }, true},
		{"a wounded one is firm", func(s *api.Shard) { s.Open[4].Firm = true }, false},
		{"a firm one with holds is wounded", func(s *api.Shard) { s.Open[2].Wounded = true }, false},
		{"an open one is firm", func(s *api.Shard) { s.Open[0].Firm = true }, true},
		{"a firm one with Puts is not", func(s *api.Shard) { s.Open[1].Firm = false }, false},
		{"a firm one without Puts is not", func(s *api.Shard) { s.Open[2].Firm = false }, true},
		{"an open one has a Put", func(s *api.Shard) { s.Open[3].Puts = putsOf("a=1") }, false},
		{"a wounded one has a Put", func(s *api.Shard) { s.Open[4].Puts = putsOf("a-") }, false},
		{"a firm one has no Puts", func(s *api.Shard) { s.Open[1].Puts = nil }, true},
		{"a firm one has a Put of what it reads", func(s *api.Shard) { s.Open[1].Puts[0].Key = "e" }, false},
		{"a firm one has a Put of what nobody holds", func(s *api.Shard) { s.Open[1].Puts[1].Key = "f" }, false},
		{"a firm one has a Put of what another one holds", func(s *api.Shard) { s.Open[1].Puts[1].Key = "a" }, false},
		{"a firm one has a Put twice", func(s *api.Shard) { s.Open[1].Puts[1].Key = "c" }, false},
		{"a firm one has a Put that is Gone with a value", func(s *api.Shard) { s.Open[1].Puts[0].Gone = true }, false},
		{"a firm one has a Put of a value of MaxVal", func(s *api.Shard) { s.Open[1].Puts[0].Val = text(api.MaxVal) }, true},
		{"a firm one has a Put of a longer value", func(s *api.Shard) { s.Open[1].Puts[0].Val = text(api.MaxVal + 1) }, false},
		{"one that is open is another one that is", func(s *api.Shard) { s.Open[5].T = tx("5") }, false},
		{"one that is open is one that is over", func(s *api.Shard) { s.Open[5].T = tx("8") }, false},
		{"one that is over is one that is open", func(s *api.Shard) { s.Done[0].T = tx("6") }, false},
		{"one that is over is another one that is", func(s *api.Shard) { s.Done[0].T = tx("8") }, false},
		{"one that is over ended otherwise", func(s *api.Shard) { s.Done[0].Commit = false }, true},
	} {
		s := at(rich)
		x.f(&s)
		checkRight(t, x.why, s, x.want)
	}
}

// P13.2: at most MaxTx transactions, MaxPuts Puts, keys of MaxKey; any number of holds that conflict with none.
func TestRightNumbers(t *testing.T) {
	for _, n := range []int{api.MaxTx - 1, api.MaxTx, api.MaxTx + 1, 2 * api.MaxTx} {
		for _, s := range filled(api.Shard{}, n) {
			checkRight(t, strconv.Itoa(n)+" transactions", s, n <= api.MaxTx)
		}
		for _, s := range filled(at(rich), n-8) {
			checkRight(t, strconv.Itoa(n)+" transactions, of all kinds", s, n <= api.MaxTx)
		}
	}
	for _, n := range []int{api.MaxPuts - 1, api.MaxPuts, api.MaxPuts + 1} {
		s := at("open: 1 firm")
		for i := range n {
			s.Holds = append(s.Holds, api.Hold{Key: "k" + strconv.Itoa(i), T: tx("1"), Write: true})
			s.Open[0].Puts = append(s.Open[0].Puts, api.Put{Key: "k" + strconv.Itoa(i), Gone: i%2 > 0})
		}
		checkRight(t, strconv.Itoa(n)+" Puts", s, n <= api.MaxPuts)
	}
	for _, n := range []int{1, api.MaxKey, api.MaxKey + 1} {
		s := api.Shard{Holds: []api.Hold{{Key: text(n), T: tx("1"), Write: true}}, Open: []api.Open{{T: tx("1"), Firm: true, Puts: []api.Put{{Key: text(n)}}}}}
		checkRight(t, "a Put of a key of "+strconv.Itoa(n), s, n <= api.MaxKey)
	}
	// Layer 12 has no limit of a right list, nor of its keys.
	s := at("open: 1")
	for i := range 3 * api.MaxHold {
		s.Holds = append(s.Holds, api.Hold{Key: strings.Repeat("h", i), T: tx("1"), Write: true})
	}
	checkRight(t, "many holds", s, true)
	s.Holds = append(s.Holds, holdsOf("last 2 r")...)
	checkRight(t, "many holds, the last one of nobody", s, false)
}

// P13.2: the keys of the rows, and of what is firm and not Gone, are at most MaxRows, each counted once.
func TestRightCountsRows(t *testing.T) {
	const most = api.MaxRows
	for _, x := range []struct {
		why  string
		rows int
		told string
		want bool
	}{
		{"rows", most, "", true},
		{"too many rows", most + 1, "", false},
		{"one more to come", most - 1, "holds: x 1 w; open: 1 firm x=1", true},
		{"one too many to come", most, "holds: x 1 w; open: 1 firm x=1", false},
		{"two to come, of one", most - 2, "holds: x 1 w, y 1 w; open: 1 firm x=1 y=1", true},
		{"two too many, of one", most - 1, "holds: x 1 w, y 1 w; open: 1 firm x=1 y=1", false},
		{"two to come, of two", most - 2, "holds: x 1 w, y 2 w; open: 1 firm x=1, 2 firm y=1", true},
		{"two too many, of two", most - 1, "holds: x 1 w, y 2 w; open: 1 firm x=1, 2 firm y=1", false},
		{"Gone, not there", most, "holds: x 1 w; open: 1 firm x-", true},
		{"Gone, of a row", most, "holds: r100 1 w; open: 1 firm r100-", true},
		{"Gone, of a row, and one to come", most, "holds: r100 1 w, x 1 w; open: 1 firm r100- x=1", false},
		{"Gone, of a row, and one to come of another one", most, "holds: r100 1 w, x 2 w; open: 1 firm r100-, 2 firm x=1", false},
		{"Gone, of a row, and one to come, with room", most - 1, "holds: r100 1 w, x 1 w; open: 1 firm r100- x=1", true},
		{"of a row", most, "holds: r100 1 w; open: 1 firm r100=7", true},
		{"of rows, of two", most, "holds: r100 1 w, r120 2 w; open: 1 firm r100=7, 2 firm r120=8", true},
		{"of a row, and one to come", most - 1, "holds: r100 1 w, x 1 w; open: 1 firm r100=7 x=1", true},
		{"of a row, and one too many", most, "holds: r100 1 w, x 1 w; open: 1 firm r100=7 x=1", false},
		{"held, but not to come", most, "holds: x 1 w, y 2 r; open: 1, 2 firm", true},
	} {
		checkRight(t, x.why, withRows(at(x.told), x.rows), x.want)
	}
	// Without rows.
	for _, n := range []int{most - 1, most, most + 1} {
		s := api.Shard{}
		for i := range n {
			who, key := api.Tx{Age: uint64(i / api.MaxPuts)}, "k"+strconv.Itoa(i)
			if i%api.MaxPuts == 0 {
				s.Open = append(s.Open, api.Open{T: who, Firm: true})
			}
			s.Holds = append(s.Holds, api.Hold{Key: key, T: who, Write: true})
			s.Open[i/api.MaxPuts].Puts = append(s.Open[i/api.MaxPuts].Puts, api.Put{Key: key})
		}
		checkRight(t, strconv.Itoa(n)+" to come", s, n <= most)
	}
}

// checkSame holds Same to what it is to answer, both ways round.
func checkSame(t *testing.T, why string, a, b api.Shard, want bool) {
	t.Helper()
	if shard.Same(a, b) != want || shard.Same(b, a) != want {
		t.Errorf("%s: Same(%+v, %+v) = %v, %v", why, a, b, shard.Same(a, b), shard.Same(b, a))
	}
}

// P13.2: Same of a shard and of one that differs in one field, in one element, in one that is more, less, or elsewhere.
func TestSame(t *testing.T) {
	for _, told := range []string{"", "ver: 1", rich, "rows: b 1 1, a 1 1, a 1 1; holds: a 1 w, a 1 w; open: 1 wounded firm =1 =1, 1; done: 1 yes, 1 no; ver: 9"} {
		checkSame(t, "twice the same", at(told), at(told), true)
	}
	for _, x := range []struct {
		why string
		f   func(*api.Shard)
	}{
		{"the version", func(s *api.Shard) { s.Ver++ }},
		{"the version, much", func(s *api.Shard) { s.Ver += 1 << 32 }},
		{"a row's key", func(s *api.Shard) { s.Rows[0].Key = "A" }},
		{"a row's value", func(s *api.Shard) { s.Rows[1].Val = "" }},
		{"a row's version", func(s *api.Shard) { s.Rows[2].Ver = 3 }},
		{"the first row", func(s *api.Shard) { s.Rows = s.Rows[1:] }},
		{"the last row", func(s *api.Shard) { s.Rows = s.Rows[:2] }},
		{"all rows", func(s *api.Shard) { s.Rows = nil }},
		{"one row more", func(s *api.Shard) { s.Rows = append(s.Rows, s.Rows[2]) }},
		{"an empty row more", func(s *api.Shard) { s.Rows = append(s.Rows, api.Row{}) }},
		{"the order of rows", func(s *api.Shard) { slices.Reverse(s.Rows) }},
		{"a hold's key", func(s *api.Shard) { s.Holds[0].Key = "" }},
		{"a hold's Age", func(s *api.Shard) { s.Holds[5].T.Age = 4 }},
		{"a hold's Id", func(s *api.Shard) { s.Holds[2].T.Id = 4 }},
		{"a hold's Write", func(s *api.Shard) { s.Holds[3].Write = true }},
		{"the last hold", func(s *api.Shard) { s.Holds = s.Holds[:5] }},
		{"all holds", func(s *api.Shard) { s.Holds = nil }},
		{"one hold more", func(s *api.Shard) { s.Holds = append(s.Holds, api.Hold{}) }},
		{"the order of holds", func(s *api.Shard) { s.Holds[1], s.Holds[3] = s.Holds[3], s.Holds[1] }},
		{"an open one's Age", func(s *api.Shard) { s.Open[0].T.Age = 9 }},
		{"an open one's Id", func(s *api.Shard) { s.Open[5].T.Id = 9 }},
		{"an open one's Firm", func(s *api.Shard) { s.Open[2].Firm = false }},
		{"an open one's Wounded", func(s *api.Shard) { s.Open[4].Wounded = false }},
		{"Firm instead of Wounded", func(s *api.Shard) { s.Open[4].Firm, s.Open[4].Wounded = true, false }},
		{"a Put's key", func(s *api.Shard) { s.Open[1].Puts[0].Key = "" }},
		{"a Put's value", func(s *api.Shard) { s.Open[1].Puts[0].Val = "8" }},
		{"a Put's Gone", func(s *api.Shard) { s.Open[1].Puts[1].Gone = false }},
		{"the last Put", func(s *api.Shard) { s.Open[1].Puts = s.Open[1].Puts[:1] }},
		{"all Puts", func(s *api.Shard) { s.Open[1].Puts = nil }},
		{"one Put more", func(s *api.Shard) { s.Open[1].Puts = append(s.Open[1].Puts, api.Put{}) }},
		{"a Put of who has none", func(s *api.Shard) { s.Open[5].Puts = putsOf("a=1") }},
		{"the order of Puts", func(s *api.Shard) { slices.Reverse(s.Open[1].Puts) }},
		{"the last open one", func(s *api.Shard) { s.Open = s.Open[:5] }},
		{"all open ones", func(s *api.Shard) { s.Open = nil }},
		{"one open one more", func(s *api.Shard) { s.Open = append(s.Open, api.Open{}) }},
		{"the order of open ones", func(s *api.Shard) { slices.Reverse(s.Open) }},
		{"the Age of one that is over", func(s *api.Shard) { s.Done[0].T.Age = 9 }},
		{"the Id of one that is over", func(s *api.Shard) { s.Done[1].T.Id = 9 }},
		{"the Commit of one that is over", func(s *api.Shard) { s.Done[1].Commit = true }},
		{"the last one that is over", func(s *api.Shard) { s.Done = s.Done[:1] }},
		{"all that are over", func(s *api.Shard) { s.Done = nil }},
		{"one more that is over", func(s *api.Shard) { s.Done = append(s.Done, api.Done{}) }},
		{"the order of those that are over", func(s *api.Shard) { slices.Reverse(s.Done) }},
		{"all", func(s *api.Shard) { *s = api.Shard{} }},
	} {
		s := at(rich)
		x.f(&s)
		checkSame(t, x.why, s, at(rich), false)
		checkSame(t, x.why+", with itself", s, s, true)
	}
}

// P13.2: Same: a list that is nil is one without elements; what stands behind a list is nothing to it.
func TestSameOfEmptyLists(t *testing.T) {
	empty := api.Shard{Rows: []api.Row{}, Holds: []api.Hold{}, Open: []api.Open{}, Done: []api.Done{}}
	checkSame(t, "no elements", empty, api.Shard{}, true)
	a, b := at("open: 1 firm"), at("open: 1 firm")
	a.Open[0].Puts = []api.Put{}
	checkSame(t, "no Puts", a, b, true)
	long := at(rich)
	long.Rows, long.Holds, long.Open, long.Done = append(long.Rows, api.Row{})[:3], append(long.Holds, api.Hold{})[:6], append(long.Open, api.Open{})[:6], append(long.Done, api.Done{})[:2]
	checkSame(t, "room behind", long, at(rich), true)
}
