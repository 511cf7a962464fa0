package shard_test

import (
	"slices"
	"strconv"
	"strings"
	"testing"

	"ferrule/api"
	"ferrule/shard"
)

// P13.1: OPrepare makes a transaction firm, with its Puts, in their order; nothing else changes.
func TestPrepare(t *testing.T) {
	checkDo(t, []did{
		{"no Puts, no holds", "open: 1", "prepare 1", "open: 1 firm", done},
		{"no Puts, holds", "holds: a 1 w, b 1 r; open: 1", "prepare 1", "holds: a 1 w, b 1 r; open: 1 firm", done},
		{"one", "holds: a 1 w; open: 1", "prepare 1 a=1", "holds: a 1 w; open: 1 firm a=1", done},
		{"one of no value", "holds: a 1 w; open: 1", "prepare 1 a=", "holds: a 1 w; open: 1 firm a=", done},
		{"one that is Gone", "holds: a 1 w; open: 1", "prepare 1 a-", "holds: a 1 w; open: 1 firm a-", done},
		{"one that is Gone, of a row", "rows: a 1 1; holds: a 1 w; open: 1; ver: 1", "prepare 1 a-", "rows: a 1 1; holds: a 1 w; open: 1 firm a-; ver: 1", done},
		{"one of a row", "rows: a 1 1; holds: a 1 w; open: 1; ver: 1", "prepare 1 a=2", "rows: a 1 1; holds: a 1 w; open: 1 firm a=2; ver: 1", done},
		{"fewer than it may write", "holds: a 1 w, b 1 w, c 1 r; open: 1", "prepare 1 b=1", "holds: a 1 w, b 1 w, c 1 r; open: 1 firm b=1", done},
		{"not in order", "holds: a 1 w, b 1 w, c 1 w; open: 1", "prepare 1 c=1 a=2 b-", "holds: a 1 w, b 1 w, c 1 w; open: 1 firm c=1 a=2 b-", done},
		{"between others", "holds: a 1 w, b 2 w, c 3 w; open: 3, 1, 2; done: 4 yes, 5 no; ver: 7", "prepare 1 a=1", "holds: a 1 w, b 2 w, c 3 w; open: 3, 1 firm a=1, 2; done: 4 yes, 5 no; ver: 7", done},
		{"others are firm and wounded", "holds: a 1 w, b 2 w; open: 3 wounded, 2 firm b=1, 1", "prepare 1 a=1", "holds: a 1 w, b 2 w; open: 3 wounded, 2 firm b=1, 1 firm a=1", done},
		{"others have other Ids", "holds: a 1 w; open: 1.1 firm, 1, 1.2 wounded; done: 1.3 yes", "prepare 1 a=1", "holds: a 1 w; open: 1.1 firm, 1 firm a=1, 1.2 wounded; done: 1.3 yes", done},
		// Shards that are not right.
		{"it had Puts", "holds: a 1 w, b 1 w; open: 1 a=1", "prepare 1 b=2", "holds: a 1 w, b 1 w; open: 1 firm b=2", done},
		{"it had the same Puts", "holds: a 1 w; open: 1 a=1", "prepare 1 a=1", "holds: a 1 w; open: 1 firm a=1", done},
		{"it had the same Puts, without a hold", "open: 1 a=1", "prepare 1 a=1", "=", no(api.ErrOrder)},
		{"it had Puts, with none", "open: 1 a=1", "prepare 1", "open: 1 firm", done},
		{"twice: the first one counts", "holds: a 1 w; open: 2, 1, 1", "prepare 1 a=1", "holds: a 1 w; open: 2, 1 firm a=1, 1", done},
		{"twice, then wounded", "holds: a 1 w; open: 1, 1 wounded", "prepare 1 a=1", "holds: a 1 w; open: 1 firm a=1, 1 wounded", done},
		{"twice, then firm", "holds: a 1 w; open: 1, 1 firm b=1", "prepare 1 a=1", "holds: a 1 w; open: 1 firm a=1, 1 firm b=1", done},
		{"another one holds it too", "holds: a 2 w, a 1 w; open: 1, 2", "prepare 1 a=1", "holds: a 2 w, a 1 w; open: 1 firm a=1, 2", done},
		{"two holds of it", "holds: a 1 r, a 1 w; open: 1", "prepare 1 a=1", "holds: a 1 r, a 1 w; open: 1 firm a=1", done},
	})
	for _, s := range filled(at("holds: a 1 w; open: 1"), api.MaxTx) {
		after := s
		after.Open = slices.Clone(s.Open)
		after.Open[len(after.Open)-1] = openOf("1 firm a=1")[0]
		checkOne(t, "more than MaxTx", s, order("prepare 1 a=1"), after, done)
	}
}

// P13.1: OPrepare of a transaction that is over, not known, wounded, or firm.
func TestPrepareErrors(t *testing.T) {
	for _, puts := range []string{"", " a=1", " a-", " b=1", " =1", " a=1 a=2"} {
		checkDo(t, []did{
			// It is over: ahead of all else.
			{"over, committed", "done: 1 yes", "prepare 1" + puts, "=", over(true)},
			{"over, aborted", "done: 1 no", "prepare 1" + puts, "=", over(false)},
			{"over, between others", "done: 2 no, 1 yes, 3 no", "prepare 1" + puts, "=", over(true)},
			{"over and open", "holds: a 1 w; open: 1; done: 1 no", "prepare 1" + puts, "=", over(false)},
			{"over and wounded", "open: 1 wounded; done: 1 yes", "prepare 1" + puts, "=", over(true)},
			{"over and firm", "holds: a 1 w; open: 1 firm a=1; done: 1 yes", "prepare 1" + puts, "=", over(true)},
			{"over twice, first committed", "done: 1 yes, 1 no", "prepare 1" + puts, "=", over(true)},
			{"over twice, first aborted", "done: 1 no, 1 yes", "prepare 1" + puts, "=", over(false)},
			// Not known: ahead of the Puts.
			{"not known", "", "prepare 1" + puts, "=", no(api.ErrNone)},
			{"not known, with a hold", "holds: a 1 w", "prepare 1" + puts, "=", no(api.ErrNone)},
			{"not known, others are", "holds: a 2 w; open: 2 firm a=1, 3 wounded, 1.1; done: 4 yes", "prepare 1" + puts, "=", no(api.ErrNone)},
			// Wounded.
			{"wounded", "open: 1 wounded", "prepare 1" + puts, "=", no(api.ErrWound)},
			{"wounded, with a hold", "holds: a 1 w; open: 1 wounded", "prepare 1" + puts, "=", no(api.ErrWound)},
			{"wounded, with Puts", "holds: a 1 w; open: 1 wounded a=1", "prepare 1" + puts, "=", no(api.ErrWound)},
			{"wounded and firm", "holds: a 1 w; open: 1 wounded firm a=1", "prepare 1" + puts, "=", no(api.ErrWound)},
			{"wounded first, then firm", "holds: a 1 w; open: 1 wounded, 1 firm a=1", "prepare 1" + puts, "=", no(api.ErrWound)},
			// Firm, with other Puts: ahead of what is wrong with them.
			{"firm, with other Puts", "holds: a 1 w, b 1 w, c 1 w; open: 1 firm c=1", "prepare 1" + puts, "=", no(api.ErrOrder)},
			{"firm first", "open: 1 firm c=1, 1", "prepare 1" + puts, "=", no(api.ErrOrder)},
		})
	}
}

// P13.1: OPrepare of a transaction that is firm: OK with the same Puts, element by element.
func TestPrepareAgain(t *testing.T) {
	for _, x := range []struct {
		why, was, now string
		ok            bool
	}{
		{"none", "", "", true}, {"one", " a=1", " a=1", true}, {"two", " a=1 b-", " a=1 b-", true},
		{"none, then one", "", " a=1", false}, {"one, then none", " a=1", "", false},
		{"one, then two", " a=1", " a=1 b-", false}, {"two, then the first one", " a=1 b-", " a=1", false}, {"two, then the second one", " a=1 b-", " b-", false},
		{"in another order", " a=1 b-", " b- a=1", false}, {"another value", " a=1", " a=2", false}, {"another key", " a=1", " b=1", false},
		{"Gone, then of no value", " a-", " a=", false}, {"of no value, then Gone", " a=", " a-", false}, {"a longer value", " a=1", " a=11", false},
		{"the second one differs", " a=1 b=1", " a=1 b=2", false}, {"the second one is Gone", " a=1 b=", " a=1 b-", false},
		// What was never let in, in a shard that is not right, is equal all the same.
		{"a key of no byte", " =1", " =1", true}, {"twice", " a=1 a=1", " a=1 a=1", true}, {"without a hold", " z=1", " z=1", true},
	} {
		a := no(api.ErrOrder)
		if x.ok {
			a = done
		}
		checkDo(t, []did{
			{x.why, "holds: a 1 w, b 1 w; open: 1 firm" + x.was, "prepare 1" + x.now, "=", a},
			{x.why + ", between others", "rows: a 1 1; holds: b 2 r, a 1 w; open: 3 wounded, 1 firm" + x.was + ", 2 firm; done: 4 yes; ver: 2", "prepare 1" + x.now, "=", a},
			{x.why + ", twice", "open: 1 firm" + x.was + ", 1 firm c=9, 1", "prepare 1" + x.now, "=", a},
		})
	}
	// Neither the number of rows nor that of Puts is asked again.
	crowded := withRows(at("open: 1 firm a=1"), api.MaxRows+9)
	checkOne(t, "too many rows", crowded, order("prepare 1 a=1"), crowded, done)
	many := "1 firm" + strings.Repeat(" a=1", api.MaxPuts+9)
	checkDo(t, []did{{"too many Puts", "open: " + many, "prepare " + strings.Replace(many, " firm", "", 1), "=", done}})
}

// P13.1: Puts that do not fit, as layer 11 says: ahead of the holds, and of the number of rows.
func TestPreparePutsFit(t *testing.T) {
	keys := "abcdefghi"
	s := api.Shard{Open: openOf("2, 1"), Ver: 1}
	long, longer := text(api.MaxKey), text(api.MaxKey+1)
	for _, key := range append(strings.Split(keys, ""), long, longer, "") {
		s.Holds = append(s.Holds, api.Hold{Key: key, T: tx("1"), Write: true})
	}
	several := func(n int) []api.Put {
		var l []api.Put
		for _, key := range keys[:n] {
			l = append(l, api.Put{Key: string(key), Val: "1"})
		}
		return l
	}
	for _, x := range []struct {
		why  string
		puts []api.Put
		e    api.Errno
	}{
		{"MaxPuts", several(api.MaxPuts), api.OK},
		{"one less", several(api.MaxPuts - 1), api.OK},
		{"one more", several(api.MaxPuts + 1), api.ErrBig},
		{"one more, and one of them twice", append(several(api.MaxPuts), put("a=1")), api.ErrBig},
		{"one more, and one of no key", append(several(api.MaxPuts), put("=1")), api.ErrBig},
		{"a key of no byte", putsOf("=1"), api.ErrArg},
		{"a key of no byte, Gone", putsOf("a=1", "-"), api.ErrArg},
		{"a key of MaxKey", []api.Put{{Key: long}}, api.OK},
		{"a longer key", []api.Put{{Key: longer}}, api.ErrArg},
		{"a value of MaxVal", []api.Put{{Key: "a", Val: text(api.MaxVal)}}, api.OK},
		{"a longer value", []api.Put{{Key: "a", Val: text(api.MaxVal + 1)}}, api.ErrArg},
		{"a longer value at the end", []api.Put{{Key: "a"}, {Key: "b", Val: text(api.MaxVal + 1)}}, api.ErrArg},
		{"Gone, with a value", []api.Put{{Key: "a", Val: "1", Gone: true}}, api.ErrArg},
		{"a key twice", putsOf("a=1", "b=1", "a=2"), api.ErrArg},
		{"a key twice, once Gone", putsOf("a-", "a=2"), api.ErrArg},
		// Ahead of a key that is not held.
		{"one more, one not held", append(several(api.MaxPuts), put("z=1")), api.ErrBig},
		{"not held, and twice", putsOf("z=1", "z=1"), api.ErrArg},
		{"not held, then of no key", putsOf("z=1", "=1"), api.ErrArg},
	} {
		o := api.Order{Kind: api.OPrepare, T: tx("1"), Puts: x.puts}
		after := s
		if x.e == api.OK {
			after.Open = []api.Open{s.Open[0], {T: tx("1"), Firm: true, Puts: x.puts}}
		}
		checkOne(t, x.why, s, o, after, no(x.e))
		// And ahead of too many rows.
		crowded := withRows(s, api.MaxRows+1)
		if x.e == api.OK {
			checkOne(t, x.why+", crowded", crowded, o, crowded, no(api.ErrFull))
		} else {
			checkOne(t, x.why+", crowded", crowded, o, crowded, no(x.e))
		}
	}
}

// P13.1: OPrepare asks for a Write hold of each key that is put: ahead of the number of rows.
func TestPrepareNeedsHolds(t *testing.T) {
	for _, x := range []struct{ holds, puts string }{
		{"", "a=1"}, {"", "a-"}, {"a 1 r", "a=1"}, {"a 1 r", "a-"}, {"a 2 w", "a=1"}, {"a 1.1 w", "a=1"}, {"b 1 w", "a=1"}, {"aa 1 w", "a=1"}, {"A 1 w", "a=1"},
		{"a 1 w", "a=1 b=1"}, {"a 1 w", "b=1 a=1"}, {"a 1 w, b 1 r", "a=1 b=1"}, {"a 1 w, b 1 r", "b- a-"}, {"a 1 w, b 2 w", "a=1 b=1"}, {"a 1 w, c 1 w", "a=1 b=1 c=1"},
		{"a 1 w, c 1 w", "a=1 c=1 b-"}, {"a 1 r, a 1 r", "a=1"}, {"a 1 r, a 2 w", "a=1"}, {"b 1 w, c 1 w, d 1 w", "b=1 c=1 d=1 a=1"},
	} {
		checkDo(t, []did{
			{"without a hold", "holds: " + x.holds + "; open: 1, 2", "prepare 1 " + x.puts, "=", no(api.ErrOrder)},
			{"without a hold, of a row", "rows: a 1 1, b 2 2; holds: " + x.holds + "; open: 2, 1; ver: 2", "prepare 1 " + x.puts, "=", no(api.ErrOrder)},
		})
		crowded := withRows(at("holds: "+x.holds+"; open: 1"), api.MaxRows+1)
		checkOne(t, "without a hold, crowded", crowded, order("prepare 1 "+x.puts), crowded, no(api.ErrOrder))
	}
}

// room is a shard with so many rows, r100 and so on, in which the transaction 1 may write anything that is named.
func room(n int, told string) api.Shard {
	s := withRows(at(told), n)
	for _, key := range []string{"a", "b", "c", "r100", "r101", "r102", "r103"} {
		s.Holds = append(s.Holds, api.Hold{Key: key, T: tx("1"), Write: true})
	}
	return s
}

// P13.1: the keys of the rows, of what firm transactions write, and of what this one writes, are at most MaxRows.
func TestPrepareCountsRows(t *testing.T) {
	const most = api.MaxRows
	for _, x := range []struct {
		why  string
		rows int
		told string
		puts string
		ok   bool
	}{
		// By its own.
		{"room for one", most - 1, "open: 1", "a=1", true},
		{"no room", most, "open: 1", "a=1", false},
		{"room for one, two", most - 1, "open: 1", "a=1 b=1", false},
		{"room for two", most - 2, "open: 1", "b=1 a=1", true},
		{"no room needed", most, "open: 1", "", true},
		{"more rows than may be, nothing put", most + 1, "open: 1", "", false},
		{"more rows than may be, one Gone", most + 1, "open: 1", "r100-", false},
		// Puts that are Gone take no room, and make none.
		{"Gone", most, "open: 1", "a-", true},
		{"Gone, of a row", most, "open: 1", "r100-", true},
		{"Gone, of a row, and a new one", most, "open: 1", "r100- a=1", false},
		{"a new one, and Gone, of a row", most, "open: 1", "a=1 r100-", false},
		{"Gone, not there, and a new one", most - 1, "open: 1", "a- b=1", true},
		{"Gone, not there, and two new ones", most - 1, "open: 1", "a- b=1 c=1", false},
		// Keys that are counted once.
		{"of a row", most, "open: 1", "r100=1", true},
		{"of all kinds of rows", most, "open: 1", "r100=1 r101=2 r103- r102=3", true},
		{"of a row, and a new one", most - 1, "open: 1", "r100=1 a=1", true},
		{"of a row, and a new one, without room", most, "open: 1", "r100=1 a=1", false},
		// By what others' are to write.
		{"another one's", most - 1, "open: 1, 2 firm x=1", "a=1", false},
		{"another one's, with room for both", most - 2, "open: 1, 2 firm x=1", "a=1", true},
		{"another one's, ahead", most - 1, "open: 2 firm x=1, 1", "a=1", false},
		{"another one's, of a row", most - 1, "open: 1, 2 firm r105=1", "a=1", true},
		{"another one's, of a row, without room", most, "open: 1, 2 firm r105=1", "a=1", false},
		{"another one's, Gone", most - 1, "open: 1, 2 firm x-", "a=1", true},
		{"another one's, Gone, of a row", most, "open: 1, 2 firm r105-", "a=1", false},
		{"two others'", most - 2, "open: 2 firm x=1, 1, 3 firm y=1", "a=1", false},
		{"two others', with room for all", most - 3, "open: 2 firm x=1, 1, 3 firm y=1", "a=1", true},
		{"two of another one's", most - 2, "open: 1, 2 firm x=1 y=1", "a=1", false},
		{"others', with nothing of its own", most, "open: 1, 2 firm x=1", "", false},
		{"others' alone, with nothing of its own", most - 1, "open: 1, 2 firm x=1", "", true},
		{"others', Gone of its own", most - 1, "open: 1, 2 firm x=1", "a- r100-", true},
		{"eight of another one's", most - 9, "open: 1, 2 firm s=1 t=1 u=1 v=1 w=1 x=1 y=1 z=1", "a=1", true},
		{"eight of another one's, two of its own", most - 9, "open: 1, 2 firm s=1 t=1 u=1 v=1 w=1 x=1 y=1 z=1", "a=1 b=1", false},
		// Shards that are not right: only what is firm, each key once.
		{"another one's, not firm", most - 1, "open: 1, 2 x=1", "a=1", true},
		{"another one's, wounded", most - 1, "open: 1, 2 wounded x=1", "a=1", true},
		{"another one's, wounded and firm", most - 1, "open: 1, 2 firm wounded x=1", "a=1", false},
		{"its own, not firm yet", most - 1, "open: 1 x=1", "a=1", true},
		{"its second element's, firm", most - 1, "open: 1, 1 firm x=1", "a=1", false},
		{"its second element's, not firm", most - 1, "open: 1, 1 x=1", "a=1", true},
		{"the same key as another one's", most - 1, "open: 1, 2 firm a=1", "a=2", true},
		{"the same key as two others'", most - 1, "open: 3 firm a=1, 1, 2 firm a=1", "a=2", true},
		{"the same key, Gone by another one", most - 1, "open: 1, 2 firm a-", "a=2", true},
		{"the same key, Gone by another one, without room", most, "open: 1, 2 firm a-", "a=2", false},
		{"the same key as another one's, Gone", most, "open: 1, 2 firm a=1", "a-", false},
		{"the same key as another one's, Gone, with room", most - 1, "open: 1, 2 firm a=1", "a-", true},
		{"the same key twice of another one", most - 2, "open: 1, 2 firm x=1 x=2", "a=2", true},
		{"one of no byte of another one", most - 2, "open: 1, 2 firm =1", "a=1 b=1", false},
	} {
		s := room(x.rows, x.told)
		after, a := s, no(api.ErrFull)
		if x.ok {
			after.Open, a = slices.Clone(s.Open), done
			i := slices.IndexFunc(after.Open, func(o api.Open) bool { return o.T == tx("1") })
			after.Open[i] = openOf(strings.TrimSpace("1 firm " + x.puts))[0]
		}
		checkOne(t, x.why, s, order(strings.TrimSpace("prepare 1 "+x.puts)), after, a)
	}
}

// P13.1: rows that are there twice are one key.
func TestPrepareCountsRowsOnce(t *testing.T) {
	s := room(api.MaxRows-1, "open: 1")
	s.Rows = append(s.Rows, s.Rows...)
	s.Rows = append(s.Rows, s.Rows[3])
	after := s
	after.Open = openOf("1 firm r100=1 a=1")
	checkOne(t, "rows twice", s, order("prepare 1 r100=1 a=1"), after, done)
	checkOne(t, "rows twice, without room", s, order("prepare 1 b=1 a=1"), s, no(api.ErrFull))
}

// P13.1: all that may be firm together: as many transactions and Puts as there are, up to MaxRows keys.
func TestPrepareMany(t *testing.T) {
	s := api.Shard{}
	for i := range api.MaxRows + 1 {
		who, key := strconv.Itoa(1+i), "k"+strconv.Itoa(i)
		s, _ = shard.Do(s, order("lock "+who+" "+key))
		a := done
		if i == api.MaxRows {
			a = no(api.ErrFull)
		}
		after, got := shard.Do(s, order("prepare "+who+" "+key+"=1"))
		if got != a {
			t.Fatalf("the %d-th: %+v", i, got)
		}
		s = after
	}
	// One ends: there is no more room if it commits, and some if it aborts.
	committed, _ := shard.Do(s, order("commit 7"))
	if _, a := shard.Do(committed, order("prepare 33 k32=1")); a != no(api.ErrFull) {
		t.Errorf("behind a commit: %+v", a)
	}
	aborted, _ := shard.Do(s, order("abort 7"))
	if _, a := shard.Do(aborted, order("prepare 33 k32=1")); a != done {
		t.Errorf("behind an abort: %+v", a)
	}
}
