package shard_test

import (
	"math"
	"slices"
	"strconv"
	"strings"
	"testing"

	"ferrule/api"
	"ferrule/shard"
)

// P13.1: OFinish of a transaction that is over: OK where it ended so, otherwise ErrOver; with how it ended in both.
func TestFinishOfOver(t *testing.T) {
	for _, told := range []string{
		"", "; ver: 3", "; open: 1", "; open: 1 wounded", "; holds: a 1 w; open: 1 firm a=1", "; holds: a 1 w", "; rows: a 1 1; holds: b 2 w; open: 2 firm b=1; ver: 1",
	} {
		checkDo(t, []did{
			{"committed, to commit", "done: 1 yes" + told, "commit 1", "=", ended(true)},
			{"committed, to abort", "done: 1 yes" + told, "abort 1", "=", over(true)},
			{"aborted, to commit", "done: 1 no" + told, "commit 1", "=", over(false)},
			{"aborted, to abort", "done: 1 no" + told, "abort 1", "=", ended(false)},
			// Between others, of which those around it ended otherwise.
			{"between others, to commit", "done: 2 no, 1.1 no, 1 yes, 3 no" + told, "commit 1", "=", ended(true)},
			{"between others, to abort", "done: 2 no, 1.1 no, 1 yes, 3 no" + told, "abort 1", "=", over(true)},
			// Twice: the first one counts.
			{"first committed, to commit", "done: 1 yes, 1 no" + told, "commit 1", "=", ended(true)},
			{"first committed, to abort", "done: 1 yes, 1 no" + told, "abort 1", "=", over(true)},
			{"first aborted, to commit", "done: 1 no, 1 yes" + told, "commit 1", "=", over(false)},
			{"first aborted, to abort", "done: 1 no, 1 yes" + told, "abort 1", "=", ended(false)},
		})
	}
	// Neither the number of transactions nor that of rows is asked.
	for _, s := range filled(withRows(at("done: 1 no"), api.MaxRows+1), api.MaxTx) {
		checkOne(t, "full", s, order("abort 1"), s, ended(false))
		checkOne(t, "full", s, order("commit 1"), s, over(false))
	}
}

// P13.1: OFinish of a transaction that is not known: none to commit; to abort, it is over behind it, if there is room.
func TestFinishOfUnknown(t *testing.T) {
	checkDo(t, []did{
		{"to commit", "", "commit 1", "=", no(api.ErrNone)},
		{"to commit, among others", "holds: a 2 w; open: 2 firm a=1, 3, 1.1; done: 4 yes, 5 no", "commit 1", "=", no(api.ErrNone)},
		{"to commit, with a hold", "holds: a 1 w", "commit 1", "=", no(api.ErrNone)},
		{"to abort", "", "abort 1", "done: 1 no", ended(false)},
		{"to abort the transaction 0", "", "abort 0", "done: 0 no", ended(false)},
		{"to abort, at a version", "rows: a 1 1; ver: 4", "abort 1", "rows: a 1 1; done: 1 no; ver: 4", ended(false)},
		{"to abort, among others", "holds: a 2 w; open: 2 firm a=1, 3, 1.1; done: 4 yes, 5 no", "abort 1", "holds: a 2 w; open: 2 firm a=1, 3, 1.1; done: 4 yes, 5 no, 1 no", ended(false)},
		{"to abort, with holds", "holds: a 1 w, b 2 w, c 1 r; open: 2", "abort 1", "holds: b 2 w; open: 2; done: 1 no", ended(false)},
	})
	for _, n := range []int{api.MaxTx - 2, api.MaxTx - 1, api.MaxTx, api.MaxTx + 1, 2 * api.MaxTx} {
		for _, s := range filled(at("holds: a 2 w; open: 2 firm a=1; ver: 1"), n-1) {
			after, a := s, no(api.ErrFull)
			if n < api.MaxTx {
				after.Done, a = append(slices.Clone(s.Done), doneOf("1 no")...), ended(false)
			}
			checkOne(t, "to abort, of "+strconv.Itoa(n), s, order("abort 1"), after, a)
			checkOne(t, "to commit, of "+strconv.Itoa(n), s, order("commit 1"), s, no(api.ErrNone))
		}
	}
}

// P13.1: OFinish with Commit of a transaction that is known: it must be firm.
func TestCommitNeedsFirm(t *testing.T) {
	checkDo(t, []did{
		{"open", "open: 1", "commit 1", "=", no(api.ErrOrder)},
		{"open, with a hold", "holds: a 1 w; open: 1", "commit 1", "=", no(api.ErrOrder)},
		{"open, with Puts", "holds: a 1 w; open: 1 a=1", "commit 1", "=", no(api.ErrOrder)},
		{"wounded", "open: 1 wounded", "commit 1", "=", no(api.ErrOrder)},
		{"wounded, with Puts", "holds: a 1 w; open: 1 wounded a=1", "commit 1", "=", no(api.ErrOrder)},
		{"open, others are firm", "holds: a 2 w; open: 2 firm a=1, 1, 1.1 firm", "commit 1", "=", no(api.ErrOrder)},
		{"open, then firm", "holds: a 1 w; open: 1, 1 firm a=1", "commit 1", "=", no(api.ErrOrder)},
		{"open, with Puts that do not fit", "open: 1 =1", "commit 1", "=", no(api.ErrOrder)},
	})
	for _, s := range filled(at("open: 1"), api.MaxTx) {
		checkOne(t, "open, full", s, order("commit 1"), s, no(api.ErrOrder))
	}
}

// P13.1: OFinish with Commit of a firm transaction: its Puts are in the rows, with the next version; without Puts, neither changes.
func TestCommit(t *testing.T) {
	checkDo(t, []did{
		{"one", "holds: a 1 w; open: 1 firm a=1", "commit 1", "rows: a 1 1; done: 1 yes; ver: 1", ended(true)},
		{"one of no value", "holds: a 1 w; open: 1 firm a=; ver: 6", "commit 1", "rows: a  7; done: 1 yes; ver: 7", ended(true)},
		{"several, in the order of the keys", "holds: a 1 w, b 1 w, c 1 w; open: 1 firm c=3 a=1 b=2; ver: 4", "commit 1", "rows: a 1 5, b 2 5, c 3 5; done: 1 yes; ver: 5", ended(true)},
		{"one of a row", "rows: a 1 1, b 2 2; holds: a 1 w; open: 1 firm a=7; ver: 2", "commit 1", "rows: a 7 3, b 2 2; done: 1 yes; ver: 3", ended(true)},
		{"one of a row, with the same value", "rows: a 1 1, b 2 2; holds: a 1 w; open: 1 firm a=1; ver: 2", "commit 1", "rows: a 1 3, b 2 2; done: 1 yes; ver: 3", ended(true)},
		{"Gone, of a row", "rows: a 1 1, b 2 2; holds: a 1 w; open: 1 firm a-; ver: 2", "commit 1", "rows: b 2 2; done: 1 yes; ver: 3", ended(true)},
		{"Gone, of no row", "rows: b 2 2; holds: a 1 w; open: 1 firm a-; ver: 2", "commit 1", "rows: b 2 2; done: 1 yes; ver: 3", ended(true)},
		{"some of each", "rows: b 2 2, c 1 1, e 1 1; holds: a 1 w, b 1 w, c 1 w, d 1 w; open: 1 firm d=4 c- b=3 a-; ver: 2", "commit 1", "rows: b 3 3, d 4 3, e 1 1; done: 1 yes; ver: 3", ended(true)},
		{"no Puts", "rows: a 1 1; holds: a 1 r; open: 1 firm; ver: 2", "commit 1", "rows: a 1 1; done: 1 yes; ver: 2", ended(true)},
		{"no Puts, but a hold that writes", "holds: a 1 w; open: 1 firm", "commit 1", "done: 1 yes", ended(true)},
		{"no Puts, no holds", "open: 1 firm", "commit 1", "done: 1 yes", ended(true)},
		{"the transaction 0", "holds: a 0 w; open: 0 firm a=1", "commit 0", "rows: a 1 1; done: 0 yes; ver: 1", ended(true)},
		{"behind others that are over", "open: 1 firm; done: 3 no, 2 yes", "commit 1", "done: 3 no, 2 yes, 1 yes", ended(true)},
		// What is released: its holds, all of them, and its element of Open; nothing of others.
		{"others stay", "rows: z 1 1; holds: c 2 w, a 1 w, b 1 r, b 2 r, d 1 w, e 3 r; open: 2 firm c=2, 4 wounded, 1 firm a=1, 3; done: 5 yes; ver: 1", "commit 1",
			"rows: a 1 2, z 1 1; holds: c 2 w, b 2 r, e 3 r; open: 2 firm c=2, 4 wounded, 3; done: 5 yes, 1 yes; ver: 2", ended(true)},
		{"others of its age stay", "holds: a 1.1 r, a 1 r, b 1 w; open: 1.1, 1 firm b=1, 1.2", "commit 1", "rows: b 1 1; holds: a 1.1 r; open: 1.1, 1.2; done: 1 yes; ver: 1", ended(true)},
		// Shards that are not right.
		{"firm and wounded", "holds: a 1 w; open: 1 firm wounded a=1", "commit 1", "rows: a 1 1; done: 1 yes; ver: 1", ended(true)},
		{"without a hold", "holds: a 2 w; open: 1 firm a=1, 2", "commit 1", "rows: a 1 1; holds: a 2 w; open: 2; done: 1 yes; ver: 1", ended(true)},
		{"firm first, then open", "open: 2, 1 firm a=1, 3, 1, 1 wounded", "commit 1", "rows: a 1 1; open: 2, 3; done: 1 yes; ver: 1", ended(true)},
		{"firm twice: the first one's Puts", "open: 1 firm a=1, 1 firm b=2 a=3", "commit 1", "rows: a 1 1; done: 1 yes; ver: 1", ended(true)},
		{"firm twice, the first one without Puts", "open: 1 firm, 1 firm b=2; ver: 3", "commit 1", "done: 1 yes; ver: 3", ended(true)},
		{"rows that are there twice", "rows: a 1 1, a 2 2; open: 1 firm a=7; ver: 2", "commit 1", "rows: a 7 3, a 2 2; done: 1 yes; ver: 3", ended(true)},
		{"rows that are there twice, Gone", "rows: a 1 1, b 1 1, a 2 2; open: 1 firm a-; ver: 2", "commit 1", "rows: b 1 1; done: 1 yes; ver: 3", ended(true)},
		{"holds that are there twice", "holds: a 1 w, a 1 r, a 2 r, a 1 w; open: 1 firm", "commit 1", "holds: a 2 r; done: 1 yes", ended(true)},
	})
	for _, n := range []int{api.MaxTx - 1, api.MaxTx, 2 * api.MaxTx} {
		for _, s := range filled(at("holds: a 1 w; open: 1 firm a=1"), n) {
			after := s
			after.Rows, after.Holds, after.Ver = rowsOf("a 1 1"), nil, 1
			after.Open = slices.DeleteFunc(slices.Clone(s.Open), func(x api.Open) bool { return x.T == tx("1") })
			after.Done = append(slices.Clone(s.Done), doneOf("1 yes")...)
			checkOne(t, "MaxTx is not asked", s, order("commit 1"), after, ended(true))
		}
	}
}

// P13.1, R5: the version wraps around.
func TestCommitVersions(t *testing.T) {
	for _, ver := range []uint64{0, 1, api.MaxNum - 1, api.MaxNum, 1<<63 - 1, 1 << 63, math.MaxUint64 - 1, math.MaxUint64} {
		s := at("holds: a 1 w; open: 1 firm a=1, 2 firm")
		s.Ver = ver
		after := at("open: 2 firm; done: 1 yes")
		after.Rows, after.Ver = []api.Row{{Key: "a", Val: "1", Ver: ver + 1}}, ver+1
		checkOne(t, "with Puts", s, order("commit 1"), after, ended(true))
		after = at("holds: a 1 w; open: 1 firm a=1; done: 2 yes")
		after.Ver = ver
		checkOne(t, "without Puts", s, order("commit 2"), after, ended(true))
	}
}

// P13.1: an error of layer 11 is returned, and nothing has changed.
func TestCommitErrors(t *testing.T) {
	const full = api.MaxRows
	many := "1 firm"
	for _, key := range "abcdefghi" {
		many += " " + string(key) + "=1"
	}
	for _, x := range []struct {
		why  string
		rows int
		open string
		e    api.Errno
	}{
		{"too many Puts", 0, many, api.ErrBig},
		{"a key of no byte", 0, "1 firm a=1 =1", api.ErrArg},
		{"a long key", 0, "1 firm " + text(api.MaxKey+1) + "=1", api.ErrArg},
		{"a long value", 0, "1 firm a=" + text(api.MaxVal+1), api.ErrArg},
		{"a key twice", 0, "1 firm a=1 b=1 a=1", api.ErrArg},
		{"too many Puts, one of no byte", 0, many + " =1", api.ErrBig},
		{"a key twice, without room", full, "1 firm a=1 a=1", api.ErrArg},
		{"without room", full, "1 firm a=1", api.ErrFull},
		{"without room for the second one", full - 1, "1 firm a=1 b=1", api.ErrFull},
		{"more rows than may be", full + 1, "1 firm a=1", api.ErrFull},
		{"more rows than may be, one Gone", full + 1, "1 firm a=1 r100-", api.ErrFull},
	} {
		s := withRows(at("holds: a 1 w, b 2 r; open: 2, "+x.open+", 3 wounded; done: 4 yes; ver: 7"), x.rows)
		checkOne(t, x.why, s, order("commit 1"), s, no(x.e))
	}
	gone := at("open: 1 firm")
	gone.Open[0].Puts = []api.Put{{Key: "a", Val: "1", Gone: true}}
	checkOne(t, "Gone, with a value", gone, order("commit 1"), gone, no(api.ErrArg))
	// What goes makes room, and what has a row needs none.
	for _, x := range []struct{ puts, gone, new string }{{"a=1 r100-", "r100", "a 1 8"}, {"r100-", "r100", ""}} {
		s := withRows(at("open: 1 firm "+x.puts+"; ver: 7"), full)
		after := withRows(api.Shard{}, full)
		after.Rows = slices.Concat(rowsOf(x.new), slices.DeleteFunc(after.Rows, func(r api.Row) bool { return r.Key == x.gone }))
		after.Done, after.Ver = doneOf("1 yes"), 8
		checkOne(t, "what goes makes room", s, order("commit 1"), after, ended(true))
	}
	s := withRows(at("open: 1 firm r101=7; ver: 7"), full)
	after := withRows(at("done: 1 yes; ver: 8"), full)
	after.Rows[1] = rowsOf("r101 7 8")[0]
	checkOne(t, "a row needs no room", s, order("commit 1"), after, ended(true))
	// Without Puts nothing is asked of the rows.
	s = withRows(at("open: 1 firm; ver: 7"), full+5)
	checkOne(t, "without Puts", s, order("commit 1"), withRows(at("done: 1 yes; ver: 7"), full+5), ended(true))
}

// P13.1: OFinish without Commit of a transaction that is known, whatever it is: of it nothing remains but the element of Done.
func TestAbort(t *testing.T) {
	for _, open := range []string{"1", "1 wounded", "1 firm", "1 firm a=1", "1 firm a- b=2", "1 firm wounded a=1", "1 a=1", "1 firm =1", "1 firm a=1 a=1", "1, 1 firm a=1", "1 firm a=1, 1", "1 wounded, 1"} {
		checkDo(t, []did{
			{open, "open: " + open, "abort 1", "done: 1 no", ended(false)},
			{open + ", with holds", "holds: a 1 w, b 1 r; open: " + open, "abort 1", "done: 1 no", ended(false)},
			{open + ", with rows", "rows: a 7 1, c 8 2; holds: a 1 w; open: " + open + "; ver: 2", "abort 1", "rows: a 7 1, c 8 2; done: 1 no; ver: 2", ended(false)},
			{open + ", between others", "rows: a 7 1; holds: c 2 w, a 1 w, b 2 r, b 1 r, d 1 w, e 1.1 w; open: 2 firm c=1, 1.1, " + open + ", 3 wounded; done: 4 yes, 5 no; ver: 2", "abort 1",
				"rows: a 7 1; holds: c 2 w, b 2 r, e 1.1 w; open: 2 firm c=1, 1.1, 3 wounded; done: 4 yes, 5 no, 1 no; ver: 2", ended(false)},
		})
		// MaxTx is not asked: it makes room itself.
		for _, s := range filled(at("holds: a 1 w; open: "+open), api.MaxTx) {
			after := s
			after.Holds, after.Open = nil, slices.DeleteFunc(slices.Clone(s.Open), func(x api.Open) bool { return x.T == tx("1") })
			after.Done = append(slices.Clone(s.Done), doneOf("1 no")...)
			checkOne(t, open+", of more than MaxTx", s, order("abort 1"), after, ended(false))
		}
	}
}

// P13.1: who waits for a lock gets it once it is released, whichever way.
func TestReleaseLetsOthersOn(t *testing.T) {
	for _, how := range []string{"commit 1", "abort 1"} {
		s := at("rows: a 1 1; holds: a 1 w; open: 1 firm a=2; ver: 1")
		for _, o := range orders("read 2 a, lock 2 a, read 0 a, lock 0 a") {
			checkOne(t, "held", s, o, s, no(api.ErrBusy))
			after, _ := shard.Do(s, order(how))
			want := row("1", 1)
			if strings.HasPrefix(how, "commit") {
				want = row("2", 2)
			}
			if _, a := shard.Do(after, o); a != want {
				t.Errorf("behind %s: %+v, want %+v", how, a, want)
			}
		}
	}
}
