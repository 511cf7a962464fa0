package coord_test

import (
	"slices"
	"strconv"
	"strings"
	"testing"

	"ferrule/api"
	"ferrule/coord"
)

// withoutCommit are the deeds that abort, and the same ones of OStatus, with Commit and without.
func withoutCommit(t *testing.T, all []did) {
	t.Helper()
	checkDo(t, all)
	for _, x := range all {
		after := x.after
		if after == "=" {
			after = x.c
		}
		o := order(strings.Replace(x.o, "abort", "status", 1))
		if o.Kind != api.OStatus {
			t.Fatalf("%s: %s aborts nothing", x.why, x.o)
		}
		checkOne(t, x.why+", asked", at(x.c), o, at(after), x.a)
		o.Commit = true
		checkOne(t, x.why+", asked with Commit", at(x.c), o, at(after), x.a)
	}
}

// P14.2: ODecide with Commit.
func TestDecideCommit(t *testing.T) {
	checkDo(t, []did{
		{"open", "1 open 1 2", "commit 1", "1 commit 1 2", ended(true)},
		{"open, of the transaction 0", "0 open 63", "commit 0", "0 commit 63", ended(true)},
		{"open, between others", "2 open 1 2, 1 open 1 2 3 4 5 6 7 8, 3 open 1", "commit 1", "2 open 1 2, 1 commit 1 2 3 4 5 6 7 8, 3 open 1", ended(true)},
		{"open, others of its age", "1.1 open 1, 1 open 1, 1.2 open 1", "commit 1", "1.1 open 1, 1 commit 1, 1.2 open 1", ended(true)},
		{"open, others of its Id", "1.2 open 1, 3.2 open 1, 2.2 open 1", "commit 2.2", "1.2 open 1, 3.2 open 1, 2.2 commit 1", ended(true)},
		{"committed", "1 commit 1 2", "commit 1", "=", ended(true)},
		{"committed, between others", "2 open 1 2, 1 commit 1 2, 3 abort", "commit 1", "=", ended(true)},
		{"aborted", "1 abort 1 2", "commit 1", "=", ended(false)},
		{"aborted ahead of its beginning", "1 abort", "commit 1", "=", ended(false)},
		{"aborted, between others", "2 open 1 2, 1 abort 1 2, 3 commit 1", "commit 1", "=", ended(false)},
		{"none", "", "commit 1", "=", no(api.ErrNone)},
		{"none, but others", "2 open 1 2, 3 commit 1, 4 abort 1", "commit 1", "=", no(api.ErrNone)},
		{"none, but others of its age and Id", "1 open 1, 2.1 open 1, 1.2 open 1", "commit 1.1", "=", no(api.ErrNone)},
		// Coordinators that are not right.
		{"below all states", "1 =-1 1 2", "commit 1", "=", ended(false)},
		{"above all states", "1 =3 1 2", "commit 1", "=", ended(false)},
		{"far above all states", "1 =4294967296 1 2", "commit 1", "=", ended(false)},
		{"open, without Parts", "1 open", "commit 1", "1 commit", ended(true)},
		{"open, with Parts that are not valid", "1 open 2 1 0 64", "commit 1", "1 commit 2 1 0 64", ended(true)},
		{"committed, without Parts", "1 commit", "commit 1", "=", ended(true)},
		{"twice, open first", "1 open 1 2, 1 abort 1 2", "commit 1", "1 commit 1 2, 1 abort 1 2", ended(true)},
		{"twice open", "1 open 1 2, 1 open 1 2", "commit 1", "1 commit 1 2, 1 open 1 2", ended(true)},
		{"twice, committed first", "1 commit 1 2, 1 open 1 2", "commit 1", "=", ended(true)},
		{"twice, aborted first", "2 open 1, 1 abort 1, 1 open 1", "commit 1", "=", ended(false)},
	})
}

// P14.2: ODecide without Commit, and OStatus, which is like it.
func TestDecideAbort(t *testing.T) {
	withoutCommit(t, []did{
		{"open", "1 open 1 2", "abort 1", "1 abort 1 2", ended(false)},
		{"open, of the transaction 0", "0 open 63", "abort 0", "0 abort 63", ended(false)},
		{"open, between others", "2 open 1 2, 1 open 1 2 3 4 5 6 7 8, 3 open 1", "abort 1", "2 open 1 2, 1 abort 1 2 3 4 5 6 7 8, 3 open 1", ended(false)},
		{"open, others of its age", "1.1 open 1, 1 open 1, 1.2 open 1", "abort 1", "1.1 open 1, 1 abort 1, 1.2 open 1", ended(false)},
		{"committed", "1 commit 1 2", "abort 1", "=", ended(true)},
		{"committed, between others", "2 open 1 2, 1 commit 1 2, 3 abort", "abort 1", "=", ended(true)},
		{"aborted", "1 abort 1 2", "abort 1", "=", ended(false)},
		{"aborted ahead of its beginning", "1 abort", "abort 1", "=", ended(false)},
		{"none", "", "abort 1", "1 abort", ended(false)},
		{"none, of the transaction 0", "", "abort 0", "0 abort", ended(false)},
		{"none, but others", "2 open 1 2, 3 commit 1, 4 abort 1", "abort 1", "2 open 1 2, 3 commit 1, 4 abort 1, 1 abort", ended(false)},
		{"none, but others of its age and Id", "1 open 1, 2.1 commit 1, 1.2 open 1", "abort 1.1", "1 open 1, 2.1 commit 1, 1.2 open 1, 1.1 abort", ended(false)},
		// Coordinators that are not right.
		{"below all states", "1 =-1 1 2", "abort 1", "=", ended(false)},
		{"above all states", "1 =3 1 2", "abort 1", "=", ended(false)},
		{"far above all states", "1 =4294967296 1 2", "abort 1", "=", ended(false)},
		{"open, without Parts", "1 open", "abort 1", "1 abort", ended(false)},
		{"committed, without Parts", "1 commit", "abort 1", "=", ended(true)},
		{"twice, open first", "1 open 1 2, 1 commit 1 2", "abort 1", "1 abort 1 2, 1 commit 1 2", ended(false)},
		{"twice open", "2 open 1, 1 open 1 2, 1 open 1 2", "abort 1", "2 open 1, 1 abort 1 2, 1 open 1 2", ended(false)},
		{"twice, committed first", "1 commit 1 2, 1 open 1 2", "abort 1", "=", ended(true)},
		{"twice, aborted first", "1 abort 1, 1 commit 1", "abort 1", "=", ended(false)},
	})
}

// P14.2: ODecide and OStatus of a transaction without a deal, with few deals and many; one that is there needs no room.
func TestDecideFull(t *testing.T) {
	asked := order("status 1")
	asked.Commit = true
	for _, n := range []int{0, 1, api.MaxTx - 2, api.MaxTx - 1, api.MaxTx, api.MaxTx + 1, 2 * api.MaxTx} {
		why := strconv.Itoa(n) + " deals"
		c := crowd(api.Coord{}, n)
		checkOne(t, why+", to commit", c, order("commit 1"), c, no(api.ErrNone))
		after, a := c, no(api.ErrFull)
		if n < api.MaxTx {
			after, a = api.Coord{Deals: append(slices.Clone(c.Deals), at("1 abort").Deals...)}, ended(false)
		}
		for _, o := range []api.Order{order("abort 1"), order("status 1"), asked} {
			checkOne(t, why, c, o, after, a)
		}
		for _, x := range []did{
			{"open", "1 open 1 2", "commit 1", "1 commit 1 2", ended(true)}, {"open", "1 open 1 2", "abort 1", "1 abort 1 2", ended(false)}, {"open", "1 open 1 2", "status 1", "1 abort 1 2", ended(false)},
			{"committed", "1 commit 1 2", "commit 1", "1 commit 1 2", ended(true)}, {"committed", "1 commit 1 2", "abort 1", "1 commit 1 2", ended(true)}, {"committed", "1 commit 1 2", "status 1", "1 commit 1 2", ended(true)},
			{"aborted", "1 abort 1 2", "commit 1", "1 abort 1 2", ended(false)}, {"aborted", "1 abort", "abort 1", "1 abort", ended(false)}, {"aborted", "1 abort", "status 1", "1 abort", ended(false)},
		} {
			checkOne(t, why+" ahead of it: "+x.why, crowd(at(x.c), n), order(x.o), crowd(at(x.after), n), x.a)
			c, after := crowd(at(x.c), n), crowd(at(x.after), n)
			slices.Reverse(c.Deals)
			slices.Reverse(after.Deals)
			checkOne(t, why+" behind it: "+x.why, c, order(x.o), after, x.a)
		}
	}
}

// P14.2: a coordinator gets full of those that nobody began, too.
func TestFullOfAborted(t *testing.T) {
	c := api.Coord{}
	for i := range api.MaxTx {
		o := order([]string{"abort ", "status "}[i%2] + strconv.Itoa(i))
		var a api.Answer
		if c, a = coord.Do(c, o); a != ended(false) || len(c.Deals) != i+1 || !coord.Right(c) {
			t.Fatalf("%d: %+v, %+v", i, c, a)
		}
	}
	for _, told := range []string{"abort 99", "status 99", "begin 99 1"} {
		checkOne(t, "no room", c, order(told), c, no(api.ErrFull))
	}
	checkOne(t, "no room", c, order("commit 99"), c, no(api.ErrNone))
}
