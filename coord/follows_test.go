package coord_test

import (
	"fmt"
	"math/rand"
	"slices"
	"strconv"
	"testing"

	"ferrule/api"
	"ferrule/coord"
)

// step holds P14.3 for one order in a coordinator that is right, and answers the one that results.
func step(t *testing.T, c api.Coord, o api.Order) (api.Coord, api.Answer) {
	t.Helper()
	after, a := held(t, c, o)
	told := fmt.Sprintf("Do(%+v, %+v) = %+v, %+v", c, o, after, a)
	if !coord.Right(after) || !plainRight(after) {
		t.Fatalf("%s: not right", told)
	}
	if a.Err != api.OK && !plainSame(c, after) {
		t.Fatalf("%s: an error, and it changed", told)
	}
	staysSo(t, told, c, after, o)
	isTold(t, told, after, o, a)
	if _, d, there := plainFind(after, o.T); there {
		everybodyHears(t, told, after, d)
	}
	return after, a
}

// staysSo holds that each deal stays, with its T and Parts, and its outcome once it has one; that of another transaction stays all as it is.
func staysSo(t *testing.T, told string, c, after api.Coord, o api.Order) {
	t.Helper()
	if len(after.Deals) < len(c.Deals) || len(after.Deals) > len(c.Deals)+1 {
		t.Fatalf("%s: %d deals, were %d", told, len(after.Deals), len(c.Deals))
	}
	for i, d := range c.Deals {
		x := after.Deals[i]
		if x.T != d.T || !slices.Equal(x.Parts, d.Parts) || x.State != d.State && (d.State != api.DealOpen || d.T != o.T) {
			t.Fatalf("%s: %+v was %+v", told, x, d)
		}
	}
	if len(after.Deals) > len(c.Deals) && after.Deals[len(c.Deals)].T != o.T {
		t.Fatalf("%s: one more that nobody spoke of", told)
	}
}

// isTold holds that an outcome that is told is that of the deal, and that only what has begun, with valid Parts, is committed.
func isTold(t *testing.T, told string, after api.Coord, o api.Order, a api.Answer) {
	t.Helper()
	_, d, there := plainFind(after, o.T)
	if a.Commit && (!there || d.State != api.DealCommit || !plainValid(d.Parts)) {
		t.Fatalf("%s: told to be committed", told)
	}
	if tells(o, a) && (!there || d.State == api.DealOpen || a.Commit != (d.State == api.DealCommit)) {
		t.Fatalf("%s: it came to %+v, %v", told, d, there)
	}
}

// tells: does an answer tell an outcome?
func tells(o api.Order, a api.Answer) bool {
	return a.Err == api.ErrOver || a.Err == api.OK && (o.Kind == api.ODecide || o.Kind == api.OStatus)
}

// everybodyHears holds that whoever asks of a deal that has an outcome, and whoever wants another one, is told the same, and changes nothing.
func everybodyHears(t *testing.T, told string, c api.Coord, d api.Deal) {
	t.Helper()
	if d.State == api.DealOpen {
		return
	}
	commit := d.State == api.DealCommit
	for _, o := range []api.Order{{Kind: api.OStatus}, {Kind: api.OStatus, Commit: true}, {Kind: api.ODecide}, {Kind: api.ODecide, Commit: true}, {Kind: api.OBegin, Parts: []uint64{1}}, {Kind: api.OBegin, Parts: []uint64{2, 63}}} {
		o.T = d.T
		want := ended(commit)
		if o.Kind == api.OBegin {
			want = over(commit)
		}
		if after, a := coord.Do(c, o); a != want || !plainSame(after, c) {
			t.Fatalf("%s: it came to %+v, and %+v is told %+v", told, d, o, a)
		}
	}
}

// P14.3: every coordinator that orders of two and three transactions lead to.
func TestAllCoordsOfFew(t *testing.T) {
	var all []api.Order
	for _, who := range []string{"1", "2", "2.1"} {
		all = append(all, orders("begin "+who+" 1, begin "+who+" 1 2, begin "+who+" 2 1, commit "+who+", abort "+who+", status "+who)...)
	}
	all = append(all, api.Order{Kind: api.OFinish, T: tx("1"), Commit: true})
	told := map[api.Errno]int{}
	met := map[string]bool{}
	next := []api.Coord{{}}
	for len(next) > 0 {
		c := next[0]
		next = next[1:]
		for _, o := range all {
			after, a := step(t, c, o)
			told[a.Err]++
			if is := fmt.Sprintf("%+v", after); !met[is] {
				met[is] = true
				next = append(next, after)
			}
		}
	}
	// 7 deals of each, in any order: 1 + 3*7 + 3*2*7*7 + 3*2*1*7*7*7.
	if len(met) != 1+21+294+2058 {
		t.Errorf("%d coordinators", len(met))
	}
	for _, e := range []api.Errno{api.OK, api.ErrArg, api.ErrOver, api.ErrThere, api.ErrNone} {
		if told[e] < 50 {
			t.Errorf("the error %d: only %d times", e, told[e])
		}
	}
}

// P14.3: many runs of mixed orders, in which the coordinator gets full: what was told of a transaction once is told of it ever after.
func TestRunsFollow(t *testing.T) {
	r := rand.New(rand.NewSource(143))
	told := map[api.Errno]int{}
	most, committed, aborted := 0, 0, 0
	for range 120 {
		who := some(r, 2+r.Intn(200))
		out := map[api.Tx]bool{}
		begun := map[api.Tx][]uint64{}
		c := api.Coord{}
		for range 20 + r.Intn(400) {
			o := mixedOrder(r, c, who)
			var a api.Answer
			c, a = step(t, c, o)
			told[a.Err]++
			most = max(most, len(c.Deals))
			if o.Kind == api.OBegin && a.Err == api.OK {
				if was, ok := begun[o.T]; ok && !slices.Equal(was, o.Parts) {
					t.Fatalf("%+v: begun with %v before", o, was)
				}
				begun[o.T] = o.Parts
			}
			if !tells(o, a) {
				continue
			}
			if was, ok := out[o.T]; ok && was != a.Commit {
				t.Fatalf("%+v: told %v, and %v before", o, a.Commit, was)
			}
			if _, ok := begun[o.T]; !ok && a.Commit {
				t.Fatalf("%+v: committed, and never begun", o)
			}
			out[o.T] = a.Commit
		}
		for _, d := range c.Deals {
			everybodyHears(t, "a run", c, d)
			if d.State == api.DealCommit {
				committed++
			}
			if d.State == api.DealAbort {
				aborted++
			}
		}
	}
	for _, e := range []api.Errno{api.OK, api.ErrArg, api.ErrOver, api.ErrThere, api.ErrNone, api.ErrFull} {
		if told[e] < 100 {
			t.Errorf("the error %d: only %d times", e, told[e])
		}
	}
	if most != api.MaxTx || committed < 300 || aborted < 300 {
		t.Errorf("at most %d deals; %d committed, %d aborted; %v", most, committed, aborted, told)
	}
}

// P14.3: of two that want different outcomes the first one gets its own, and both hear of it, in whatever order they come.
func TestWhoeverIsFirst(t *testing.T) {
	wants := orders("commit 1, abort 1, status 1")
	for _, asked := range listsOf(5, wants...) {
		c, _ := coord.Do(api.Coord{}, order("begin 1 1 2"))
		for i, o := range asked {
			var a api.Answer
			c, a = step(t, c, o)
			if a != ended(asked[0].Commit) {
				t.Fatalf("%+v, the order %d: %+v", asked, i, a)
			}
		}
	}
	// With other transactions in between, each of which comes to what was asked first.
	c := api.Coord{}
	for i := range 20 {
		c, _ = step(t, c, begin(strconv.Itoa(i), []uint64{1}))
	}
	for k := range 3 {
		for i := range 20 {
			o := wants[(i+k)%3]
			o.T = tx(strconv.Itoa(i))
			var a api.Answer
			if c, a = step(t, c, o); a != ended(i%3 == 0) {
				t.Fatalf("%+v: %+v", o, a)
			}
		}
	}
}
