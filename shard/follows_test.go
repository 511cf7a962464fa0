package shard_test

import (
	"fmt"
	"math/rand"
	"slices"
	"testing"

	"ferrule/api"
	"ferrule/lock"
	"ferrule/rows"
	"ferrule/shard"
)

// call is a call of Do, and what it answered.
type call struct {
	s, after api.Shard
	o        api.Order
	a        api.Answer
}

// String is what it was.
func (c call) String() string { return fmt.Sprintf("Do(%+v, %+v) = %+v, %+v", c.s, c.o, c.after, c.a) }

// step holds P13.3 for one order in a shard that is right, and answers the shard that results.
func step(t *testing.T, s api.Shard, o api.Order) (api.Shard, api.Answer) {
	t.Helper()
	after, a := held(t, s, o)
	c := call{s, after, o, a}
	if !shard.Right(after) || !plainRight(after) {
		t.Fatalf("%s: not right", c)
	}
	if a.Err != api.OK && !plainSame(s, after) {
		t.Fatalf("%s: an error, and it changed", c)
	}
	firmStay(t, c)
	outcomesStay(t, c)
	if o.Kind == api.OFinish && a.Err == api.OK {
		finished(t, c)
	}
	if (o.Kind == api.ORead || o.Kind == api.OLock) && a.Err == api.OK && !lock.Has(after.Holds, o.T, o.Key, o.Kind == api.OLock) {
		t.Fatalf("%s: it has no lock", c)
	}
	return after, a
}

// firmStay holds that each firm transaction stays so until it is finished, with all that it has, and can be committed.
func firmStay(t *testing.T, c call) {
	t.Helper()
	s, after, o, a := c.s, c.after, c.o, c.a
	for _, x := range s.Open {
		if !x.Firm || o.Kind == api.OFinish && o.T == x.T && a.Err == api.OK {
			continue
		}
		_, y, known := plainKnown(after, x.T)
		if !known || !y.Firm || y.Wounded || !slices.Equal(x.Puts, y.Puts) {
			t.Fatalf("%s: %+v was firm", c, x)
		}
		for _, h := range s.Holds {
			if h.T == x.T && !slices.Contains(after.Holds, h) {
				t.Fatalf("%s: %+v, firm, lost %+v", c, x, h)
			}
		}
	}
	for _, x := range after.Open {
		if x.Firm {
			alone(t, c, after, x.T)
			commits(t, c, after, x)
		}
	}
}

// alone holds that nobody else has a lock that conflicts with one of this transaction.
func alone(t *testing.T, c call, s api.Shard, who api.Tx) {
	t.Helper()
	for _, h := range s.Holds {
		for _, g := range s.Holds {
			if h.T == who && g.T != who && h.Key == g.Key && (h.Write || g.Write) {
				t.Fatalf("%s: %+v beside %+v", c, g, h)
			}
		}
	}
}

// commits holds that a firm transaction can be committed, and what its Puts come to then.
func commits(t *testing.T, c call, s api.Shard, x api.Open) {
	t.Helper()
	after, a := shard.Do(s, api.Order{Kind: api.OFinish, T: x.T, Commit: true})
	if a != ended(true) || !shard.Right(after) {
		t.Fatalf("%s: %+v is firm, and to commit it: %+v, %+v", c, x, after, a)
	}
	if len(x.Puts) == 0 {
		if after.Ver != s.Ver || !slices.Equal(after.Rows, s.Rows) {
			t.Fatalf("%s: %+v puts nothing: %+v", c, x, after)
		}
		return
	}
	put := map[string]bool{}
	for _, p := range x.Puts {
		put[p.Key] = true
		r, found := rows.Get(after.Rows, p.Key)
		if found == p.Gone || found && (r.Val != p.Val || r.Ver != s.Ver+1) {
			t.Fatalf("%s: %+v is put: %+v", c, p, r)
		}
	}
	other := func(r api.Row) bool { return put[r.Key] }
	if after.Ver != s.Ver+1 || !slices.Equal(slices.DeleteFunc(slices.Clone(after.Rows), other), slices.DeleteFunc(slices.Clone(s.Rows), other)) {
		t.Fatalf("%s: %+v is committed: %+v", c, x, after)
	}
}

// outcomesStay holds that no outcome changes, and that each is reported as it is.
func outcomesStay(t *testing.T, c call) {
	t.Helper()
	s, after, o, a := c.s, c.after, c.o, c.a
	if len(after.Done) < len(s.Done) || !slices.Equal(after.Done[:len(s.Done)], s.Done) {
		t.Fatalf("%s: an outcome changed", c)
	}
	d, over := plainOver(s, o.T)
	told := a.Err == api.ErrOver || o.Kind == api.OFinish && a.Err == api.OK
	if over && 1 <= o.Kind && o.Kind <= 4 && (!told || a.Commit != d.Commit) || !over && a.Err == api.ErrOver {
		t.Fatalf("%s: it had ended so: %+v, %v", c, d, over)
	}
	if !told && a.Commit {
		t.Fatalf("%s: it has not ended", c)
	}
	if e, now := plainOver(after, o.T); told && (!now || e.Commit != a.Commit) {
		t.Fatalf("%s: it has ended so: %+v, %v", c, e, now)
	}
}

// finished holds what remains of a transaction that has ended: the element of Done, and what it put if it was firm and committed.
func finished(t *testing.T, c call) {
	t.Helper()
	s, after, o := c.s, c.after, c.o
	if plainTimes(after, o.T) != 1 {
		t.Fatalf("%s: it is there %d times", c, plainTimes(after, o.T))
	}
	if slices.ContainsFunc(after.Holds, func(h api.Hold) bool { return h.T == o.T }) {
		t.Fatalf("%s: it has holds", c)
	}
	if !o.Commit && (after.Ver != s.Ver || !slices.Equal(after.Rows, s.Rows)) {
		t.Fatalf("%s: it was aborted, and something is left", c)
	}
	if _, was := plainOver(s, o.T); was {
		if !plainSame(s, after) {
			t.Fatalf("%s: it was over, and it changed", c)
		}
		return
	}
	// Of others nothing is gone.
	want := trimmed(s)
	want.Rows, want.Ver = after.Rows, after.Ver
	want.Holds = slices.DeleteFunc(want.Holds, func(h api.Hold) bool { return h.T == o.T })
	want.Open = slices.DeleteFunc(want.Open, func(x api.Open) bool { return x.T == o.T })
	want.Done = append(want.Done, api.Done{T: o.T, Commit: o.Commit})
	if !plainSame(after, want) {
		t.Fatalf("%s: want %+v", c, want)
	}
}

// reach walks through all shards that the orders lead to from the empty one, and tells how many there are, and how often each error came.
func reach(t *testing.T, all []api.Order) (int, map[api.Errno]int) {
	t.Helper()
	told := map[api.Errno]int{}
	met := map[string]bool{}
	next := []api.Shard{{}}
	for len(next) > 0 {
		s := next[0]
		next = next[1:]
		for _, o := range all {
			after, a := step(t, s, o)
			told[a.Err]++
			if told := fmt.Sprintf("%+v", after); !met[told] {
				met[told] = true
				next = append(next, after)
			}
		}
	}
	return len(met), told
}

// P13.3: every shard that two transactions with two keys, or three with one, lead to.
func TestAllShardsOfFew(t *testing.T) {
	var two, three []api.Order
	for _, who := range []string{"1", "2"} {
		two = append(two, orders("read "+who+" a, lock "+who+" a, lock "+who+" b, prepare "+who+", prepare "+who+" a="+who+", prepare "+who+" b- a=, commit "+who+", abort "+who)...)
	}
	for _, who := range []string{"1", "2", "3"} {
		three = append(three, orders("read "+who+" a, lock "+who+" a, prepare "+who+", prepare "+who+" a="+who+", commit "+who+", abort "+who)...)
	}
	for _, all := range [][]api.Order{two, three} {
		n, told := reach(t, all)
		if n < 200 {
			t.Errorf("%d shards only", n)
		}
		for _, e := range []api.Errno{api.OK, api.ErrOver, api.ErrNone, api.ErrBusy, api.ErrWound, api.ErrOrder} {
			if told[e] < 50 {
				t.Errorf("the error %d: only %d times", e, told[e])
			}
		}
	}
}

// run is a run of mixed orders from the empty shard on, and what was told in it.
type run struct {
	who  []api.Tx
	keys []string
	// Of so many Puts about one is Gone; of so many orders about one is not of one that is open; so many of 20 ask for locks.
	gone, old, locks int
	out              map[api.Tx]bool // how those that were told to be over have ended
	firm             map[api.Tx][]api.Put
}

// hear holds that what a is told of an outcome is what was told before, and that only what was firm is committed.
func (x *run) hear(t *testing.T, o api.Order, a api.Answer) {
	t.Helper()
	if o.Kind == api.OPrepare && a.Err == api.OK {
		if was, ok := x.firm[o.T]; ok && !slices.Equal(was, o.Puts) {
			t.Fatalf("%+v was firm with other Puts: %+v", o, was)
		}
		x.firm[o.T] = o.Puts
	}
	if a.Err != api.ErrOver && (o.Kind != api.OFinish || a.Err != api.OK) {
		return
	}
	if was, ok := x.out[o.T]; ok && was != a.Commit {
		t.Fatalf("%+v: told %v, and %v before", o, a.Commit, was)
	}
	if _, ok := x.firm[o.T]; !ok && a.Commit {
		t.Fatalf("%+v: committed, and was never firm", o)
	}
	x.out[o.T] = a.Commit
}

// next is an order of one that is open, most of the time: to lock more, to prepare what it may write, to end.
func (x *run) next(r *rand.Rand, s api.Shard) api.Order {
	o := mixedOrder(r, s, x.who, x.keys)
	if r.Intn(6) == 0 {
		return o
	}
	if len(s.Open) > 0 && r.Intn(x.old) > 0 {
		o.T = oneOf(r, s.Open).T
	}
	switch n := r.Intn(20); {
	case n < x.locks:
		return api.Order{Kind: 1 + r.Intn(2), T: o.T, Key: oneOf(r, x.keys)}
	case n < (x.locks+20)/2:
		o = api.Order{Kind: api.OPrepare, T: o.T}
		for _, key := range writable(s, o.T) {
			o.Puts = append(o.Puts, api.Put{Key: key, Val: "v"})
		}
		for i := range o.Puts {
			if r.Intn(x.gone) == 0 {
				o.Puts[i] = api.Put{Key: o.Puts[i].Key, Gone: true}
			}
		}
		return o
	}
	return api.Order{Kind: api.OFinish, T: o.T, Commit: r.Intn(8) > 0}
}

// P13.3: many runs of mixed orders, in which all that is limited gets full.
func TestRunsFollow(t *testing.T) {
	r := rand.New(rand.NewSource(133))
	told := map[api.Errno]int{}
	mostRows, mostHolds, mostTx, committed := 0, 0, 0, 0
	for range 160 {
		x := run{who: some(r, 2+r.Intn(200)), keys: names(1 + r.Intn(120)), gone: 2 + r.Intn(60), old: 2 + r.Intn(8), locks: 8 + r.Intn(12), out: map[api.Tx]bool{}, firm: map[api.Tx][]api.Put{}}
		s := api.Shard{}
		for range 50 + r.Intn(600) {
			o := x.next(r, s)
			var a api.Answer
			s, a = step(t, s, o)
			x.hear(t, o, a)
			told[a.Err]++
			mostRows, mostHolds, mostTx = max(mostRows, len(s.Rows)), max(mostHolds, len(s.Holds)), max(mostTx, len(s.Open)+len(s.Done))
		}
		for _, d := range s.Done {
			if d.Commit {
				committed++
			}
		}
	}
	for _, e := range []api.Errno{api.OK, api.ErrArg, api.ErrOver, api.ErrNone, api.ErrBusy, api.ErrWound, api.ErrOrder, api.ErrFull} {
		if told[e] < 100 {
			t.Errorf("the error %d: only %d times", e, told[e])
		}
	}
	if mostRows != api.MaxRows || mostHolds != api.MaxHold || mostTx != api.MaxTx || committed < 500 {
		t.Errorf("at most %d rows, %d holds, %d transactions; %d committed; %v", mostRows, mostHolds, mostTx, committed, told)
	}
}
