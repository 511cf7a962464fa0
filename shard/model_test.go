package shard_test

import (
	"math/rand"
	"slices"
	"strconv"
	"testing"

	"ferrule/api"
	"ferrule/lock"
	"ferrule/rows"
	"ferrule/shard"
)

// plainOver is the first element of Done with that T.
func plainOver(s api.Shard, t api.Tx) (api.Done, bool) {
	for _, x := range s.Done {
		if x.T == t {
			return x, true
		}
	}
	return api.Done{}, false
}

// plainKnown is the first element of Open with that T, and where it is.
func plainKnown(s api.Shard, t api.Tx) (int, api.Open, bool) {
	for i, x := range s.Open {
		if x.T == t {
			return i, x, true
		}
	}
	return 0, api.Open{}, false
}

// plainFull: has it MaxTx transactions or more?
func plainFull(s api.Shard) bool { return len(s.Open)+len(s.Done) >= 64 }

// plainKeys is how many keys the rows, what is firm and these Puts have together.
func plainKeys(s api.Shard, puts []api.Put) int {
	var keys []string
	count := func(key string) {
		if !slices.Contains(keys, key) {
			keys = append(keys, key)
		}
	}
	for _, r := range s.Rows {
		count(r.Key)
	}
	for _, x := range s.Open {
		for _, p := range x.Puts {
			if x.Firm && !p.Gone {
				count(p.Key)
			}
		}
	}
	for _, p := range puts {
		if !p.Gone {
			count(p.Key)
		}
	}
	return len(keys)
}

// plainWrites: has t a Write hold of the key?
func plainWrites(s api.Shard, t api.Tx, key string) bool {
	for _, h := range s.Holds {
		if h.T == t && h.Key == key && h.Write {
			return true
		}
	}
	return false
}

// plainAccess is P13.1 of ORead and OLock, sentence by sentence.
func plainAccess(s api.Shard, o api.Order) (api.Shard, api.Answer) {
	if d, ok := plainOver(s, o.T); ok {
		return s, over(d.Commit)
	}
	if len(o.Key) == 0 || len(o.Key) > 16 {
		return s, no(api.ErrArg)
	}
	_, x, known := plainKnown(s, o.T)
	if known && x.Wounded {
		return s, no(api.ErrWound)
	}
	if known && x.Firm {
		return s, no(api.ErrOrder)
	}
	if !known && plainFull(s) {
		return s, no(api.ErrFull)
	}
	var firm []api.Tx
	for _, y := range s.Open {
		if y.Firm {
			firm = append(firm, y.T)
		}
	}
	holds, wounded, e := lock.Ask(s.Holds, o.T, o.Key, o.Kind == api.OLock, firm)
	if e != api.OK {
		return s, no(e)
	}
	after := trimmed(s)
	after.Holds = holds
	for i := range after.Open {
		for _, w := range wounded {
			if after.Open[i].T == w {
				after.Open[i].Wounded = true
			}
		}
	}
	if !known {
		after.Open = append(after.Open, api.Open{T: o.T})
	}
	for _, r := range s.Rows {
		if r.Key == o.Key {
			return after, row(r.Val, r.Ver)
		}
	}
	return after, nothing(s.Ver)
}

// plainPrepare is P13.1 of OPrepare, sentence by sentence.
func plainPrepare(s api.Shard, o api.Order) (api.Shard, api.Answer) {
	if d, ok := plainOver(s, o.T); ok {
		return s, over(d.Commit)
	}
	i, x, known := plainKnown(s, o.T)
	if !known {
		return s, no(api.ErrNone)
	}
	if x.Wounded {
		return s, no(api.ErrWound)
	}
	if x.Firm {
		same := len(x.Puts) == len(o.Puts)
		for k := 0; same && k < len(x.Puts); k++ {
			same = x.Puts[k] == o.Puts[k]
		}
		if same {
			return s, done
		}
		return s, no(api.ErrOrder)
	}
	if e := rows.Fits(o.Puts); e != api.OK {
		return s, no(e)
	}
	for _, p := range o.Puts {
		if !plainWrites(s, o.T, p.Key) {
			return s, no(api.ErrOrder)
		}
	}
	if plainKeys(s, o.Puts) > 32 {
		return s, no(api.ErrFull)
	}
	after := trimmed(s)
	after.Open[i].Firm = true
	after.Open[i].Puts = slices.Clone(o.Puts)
	return after, done
}

// plainFinish is P13.1 of OFinish, sentence by sentence.
func plainFinish(s api.Shard, o api.Order) (api.Shard, api.Answer) {
	if d, ok := plainOver(s, o.T); ok {
		if d.Commit == o.Commit {
			return s, ended(d.Commit)
		}
		return s, over(d.Commit)
	}
	_, x, known := plainKnown(s, o.T)
	if !known && o.Commit {
		return s, no(api.ErrNone)
	}
	if !known && plainFull(s) {
		return s, no(api.ErrFull)
	}
	after := trimmed(s)
	if known && o.Commit {
		if !x.Firm {
			return s, no(api.ErrOrder)
		}
		if len(x.Puts) > 0 {
			l, e := rows.All(s.Rows, x.Puts, s.Ver+1)
			if e != api.OK {
				return s, no(e)
			}
			after.Rows = l
			after.Ver = s.Ver + 1
		}
	}
	after.Holds, after.Open = nil, nil
	for _, h := range s.Holds {
		if h.T != o.T {
			after.Holds = append(after.Holds, h)
		}
	}
	for _, y := range s.Open {
		if y.T != o.T {
			after.Open = append(after.Open, y)
		}
	}
	after.Done = append(after.Done, api.Done{T: o.T, Commit: o.Commit})
	return after, ended(o.Commit)
}

// plainDo is P13.1.
func plainDo(s api.Shard, o api.Order) (api.Shard, api.Answer) {
	if o.Kind == api.ORead || o.Kind == api.OLock {
		return plainAccess(s, o)
	}
	if o.Kind == api.OPrepare {
		return plainPrepare(s, o)
	}
	if o.Kind == api.OFinish {
		return plainFinish(s, o)
	}
	return s, no(api.ErrArg)
}

// plainTimes is how often a T is in Open and in Done.
func plainTimes(s api.Shard, t api.Tx) int {
	n := 0
	for _, x := range s.Open {
		if x.T == t {
			n++
		}
	}
	for _, x := range s.Done {
		if x.T == t {
			n++
		}
	}
	return n
}

// plainRight is the chapter's Words, part by part.
func plainRight(s api.Shard) bool {
	if !rows.Right(s.Rows) || !lock.Right(s.Holds) || len(s.Open)+len(s.Done) > 64 || plainKeys(s, nil) > 32 {
		return false
	}
	for _, x := range s.Done {
		if plainTimes(s, x.T) != 1 {
			return false
		}
	}
	for _, x := range s.Open {
		if plainTimes(s, x.T) != 1 || x.Firm && (x.Wounded || rows.Fits(x.Puts) != api.OK) || !x.Firm && len(x.Puts) > 0 {
			return false
		}
		for _, p := range x.Puts {
			if !plainWrites(s, x.T, p.Key) {
				return false
			}
		}
	}
	for _, h := range s.Holds {
		if _, x, known := plainKnown(s, h.T); !known || x.Wounded {
			return false
		}
	}
	return true
}

// held holds Do to the plain words, and tells the answer's error.
func held(t *testing.T, s api.Shard, o api.Order) (api.Shard, api.Answer) {
	t.Helper()
	wantS, wantA := plainDo(s, o)
	got, a := shard.Do(s, o)
	if a != wantA || !plainSame(got, wantS) {
		t.Fatalf("Do(%+v, %+v):\n got %+v, %+v\nwant %+v, %+v", s, o, got, a, wantS, wantA)
	}
	if a.Err != api.OK && (a != no(a.Err) && a.Err != api.ErrOver || !plainSame(got, s)) {
		t.Fatalf("Do(%+v, %+v) = %+v, %+v", s, o, got, a)
	}
	return got, a
}

// heldRight holds Right and Same to the plain words.
func heldRight(t *testing.T, s, other api.Shard) bool {
	t.Helper()
	if got := shard.Right(s); got != plainRight(s) {
		t.Fatalf("Right(%+v) = %v", s, got)
	}
	if shard.Same(s, other) != plainSame(s, other) || shard.Same(other, s) != plainSame(s, other) || !shard.Same(s, trimmed(s)) {
		t.Fatalf("Same(%+v, %+v) = %v", s, other, shard.Same(s, other))
	}
	return plainRight(s)
}

// listsOf are all lists of at most so many of the items.
func listsOf[T any](most int, items ...T) [][]T {
	all := [][]T{nil}
	for from := 0; from < len(all) && len(all[from]) < most; from++ {
		for _, x := range items {
			all = append(all, append(slices.Clone(all[from]), x))
		}
	}
	return all
}

// smallOrders are orders of three transactions, of one of which small shards have nothing, with two keys.
func smallOrders() []api.Order {
	var l []api.Order
	for _, who := range []string{"1", "2", "3"} {
		l = append(l, orders("read "+who+" a, read "+who+" b, lock "+who+" a, lock "+who+" , commit "+who+", abort "+who)...)
		l = append(l, orders("prepare "+who+", prepare "+who+" a=1, prepare "+who+" a- b=2, prepare "+who+" a=1 a=1")...)
	}
	return append(l, api.Order{Kind: api.OBegin, T: tx("1")})
}

// P13.1 and P13.2: every shard of up to two elements of Open and two holds, with up to one row, and one that is over, right or not, with every order.
func TestSmallShardsArePlain(t *testing.T) {
	opens := listsOf(2, openOf("1, 1 wounded, 1 firm, 1 firm a=1, 1 firm wounded a-, 1 a=1, 2, 2 wounded, 2 firm b=1, 2 firm a- b=2")...)
	holds := listsOf(2, holdsOf("a 1 r, a 1 w, b 1 w, a 2 r, a 2 w, b 2 r, b 2 w")...)
	dones := listsOf(1, doneOf("1 yes, 2 no")...)
	some := [][]api.Row{nil, rowsOf("a 7 1")}
	all, n := smallOrders(), 0
	last := api.Shard{}
	rights := 0
	for _, o := range opens {
		for _, h := range holds {
			for _, d := range dones {
				s := api.Shard{Rows: some[n%2], Holds: h, Open: o, Done: d, Ver: uint64(n % 3)}
				if heldRight(t, s, last) {
					rights++
				}
				for _, x := range all {
					held(t, s, x)
				}
				last = s
				n++
			}
		}
	}
	if rights < 20 {
		t.Errorf("%d of %d shards are right only", rights, n)
	}
}

// P13.1 and P13.2: elements of Done that occur twice, and such as are in Open too.
func TestDoneTwiceIsPlain(t *testing.T) {
	for _, d := range listsOf(3, doneOf("1 yes, 1 no, 2 yes, 2 no")...) {
		for _, o := range listsOf(1, openOf("1, 1 firm a=1, 2 wounded")...) {
			s := api.Shard{Holds: holdsOf("a 1 w"), Open: o, Done: d, Ver: 1}
			heldRight(t, s, api.Shard{})
			for _, x := range smallOrders() {
				held(t, s, x)
			}
		}
	}
}

// oneOf is one of a list.
func oneOf[T any](r *rand.Rand, l []T) T { return l[r.Intn(len(l))] }

// some are so many transactions of few ages.
func some(r *rand.Rand, n int) []api.Tx {
	var l []api.Tx
	for range n {
		l = append(l, api.Tx{Age: uint64(r.Intn(n)), Id: uint64(r.Intn(3))})
	}
	return l
}

// names are so many keys: of bytes of 0x80 and above, long ones, and others.
func names(n int) []string {
	l := []string{"a", "\x80", text(api.MaxKey), "\xff\xff", "ab", "a\x00", "\x00"}
	for len(l) < n {
		l = append(l, "k"+strconv.Itoa(len(l)))
	}
	return l[:n]
}

// mixedPuts are puts of the keys, most of which fit.
func mixedPuts(r *rand.Rand, keys []string) []api.Put {
	var l []api.Put
	n := r.Intn(4)
	if r.Intn(4) == 0 {
		n = r.Intn(api.MaxPuts + 5)
	}
	for range n {
		p := api.Put{Key: oneOf(r, keys), Val: strconv.Itoa(r.Intn(3)), Gone: r.Intn(4) == 0}
		if p.Gone && r.Intn(10) > 0 {
			p.Val = ""
		}
		switch r.Intn(60) {
		case 0:
			p.Key = ""
		case 1:
			p.Val = text(api.MaxVal + 1)
		}
		twice := slices.ContainsFunc(l, func(x api.Put) bool { return x.Key == p.Key })
		if !twice || r.Intn(10) == 0 {
			l = append(l, p)
		}
	}
	return l
}

// mixedShard is a shard of any of these, most of which is not right.
func mixedShard(r *rand.Rand, who []api.Tx, keys []string) api.Shard {
	s := api.Shard{Ver: uint64(r.Intn(5))}
	for range oneOf(r, []int{r.Intn(36), 30 + r.Intn(4), 60}) {
		s.Rows = append(s.Rows, api.Row{Key: oneOf(r, keys), Val: strconv.Itoa(r.Intn(3)), Ver: uint64(r.Intn(5))})
	}
	if r.Intn(2) == 0 {
		slices.SortFunc(s.Rows, func(a, b api.Row) int {
			if a.Key < b.Key {
				return -1
			}
			return 1
		})
		s.Rows = slices.CompactFunc(s.Rows, func(a, b api.Row) bool { return a.Key == b.Key })
	}
	for range r.Intn(52) {
		s.Holds = append(s.Holds, api.Hold{Key: oneOf(r, keys), T: oneOf(r, who), Write: r.Intn(3) > 0})
	}
	n := r.Intn(8)
	if r.Intn(6) == 0 {
		n = 50 + r.Intn(30)
	}
	for range n {
		switch r.Intn(4) {
		case 0:
			s.Done = append(s.Done, api.Done{T: oneOf(r, who), Commit: r.Intn(2) > 0})
		case 1:
			s.Open = append(s.Open, api.Open{T: oneOf(r, who), Firm: true, Wounded: r.Intn(10) == 0, Puts: mixedPuts(r, keys)})
		default:
			s.Open = append(s.Open, api.Open{T: oneOf(r, who), Wounded: r.Intn(3) == 0})
		}
	}
	return s
}

// writable are the keys that t has a Write hold of.
func writable(s api.Shard, t api.Tx) []string {
	var l []string
	for _, h := range s.Holds {
		if h.T == t && h.Write {
			l = append(l, h.Key)
		}
	}
	return l
}

// mixedOrder is an order of one of them.
func mixedOrder(r *rand.Rand, s api.Shard, who []api.Tx, keys []string) api.Order {
	o := api.Order{Kind: 1 + r.Intn(4), T: oneOf(r, who)}
	switch o.Kind {
	case api.ORead, api.OLock:
		o.Key = oneOf(r, keys)
		if r.Intn(20) == 0 {
			o.Key = oneOf(r, []string{"", text(api.MaxKey + 1)})
		}
	case api.OPrepare:
		o.Puts = mixedPuts(r, keys)
		if mine := writable(s, o.T); len(mine) > 0 && r.Intn(4) > 0 {
			o.Puts = mixedPuts(r, mine)
		}
		if _, x, known := plainKnown(s, o.T); known && x.Firm && r.Intn(2) == 0 {
			o.Puts = x.Puts
		}
	case api.OFinish:
		o.Commit = r.Intn(2) > 0
	}
	if r.Intn(40) == 0 {
		o.Kind = r.Intn(12) - 3
	}
	return o
}

// P13.1 and P13.2: mixed shards, right or not, and mixed orders.
func TestMixedShardsArePlain(t *testing.T) {
	r := rand.New(rand.NewSource(13))
	told := map[int]map[api.Errno]int{}
	last := api.Shard{}
	for range 7000 {
		who, keys := some(r, 1+r.Intn(20)), names(1+r.Intn(60))
		s := mixedShard(r, who, keys)
		heldRight(t, s, last)
		for range 6 {
			o := mixedOrder(r, s, append(who, api.Tx{Age: 99}), keys)
			after, a := held(t, s, o)
			heldRight(t, after, s)
			if told[o.Kind] == nil {
				told[o.Kind] = map[api.Errno]int{}
			}
			told[o.Kind][a.Err]++
		}
		last = s
	}
	for kind, all := range map[int][]api.Errno{
		api.ORead:    {api.OK, api.ErrOver, api.ErrArg, api.ErrWound, api.ErrOrder, api.ErrFull, api.ErrBusy},
		api.OLock:    {api.OK, api.ErrOver, api.ErrArg, api.ErrWound, api.ErrOrder, api.ErrFull, api.ErrBusy},
		api.OPrepare: {api.OK, api.ErrOver, api.ErrNone, api.ErrWound, api.ErrOrder, api.ErrArg, api.ErrBig, api.ErrFull},
		api.OFinish:  {api.OK, api.ErrOver, api.ErrNone, api.ErrFull, api.ErrOrder, api.ErrArg, api.ErrBig},
	} {
		for _, e := range all {
			if told[kind][e] < 20 {
				t.Errorf("kind %d, the error %d: only %d times", kind, e, told[kind][e])
			}
		}
	}
}
