package rows_test

import (
	"math/rand"
	"slices"
	"testing"

	"ferrule/api"
	"ferrule/rows"
)

// plainRight is the chapter's Words: every row by itself, and every two.
func plainRight(l []api.Row) bool {
	for i, r := range l {
		if r.Key == "" || len(r.Key) > 16 || len(r.Val) > 32 || r.Ver > 1<<62-1 {
			return false
		}
		for _, later := range l[i+1:] {
			if slices.Compare([]byte(r.Key), []byte(later.Key)) >= 0 {
				return false
			}
		}
	}
	return len(l) <= 32
}

// plainFits is P11.1, word by word.
func plainFits(p []api.Put) api.Errno {
	if len(p) > 8 {
		return api.ErrBig
	}
	for i, x := range p {
		if x.Key == "" || len(x.Key) > 16 || len(x.Val) > 32 || x.Gone && x.Val != "" {
			return api.ErrArg
		}
		for _, later := range p[i+1:] {
			if x.Key == later.Key {
				return api.ErrArg
			}
		}
	}
	return api.OK
}

// plainDo is P11.2, row by row.
func plainDo(l []api.Row, p api.Put, ver uint64) ([]api.Row, api.Errno) {
	if e := plainFits([]api.Put{p}); e != api.OK {
		return nil, e
	}
	there := 0
	for _, r := range l {
		if r.Key == p.Key {
			there++
		}
	}
	if !p.Gone && there == 0 && len(l) >= 32 {
		return nil, api.ErrFull
	}
	var after []api.Row
	laid := p.Gone
	for _, r := range l {
		switch {
		case p.Gone && r.Key == p.Key:
			continue
		case !laid && there > 0 && r.Key == p.Key:
			r.Val, r.Ver, laid = p.Val, ver, true
		case !laid && there == 0 && slices.Compare([]byte(r.Key), []byte(p.Key)) > 0:
			after, laid = append(after, api.Row{Key: p.Key, Val: p.Val, Ver: ver}), true
		}
		after = append(after, r)
	}
	if !laid {
		after = append(after, api.Row{Key: p.Key, Val: p.Val, Ver: ver})
	}
	return after, api.OK
}

// plainAll is P11.3, word by word.
func plainAll(l []api.Row, p []api.Put, ver uint64) ([]api.Row, api.Errno) {
	e := plainFits(p)
	for _, x := range p {
		if x.Gone && e == api.OK {
			l, e = plainDo(l, x, ver)
		}
	}
	for _, x := range p {
		if !x.Gone && e == api.OK {
			l, e = plainDo(l, x, ver)
		}
	}
	if e != api.OK {
		return nil, e
	}
	return l, e
}

// listsOf are all lists of at most so many of the items.
func listsOf[T any](most int, items ...T) [][]T {
	all := [][]T{nil}
	for from := 0; from < len(all) && len(all[from]) < most; from++ {
		for _, x := range items {
			all = append(all, append(slices.Clone(all[from]), x))
		}
	}
	return all
}

// held holds every call of the list, with the puts and the version, to the plain words.
func held(t *testing.T, l []api.Row, p []api.Put, ver uint64) {
	t.Helper()
	if got := rows.Right(l); got != plainRight(l) {
		t.Fatalf("Right(%v) = %v", l, got)
	}
	if e := rows.Fits(p); e != plainFits(p) {
		t.Fatalf("Fits(%v) = %d", p, e)
	}
	want, wantE := plainAll(l, p, ver)
	if got, e := rows.All(l, p, ver); !slices.Equal(got, want) || e != wantE {
		t.Fatalf("All(%v, %v, %d) = %v, %d, want %v, %d", l, p, ver, got, e, want, wantE)
	}
	for _, x := range p {
		want, wantE := plainDo(l, x, ver)
		if got, e := rows.Do(l, x, ver); !slices.Equal(got, want) || e != wantE {
			t.Fatalf("Do(%v, %v, %d) = %v, %d, want %v, %d", l, x, ver, got, e, want, wantE)
		}
		i := slices.IndexFunc(l, func(r api.Row) bool { return r.Key == x.Key })
		if got, ok := rows.Get(l, x.Key); ok != (i >= 0) || ok && got != l[i] || !ok && got != (api.Row{}) {
			t.Fatalf("Get(%v, %q) = %v, %v", l, x.Key, got, ok)
		}
	}
}

// P11.1 to P11.3: every list of up to three rows, right or not, and every puts of up to two.
func TestSmallListsArePlain(t *testing.T) {
	var few []api.Row
	for _, key := range []string{"", "b", "ba", "c", "\x80", text(17)} {
		few = append(few, api.Row{Key: key, Val: "1", Ver: 5})
	}
	few = append(few, api.Row{Key: "b", Val: "2", Ver: api.MaxNum + 1}, api.Row{Key: "c", Val: text(33)})
	var some []api.Put
	for _, key := range []string{"", "a", "b", "ba", "bb", "c", "\xff", text(17)} {
		some = append(some, api.Put{Key: key, Val: "x"}, api.Put{Key: key, Gone: true})
	}
	some = append(some, api.Put{Key: "b", Val: text(33)}, api.Put{Key: "c", Val: "x", Gone: true})
	all := listsOf(2, some...)
	for _, l := range listsOf(3, few...) {
		for _, p := range all {
			held(t, l, p, 9)
		}
	}
}

// P11.3: every puts of up to four on lists with little room, right or not.
func TestFullListsArePlain(t *testing.T) {
	var some []api.Put
	for _, key := range []string{"a", kept(0), kept(30), "z"} {
		some = append(some, api.Put{Key: key, Val: "x"}, api.Put{Key: key, Gone: true})
	}
	all := listsOf(4, some...)
	for n := api.MaxRows - 2; n <= api.MaxRows+2; n++ {
		back := many(n)
		slices.Reverse(back)
		twice := append(many(n-1), many(1)...)
		for _, l := range [][]api.Row{many(n), back, twice} {
			for _, p := range all {
				held(t, l, p, api.MaxNum)
			}
		}
	}
}

// alphabet are the bytes of mixed keys: of letters, of runes, and of none.
const alphabet = "\x00ab\x7f\x80\xc3\xa9\xff"

// mixedText is a text of least to most bytes.
func mixedText(r *rand.Rand, least, most int) string {
	b := make([]byte, least+r.Intn(most-least+1))
	for i := range b {
		b[i] = alphabet[r.Intn(len(alphabet))]
	}
	return string(b)
}

// mixedKeys are so many keys, of which no two are the same, in no order.
func mixedKeys(r *rand.Rand, n int) []string {
	var l []string
	for len(l) < n {
		most := api.MaxKey
		if r.Intn(3) > 0 {
			most = 3
		}
		if key := mixedText(r, 1, most); !slices.Contains(l, key) {
			l = append(l, key)
		}
	}
	return l
}

// mixedList is a list of some of the keys, in order, each of any version.
func mixedList(r *rand.Rand, keys []string) []api.Row {
	var l []api.Row
	for _, key := range slices.Sorted(slices.Values(keys)) {
		l = append(l, api.Row{Key: key, Val: mixedText(r, 0, api.MaxVal), Ver: uint64(r.Int63n(1<<62)) >> r.Intn(63)})
	}
	return l
}

// mixedPuts are puts of keys.
func mixedPuts(r *rand.Rand, keys []string) []api.Put {
	var l []api.Put
	for _, key := range keys {
		p := api.Put{Key: key, Gone: r.Intn(3) == 0}
		if !p.Gone {
			p.Val = mixedText(r, 0, api.MaxVal)
		}
		l = append(l, p)
	}
	return l
}

// P11.1 to P11.3: mixed lists, of which some are not right, and mixed puts, of which some do not fit.
func TestMixedListsArePlain(t *testing.T) {
	r := rand.New(rand.NewSource(11))
	told := map[api.Errno]int{}
	for range 20000 {
		keys := mixedKeys(r, 1+r.Intn(40))
		l := mixedList(r, keys[:r.Intn(min(len(keys), 35)+1)])
		if r.Intn(3) == 0 {
			// With room for little.
			keys = mixedKeys(r, 36+r.Intn(5))
			l = mixedList(r, keys[:30+r.Intn(6)])
		}
		if r.Intn(3) == 0 {
			r.Shuffle(len(l), func(i, k int) { l[i], l[k] = l[k], l[i] })
		}
		if len(l) > 1 && r.Intn(3) == 0 {
			l[r.Intn(len(l))].Key = l[0].Key
		}
		r.Shuffle(len(keys), func(i, k int) { keys[i], keys[k] = keys[k], keys[i] })
		p := mixedPuts(r, keys[:min(len(keys), r.Intn(api.MaxPuts+1))])
		switch {
		case len(p) > 0 && r.Intn(20) == 0:
			p[r.Intn(len(p))] = misfits()[r.Intn(len(misfits()))]
		case r.Intn(20) == 0:
			p = append(p, manyPuts(1+r.Intn(api.MaxPuts))...)
		}
		held(t, l, p, r.Uint64()>>r.Intn(64))
		_, e := rows.All(l, p, 0)
		told[e]++
	}
	for _, e := range []api.Errno{api.OK, api.ErrArg, api.ErrBig, api.ErrFull} {
		if told[e] < 300 {
			t.Errorf("the error %d came only %d times", e, told[e])
		}
	}
}

// follows holds P11.5: what All makes of a right list.
func follows(t *testing.T, l []api.Row, p []api.Put, ver uint64) []api.Row {
	t.Helper()
	after, e := rows.All(l, p, ver)
	want := map[string]api.Row{}
	for _, r := range l {
		want[r.Key] = r
	}
	for _, x := range p {
		if want[x.Key] = (api.Row{Key: x.Key, Val: x.Val, Ver: ver}); x.Gone {
			delete(want, x.Key)
		}
	}
	if len(want) > api.MaxRows {
		if after != nil || e != api.ErrFull {
			t.Fatalf("%d rows would be: %v, %d", len(want), after, e)
		}
		return l
	}
	if e != api.OK || !rows.Right(after) || !plainRight(after) || len(after) != len(want) {
		t.Fatalf("All(%v, %v, %d) = %v, %d", l, p, ver, after, e)
	}
	for _, x := range p {
		if r, ok := rows.Get(after, x.Key); ok == x.Gone || ok && (r.Val != x.Val || r.Ver != ver) {
			t.Fatalf("behind %v, %d: %v, %v", x, ver, r, ok)
		}
	}
	for _, r := range after {
		if r != want[r.Key] {
			t.Fatalf("All(%v, %v, %d) = %v: the row %v", l, p, ver, after, r)
		}
	}
	return after
}

// P11.5: a right list stays right under mixed puts, with every version that may be.
func TestAllFollows(t *testing.T) {
	r := rand.New(rand.NewSource(5))
	for range 20000 {
		keys := mixedKeys(r, 8+r.Intn(33))
		l := mixedList(r, keys[:r.Intn(min(len(keys), api.MaxRows)+1)])
		r.Shuffle(len(keys), func(i, k int) { keys[i], keys[k] = keys[k], keys[i] })
		p := mixedPuts(r, keys[:r.Intn(api.MaxPuts+1)])
		for _, ver := range []uint64{0, uint64(r.Int63n(1 << 62)), api.MaxNum} {
			follows(t, l, p, ver)
		}
	}
}

// P11.5: a list that begins as nothing stays right, however many puts follow one another; each round's bytes are taken again.
func TestAllFollowsItself(t *testing.T) {
	r := rand.New(rand.NewSource(6))
	least, most := 99, 0
	for _, n := range []int{9, 20, 32, 33, 40} {
		keys := mixedKeys(r, n)
		var l []api.Row
		for ver := range uint64(2000) {
			r.Shuffle(len(keys), func(i, k int) { keys[i], keys[k] = keys[k], keys[i] })
			p := mixedPuts(r, keys[:r.Intn(api.MaxPuts+1)])
			if ver%1000 > 900 {
				// Near the end little stays.
				for i := range p {
					p[i].Val, p[i].Gone = "", r.Intn(9) > 0
				}
			}
			l = follows(t, l, p, ver)
			roundTrip(t, l, mixedText(r, 0, 9))
			if ver > 100 {
				least, most = min(least, len(l)), max(most, len(l))
			}
		}
	}
	if least > 2 || most < api.MaxRows {
		t.Errorf("lists of %d to %d rows only", least, most)
	}
}
