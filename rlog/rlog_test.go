package rlog_test

import (
	"math"
	"slices"
	"strconv"
	"strings"
	"testing"

	"ferrule/api"
	"ferrule/rlog"
)

// text is a text of so many bytes.
func text(n int) string { return strings.Repeat("t", n) }

// of are entries of these terms, whose data tell the list's name and their places in it.
func of(name string, terms ...uint64) []api.Entry {
	var l []api.Entry
	for i, v := range terms {
		l = append(l, api.Entry{Term: v, Data: name + strconv.Itoa(i)})
	}
	return l
}

// logOf is a log with a snapshot and entries of these terms.
func logOf(base, baseTerm uint64, terms ...uint64) api.Log {
	return api.Log{Base: base, BaseTerm: baseTerm, Snap: "snap", Entries: of("l", terms...)}
}

// many are so many entries of one term.
func many(n int, term uint64) []api.Entry { return slices.Repeat([]api.Entry{{Term: term}}, n) }

// manyIn is a log of so many entries of the term 1.
func manyIn(base uint64, n int) api.Log { return api.Log{Base: base, BaseTerm: 1, Entries: many(n, 1)} }

// same: are two logs equal? Lists are if their elements are.
func same(a, b api.Log) bool {
	return a.Base == b.Base && a.BaseTerm == b.BaseTerm && a.Snap == b.Snap && slices.Equal(a.Entries, b.Entries)
}

// told is a log in few bytes, however long it is.
func told(l api.Log) string {
	s := "base " + strconv.FormatUint(l.Base, 10) + " of " + strconv.FormatUint(l.BaseTerm, 10) + " " + strconv.Quote(l.Snap[:min(len(l.Snap), 20)]) + ", " + strconv.Itoa(len(l.Entries)) + " entries:"
	for _, x := range l.Entries[:min(len(l.Entries), 8)] {
		s += " " + strconv.FormatUint(x.Term, 10) + strconv.Quote(x.Data)
	}
	return s
}

// lists are all lists of at most so many of the terms from low to high.
func lists(most int, low, high uint64) [][]uint64 {
	all := [][]uint64{nil}
	for from := 0; from < len(all); from++ {
		if len(all[from]) == most {
			break
		}
		for v := low; v <= high; v++ {
			all = append(all, append(slices.Clone(all[from]), v))
		}
	}
	return all
}

// smallLogs are all logs of a few bases, base terms and entries, right or not.
func smallLogs() []api.Log {
	var all []api.Log
	for base := range uint64(3) {
		for baseTerm := range uint64(3) {
			for _, terms := range lists(3, 1, 3) {
				all = append(all, logOf(base, baseTerm, terms...))
			}
		}
	}
	return all
}

// bases are the edges of what a log's Base may be.
var bases = []uint64{0, 1, 2, api.MaxIndex - 1, api.MaxIndex, api.MaxIndex + 1, api.MaxNum - 1, api.MaxNum}

// indexed are the terms that a log has its indexes with, plainly as the chapter's Words say.
func indexed(l api.Log) map[uint64]uint64 {
	at := map[uint64]uint64{l.Base: l.BaseTerm}
	for k, x := range l.Entries {
		at[l.Base+uint64(k)+1] = x.Term
	}
	return at
}

// P5.1: Right at the edges of bases, lengths and terms.
func TestRight(t *testing.T) {
	for _, x := range []struct {
		name string
		l    api.Log
		want bool
	}{
		{"the empty log", api.Log{}, true},
		{"a term at the base 0", api.Log{BaseTerm: 4, Snap: "s"}, true},
		{"the greatest base", api.Log{Base: api.MaxIndex, BaseTerm: 1}, true},
		{"the greatest base, and entries", logOf(api.MaxIndex, 1, 1, 2), true},
		{"one base more", api.Log{Base: api.MaxIndex + 1, BaseTerm: 1}, false},
		{"one base more, and entries", logOf(api.MaxIndex+1, 1, 1), false},
		{"a base of MaxNum", api.Log{Base: api.MaxNum}, false},
		{"MaxEntries entries", manyIn(0, api.MaxEntries), true},
		{"MaxEntries entries behind a base", manyIn(7, api.MaxEntries), true},
		{"one entry more", manyIn(0, api.MaxEntries+1), false},
		{"twice as many", manyIn(0, 2*api.MaxEntries), false},
		{"equal terms", logOf(3, 2, 2, 2, 2), true},
		{"rising terms", logOf(3, 2, 2, 3, 9), true},
		{"terms that rise by much", logOf(0, 0, 1, math.MaxUint64, math.MaxUint64), true},
		{"a first term below the base's", logOf(3, 2, 1), false},
		{"a first term below the base's, at the base 0", logOf(0, 1, 0, 5), false},
		{"only the last term below the base's", logOf(3, 2, 2, 2, 1), false},
		{"a term that falls in the middle", logOf(0, 0, 1, 3, 2, 4), false},
		{"a term that falls at the end", logOf(0, 0, 1, 3, 3, 2), false},
		{"a term that falls from the greatest", logOf(0, 0, math.MaxUint64, 0), false},
		{"the term 0", logOf(0, 0, 0, 0), true},
		{"a snapshot that is too long", api.Log{Base: 1, Snap: text(api.MaxText + 1)}, true},
		{"data that are too long", api.Log{Entries: []api.Entry{{Term: 1, Data: text(api.MaxText + 1)}}}, true},
	} {
		if rlog.Right(x.l) != x.want {
			t.Errorf("%s: Right = %v", x.name, !x.want)
		}
	}
	for at := range api.MaxEntries {
		l := manyIn(0, api.MaxEntries)
		l.Entries[at].Term = 0
		if rlog.Right(l) {
			t.Errorf("Right of a log whose entry %d falls", at)
		}
	}
}

// P5.1: Last of logs with entries and without, right or not.
func TestLast(t *testing.T) {
	for _, base := range bases {
		for _, x := range []struct {
			terms    []uint64
			behind   uint64
			lastTerm uint64
		}{{nil, 0, 7}, {[]uint64{8}, 1, 8}, {[]uint64{8, 8, 9}, 3, 9}, {[]uint64{9, 3}, 2, 3}, {[]uint64{9, 0}, 2, 0}, {[]uint64{math.MaxUint64}, 1, math.MaxUint64}} {
			if i, term := rlog.Last(logOf(base, 7, x.terms...)); i != base+x.behind || term != x.lastTerm {
				t.Errorf("Last(base %d, terms %v) = %d, %d", base, x.terms, i, term)
			}
		}
	}
	if i, term := rlog.Last(api.Log{}); i != 0 || term != 0 {
		t.Errorf("Last of the empty log: %d, %d", i, term)
	}
	if i, _ := rlog.Last(manyIn(5, 3000)); i != 3005 {
		t.Errorf("Last of 3000 entries: %d", i)
	}
}

// around are indexes below, at and above all that a log with this base and few entries has.
func around(base uint64) []uint64 {
	l := []uint64{0, 1, base / 2, api.MaxIndex, api.MaxNum, api.MaxNum + 1, 1 << 63, math.MaxUint64 - 1, math.MaxUint64}
	for d := range uint64(8) {
		l = append(l, base+d)
		if d < base {
			l = append(l, base-d-1)
		}
	}
	return l
}

// P5.1: TermAt of indexes below, at and above the base and the last index.
func TestTermAt(t *testing.T) {
	for _, base := range bases {
		for _, terms := range lists(4, 0, 2) {
			l := logOf(base, 5, terms...)
			at := indexed(l)
			for _, i := range around(base) {
				want, is := at[i]
				if term, ok := rlog.TermAt(l, i); term != want || ok != is {
					t.Errorf("TermAt(base %d, terms %v, %d) = %d, %v, want %d, %v", base, terms, i, term, ok, want, is)
				}
			}
		}
	}
	l := logOf(10, 2, 3, 4)
	for _, x := range []struct {
		i, term uint64
		ok      bool
	}{{0, 0, false}, {9, 0, false}, {10, 2, true}, {11, 3, true}, {12, 4, true}, {13, 0, false}, {math.MaxUint64, 0, false}} {
		if term, ok := rlog.TermAt(l, x.i); term != x.term || ok != x.ok {
			t.Errorf("TermAt(%s, %d) = %d, %v", told(l), x.i, term, ok)
		}
	}
	if term, ok := rlog.TermAt(api.Log{}, 0); term != 0 || !ok {
		t.Errorf("TermAt of the empty log's 0: %d, %v", term, ok)
	}
}

// P5.1: From of every index and every number of entries.
func TestFrom(t *testing.T) {
	for _, base := range bases {
		for n := range 5 {
			l := logOf(base, 5, []uint64{6, 6, 2, 9}[:n]...)
			for _, i := range around(base) {
				for _, most := range []int{math.MinInt, -1, 0, 1, 2, 3, 4, 5, 1 << 40, math.MaxInt} {
					var want []api.Entry
					for k, x := range l.Entries {
						if i > base && l.Base+uint64(k)+1 >= i && len(want) < most {
							want = append(want, x)
						}
					}
					if got, ok := rlog.From(l, i, most); ok != (i > base) || !slices.Equal(got, want) {
						t.Errorf("From(%s, %d, %d) = %v, %v, want %v", told(l), i, most, got, ok, want)
					}
				}
			}
		}
	}
	l := logOf(10, 2, 3, 4, 4)
	for _, x := range []struct {
		i      uint64
		most   int
		places []int
		ok     bool
	}{{9, 5, nil, false}, {10, 5, nil, false}, {11, 0, nil, true}, {11, -1, nil, true}, {11, 1, []int{0}, true}, {11, 2, []int{0, 1}, true}, {11, 3, []int{0, 1, 2}, true}, {11, 4, []int{0, 1, 2}, true},
		{12, 1, []int{1}, true}, {13, 9, []int{2}, true}, {14, 9, nil, true}, {14, 0, nil, true}, {math.MaxUint64, 9, nil, true}, {math.MaxUint64, 0, nil, true}} {
		var want []api.Entry
		for _, k := range x.places {
			want = append(want, l.Entries[k])
		}
		if got, ok := rlog.From(l, x.i, x.most); ok != x.ok || !slices.Equal(got, want) {
			t.Errorf("From(%s, %d, %d) = %v, %v", told(l), x.i, x.most, got, ok)
		}
	}
}

// P5.1: Newer: by the terms first, then by the indexes, as integers.
func TestNewer(t *testing.T) {
	for _, x := range []struct {
		aTerm, aIndex, bTerm, bIndex uint64
		want                         bool
	}{
		{0, 0, 0, 0, true}, {2, 3, 2, 3, true}, {2, 4, 2, 3, true}, {2, 2, 2, 3, false}, {3, 1, 2, 9, true}, {2, 9, 3, 1, false}, {3, 3, 2, 3, true}, {2, 3, 3, 3, false},
		{math.MaxUint64, 0, 0, math.MaxUint64, true}, {0, math.MaxUint64, math.MaxUint64, 0, false}, {1, math.MaxUint64, 1, 0, true}, {1, 0, 1, math.MaxUint64, false},
		{1 << 63, 0, 1, 0, true}, {1, 0, 1 << 63, 0, false}, {math.MaxUint64, math.MaxUint64, math.MaxUint64, math.MaxUint64, true},
	} {
		if rlog.Newer(x.aTerm, x.aIndex, x.bTerm, x.bIndex) != x.want {
			t.Errorf("Newer(%d, %d, %d, %d) = %v", x.aTerm, x.aIndex, x.bTerm, x.bIndex, !x.want)
		}
	}
}

// P5.2: Add of an entry whose term is not below the last one's.
func TestAdd(t *testing.T) {
	for _, l := range append(smallLogs(), logOf(api.MaxIndex-1, 2), logOf(api.MaxIndex-3, 9, 2, 2), manyIn(3, api.MaxEntries-1)) {
		term := l.BaseTerm
		if n := len(l.Entries); n > 0 {
			term = l.Entries[n-1].Term
		}
		for _, e := range []api.Entry{{Term: term}, {Term: term, Data: "x"}, {Term: term + 1, Data: text(api.MaxText + 1)}, {Term: math.MaxUint64, Data: "\x00"}} {
			want := l
			want.Entries = slices.Concat(l.Entries, []api.Entry{e})
			if got, err := rlog.Add(l, e); !same(got, want) || err != api.OK {
				t.Errorf("Add(%s, %d) = %s, %d", told(l), e.Term, told(got), err)
			}
		}
	}
}

// P5.2: the errors of Add, ErrFull ahead of ErrOrder; the log beside them is empty.
func TestAddErrors(t *testing.T) {
	low := logOf(api.MaxIndex-1, 2)
	for _, x := range []struct {
		name string
		l    api.Log
		term uint64
		want api.Errno
	}{
		{"a term below the last one's", logOf(0, 0, 1, 2), 1, api.ErrOrder},
		{"a term below the last one's, which fell", logOf(0, 0, 9, 2), 1, api.ErrOrder},
		{"a term below the last one's, though not below the base's", logOf(4, 1, 3), 2, api.ErrOrder},
		{"a term below the base's", logOf(4, 2), 1, api.ErrOrder},
		{"a term below the base's, at the base 0", api.Log{BaseTerm: 1}, 0, api.ErrOrder},
		{"a term below the greatest", logOf(0, 0, math.MaxUint64), math.MaxUint64 - 1, api.ErrOrder},
		{"a last index just below MaxIndex, a term too low", low, 1, api.ErrOrder},
		{"MaxEntries entries", manyIn(0, api.MaxEntries), 1, api.ErrFull},
		{"MaxEntries entries, a term too low", manyIn(0, api.MaxEntries), 0, api.ErrFull},
		{"one entry more", manyIn(0, api.MaxEntries+1), 1, api.ErrFull},
		{"one entry less, a term too low", manyIn(0, api.MaxEntries-1), 0, api.ErrOrder},
		{"a base of MaxIndex", logOf(api.MaxIndex, 2), 2, api.ErrFull},
		{"a base of MaxIndex, a term too low", logOf(api.MaxIndex, 2), 1, api.ErrFull},
		{"a last index of MaxIndex", logOf(api.MaxIndex-2, 2, 2, 2), 2, api.ErrFull},
		{"a last index of MaxIndex, a term too low", logOf(api.MaxIndex-2, 2, 2, 2), 1, api.ErrFull},
		{"a last index above MaxIndex", logOf(api.MaxIndex-2, 2, 2, 2, 2), 2, api.ErrFull},
		{"a base above MaxIndex", logOf(api.MaxIndex+1, 2), 2, api.ErrFull},
		{"a base of MaxNum", logOf(api.MaxNum, 2, 2), 2, api.ErrFull},
	} {
		if got, err := rlog.Add(x.l, api.Entry{Term: x.term, Data: "x"}); err != x.want || !same(got, api.Log{}) {
			t.Errorf("%s: Add = %s, %d, want %d", x.name, told(got), err, x.want)
		}
	}
}

// joining is a call of Join, and what it is to answer: the entries; the first one's index; whether.
type joining struct {
	prev, term uint64
	e          []api.Entry
	want       []api.Entry
	first      uint64
	ok         bool
}

// checkJoins holds Join to its answers on one log.
func checkJoins(t *testing.T, l api.Log, all []joining) {
	t.Helper()
	for n, x := range all {
		want := l
		want.Entries = x.want
		if got, first, ok := rlog.Join(l, x.prev, x.term, x.e); !same(got, want) || first != x.first || ok != x.ok {
			t.Errorf("%d: Join(%s, %d, %d, %v) = %s, %d, %v", n, told(l), x.prev, x.term, x.e, told(got), first, ok)
		}
	}
}

// P5.3: Join onto a log whose base is 0.
func TestJoin(t *testing.T) {
	l := logOf(0, 0, 1, 1, 2)
	old := l.Entries
	e := func(terms ...uint64) []api.Entry { return of("e", terms...) }
	with := func(keep int, e []api.Entry) []api.Entry { return slices.Concat(old[:keep], e) }
	checkJoins(t, l, []joining{
		{1, 1, e(1, 3), with(2, e(1, 3)[1:]), 3, true},
		{2, 2, nil, old, 0, false},
		{2, 2, e(3), old, 0, false},
		// prev is there, with its term: nothing, or all of it, is there already.
		{0, 0, nil, old, 0, true}, {1, 1, nil, old, 0, true}, {2, 1, nil, old, 0, true}, {3, 2, nil, old, 0, true},
		{0, 0, e(1), old, 0, true}, {0, 0, e(1, 1), old, 0, true}, {0, 0, e(1, 1, 2), old, 0, true}, {1, 1, e(1, 2), old, 0, true}, {2, 1, e(2), old, 0, true},
		// prev is there with another term, or is not there.
		{0, 1, e(1), old, 0, false}, {1, 0, e(1), old, 0, false}, {1, 2, e(1), old, 0, false}, {3, 1, e(2), old, 0, false}, {3, 3, nil, old, 0, false},
		{4, 2, nil, old, 0, false}, {4, 0, e(3), old, 0, false}, {4, 3, e(3), old, 0, false}, {math.MaxUint64, 2, e(3), old, 0, false}, {math.MaxUint64, 0, nil, old, 0, false}, {math.MaxUint64, math.MaxUint64, nil, old, 0, false},
		// Entries that differ: at the beginning, in the middle, at the end.
		{0, 0, e(5), e(5), 1, true}, {0, 0, e(2, 1, 2), e(2, 1, 2), 1, true}, {0, 0, e(1, 2), with(1, e(1, 2)[1:]), 2, true},
		{0, 0, e(1, 2, 2), with(1, e(1, 2, 2)[1:]), 2, true}, {0, 0, e(1, 1, 3), with(2, e(1, 1, 3)[2:]), 3, true}, {1, 1, e(2), with(1, e(2)), 2, true}, {2, 1, e(3, 4), with(2, e(3, 4)), 3, true},
		{0, 0, e(1, 0, 2, 9), with(1, e(1, 0, 2, 9)[1:]), 2, true},
		// Entries that reach past the end.
		{3, 2, e(2), with(3, e(2)), 4, true}, {3, 2, e(4, 4), with(3, e(4, 4)), 4, true}, {2, 1, e(2, 2), with(3, e(2, 2)[1:]), 4, true}, {0, 0, e(1, 1, 2, 2, 3), with(3, e(1, 1, 2, 2, 3)[3:]), 4, true},
		// Terms that fall, also below term, are joined as they are.
		{3, 2, e(1), with(3, e(1)), 4, true}, {3, 2, e(9, 0), with(3, e(9, 0)), 4, true}, {2, 1, e(0), with(2, e(0)), 3, true},
	})
	checkJoins(t, api.Log{}, []joining{{0, 0, nil, nil, 0, true}, {0, 0, e(1, 2), e(1, 2), 1, true}, {0, 1, e(1), nil, 0, false}, {1, 0, e(1), nil, 0, false}})
}

// P5.3: Join behind a prev that is below Base: as many entries are skipped as are up to there.
func TestJoinBelowBase(t *testing.T) {
	e := func(terms ...uint64) []api.Entry { return of("e", terms...) }
	for _, base := range []uint64{10, api.MaxIndex - 4} {
		l := logOf(base, 3, 3, 4)
		old := l.Entries
		with := func(keep int, e []api.Entry) []api.Entry { return slices.Concat(old[:keep], e) }
		checkJoins(t, l, []joining{
			// Fewer entries than are skipped, and as many: whatever prev's term is.
			{base - 1, 3, nil, old, 0, true}, {base - 1, 9, nil, old, 0, true}, {0, 0, nil, old, 0, true}, {0, 9, e(9, 9), old, 0, true},
			{base - 1, 3, e(3), old, 0, true}, {base - 1, 9, e(9), old, 0, true}, {base - 3, 9, e(9, 9), old, 0, true}, {base - 3, 9, e(9, 9, 9), old, 0, true}, {base - 3, 1, e(1, 0, 7), old, 0, true},
			// More entries.
			{base - 1, 1, e(1, 3), old, 0, true}, {base - 1, 1, e(9, 3, 4), old, 0, true}, {base - 3, 1, e(1, 2, 3, 3, 4), old, 0, true},
			{base - 3, 1, e(1, 2, 3, 3, 4, 4), with(2, e(1, 2, 3, 3, 4, 4)[5:]), base + 3, true}, {base - 3, 1, e(1, 2, 3, 3, 5), with(1, e(1, 2, 3, 3, 5)[4:]), base + 2, true},
			{base - 3, 1, e(1, 2, 3, 4), e(1, 2, 3, 4)[3:], base + 1, true}, {base - 1, 9, e(0, 0), e(0, 0)[1:], base + 1, true},
			// A prev at Base is not below it.
			{base, 3, nil, old, 0, true}, {base, 3, e(3, 4, 4), with(2, e(3, 4, 4)[2:]), base + 3, true}, {base, 3, e(4), e(4), base + 1, true}, {base, 4, e(3), old, 0, false}, {base, 2, nil, old, 0, false},
			{base + 1, 3, e(5), with(1, e(5)), base + 2, true}, {base + 2, 4, e(4), with(2, e(4)), base + 3, true}, {base + 3, 4, nil, old, 0, false},
		})
	}
	// From the very beginning, where all that is up to Base is passed.
	l := logOf(10, 3, 3, 4)
	checkJoins(t, l, []joining{
		{0, 0, e(1, 1, 1, 1, 1, 1, 1, 1, 1, 3), l.Entries, 0, true}, {0, 0, e(1, 1, 1, 1, 1, 1, 1, 1, 1, 3, 3), l.Entries, 0, true},
		{0, 0, e(1, 1, 1, 1, 1, 1, 1, 1, 1, 3, 5), e(1, 1, 1, 1, 1, 1, 1, 1, 1, 3, 5)[10:], 11, true}, {0, 7, e(1, 1, 1, 1, 1, 1, 1, 1, 3), l.Entries, 0, true},
	})
}

// P5.3: Join up to MaxEntries entries, and no further.
func TestJoinEntries(t *testing.T) {
	for _, x := range []struct {
		has, prev, joined int
		term              uint64
		want              int
		first             uint64
		ok                bool
	}{
		{1000, 1000, 24, 1, api.MaxEntries, 1001, true}, {1000, 1000, 25, 1, 1000, 0, false}, {0, 0, api.MaxEntries, 1, api.MaxEntries, 1, true}, {0, 0, api.MaxEntries + 1, 1, 0, 0, false},
		{api.MaxEntries, api.MaxEntries, 0, 1, api.MaxEntries, 0, true}, {api.MaxEntries, api.MaxEntries, 1, 1, api.MaxEntries, 0, false}, {api.MaxEntries, api.MaxEntries - 1, 1, 1, api.MaxEntries, 0, true},
		{api.MaxEntries, api.MaxEntries - 1, 1, 2, api.MaxEntries, api.MaxEntries, true}, {api.MaxEntries, api.MaxEntries - 1, 2, 2, api.MaxEntries, 0, false}, {api.MaxEntries, api.MaxEntries - 1, 2, 1, api.MaxEntries, 0, false},
		{api.MaxEntries, 5, 3, 2, 8, 6, true}, {api.MaxEntries, 0, api.MaxEntries, 1, api.MaxEntries, 0, true}, {api.MaxEntries, 0, api.MaxEntries, 2, api.MaxEntries, 1, true},
		{api.MaxEntries, 0, api.MaxEntries + 1, 1, api.MaxEntries, 0, false}, {api.MaxEntries, 0, api.MaxEntries + 1, 2, api.MaxEntries, 0, false}, {10, 5, api.MaxEntries - 4, 2, 10, 0, false}, {10, 5, api.MaxEntries - 5, 2, api.MaxEntries, 6, true},
		// Logs that have too many already: what Join cuts off may make room.
		{api.MaxEntries + 1, api.MaxEntries + 1, 0, 1, api.MaxEntries + 1, 0, false}, {api.MaxEntries + 1, 3, 4, 1, api.MaxEntries + 1, 0, false}, {api.MaxEntries + 1, 3, 4, 2, 7, 4, true},
		{api.MaxEntries + 1, api.MaxEntries, 1, 2, api.MaxEntries + 1, 0, false}, {api.MaxEntries + 1, api.MaxEntries - 1, 1, 2, api.MaxEntries, api.MaxEntries, true},
	} {
		for _, base := range []uint64{0, 50} {
			l, first := manyIn(base, x.has), x.first
			if first > 0 {
				first += base
			}
			got, at, ok := rlog.Join(l, base+uint64(x.prev), 1, many(x.joined, x.term))
			if len(got.Entries) != x.want || at != first || ok != x.ok || !ok && !same(got, l) {
				t.Errorf("Join of %d behind %d, %d entries: %d entries, %d, %v", x.joined, x.prev, x.has, len(got.Entries), at, ok)
			}
		}
	}
	// Only those that are left count, where some are skipped.
	l := manyIn(50, 4)
	if got, at, ok := rlog.Join(l, 0, 1, many(50+api.MaxEntries, 1)); len(got.Entries) != api.MaxEntries || at != 55 || !ok {
		t.Errorf("Join of MaxEntries behind the base: %d entries, %d, %v", len(got.Entries), at, ok)
	}
	if got, at, ok := rlog.Join(l, 0, 1, many(51+api.MaxEntries, 1)); !same(got, l) || at != 0 || ok {
		t.Errorf("Join of one more behind the base: %d entries, %d, %v", len(got.Entries), at, ok)
	}
}

// P5.3: Join up to the index MaxIndex, and no further.
func TestJoinIndexes(t *testing.T) {
	e := func(terms ...uint64) []api.Entry { return of("e", terms...) }
	l := logOf(api.MaxIndex-3, 2, 2, 2)
	old := l.Entries
	checkJoins(t, l, []joining{
		{api.MaxIndex - 1, 2, e(3), slices.Concat(old, e(3)), api.MaxIndex, true}, {api.MaxIndex - 1, 2, e(3, 3), old, 0, false}, {api.MaxIndex - 2, 2, e(2, 2), slices.Concat(old, e(2, 2)[1:]), api.MaxIndex, true},
		{api.MaxIndex - 2, 2, e(2, 2, 2), old, 0, false}, {api.MaxIndex - 3, 2, e(3, 3, 3), e(3, 3, 3), api.MaxIndex - 2, true}, {api.MaxIndex - 3, 2, e(3, 3, 3, 3), old, 0, false},
		{api.MaxIndex - 4, 2, e(3, 3, 3, 3), e(3, 3, 3, 3)[1:], api.MaxIndex - 2, true}, {api.MaxIndex - 4, 2, e(3, 3, 3, 3, 3), old, 0, false}, {api.MaxIndex, 2, nil, old, 0, false},
	})
	full := logOf(api.MaxIndex-2, 2, 2, 2)
	checkJoins(t, full, []joining{
		{api.MaxIndex, 2, nil, full.Entries, 0, true}, {api.MaxIndex, 2, e(2), full.Entries, 0, false}, {api.MaxIndex - 1, 2, e(2), full.Entries, 0, true}, {api.MaxIndex - 1, 2, e(4), slices.Concat(full.Entries[:1], e(4)), api.MaxIndex, true},
		{0, 0, nil, full.Entries, 0, true},
	})
	checkJoins(t, logOf(api.MaxIndex, 2), []joining{{api.MaxIndex, 2, nil, nil, 0, true}, {api.MaxIndex, 2, e(2), nil, 0, false}, {api.MaxIndex - 1, 2, e(2), nil, 0, true}, {api.MaxIndex - 1, 2, e(2, 2), nil, 0, false}, {3, 2, e(2), nil, 0, true}})
	// Logs with indexes above it: what Join answers would have one too, but where it cuts that off.
	over := logOf(api.MaxIndex-1, 2, 2, 2)
	checkJoins(t, over, []joining{{api.MaxIndex + 1, 2, nil, over.Entries, 0, false}, {api.MaxIndex, 2, e(2), over.Entries, 0, false}, {api.MaxIndex, 2, e(3), over.Entries, 0, false}, {api.MaxIndex - 1, 2, e(3), e(3), api.MaxIndex, true}, {api.MaxIndex - 1, 2, e(3, 3), over.Entries, 0, false}})
	for _, base := range []uint64{api.MaxIndex + 1, api.MaxNum} {
		checkJoins(t, logOf(base, 2), []joining{{base, 2, nil, nil, 0, false}, {base, 2, e(2), nil, 0, false}, {0, 0, nil, nil, 0, false}, {base + 1, 2, nil, nil, 0, false}})
	}
}

// plainJoin is Join as the chapter says it, with the entries kept by their indexes.
func plainJoin(l api.Log, prev, term uint64, e []api.Entry) (api.Log, uint64, bool) {
	if prev < l.Base {
		for ; prev < l.Base && len(e) > 0; prev++ {
			e = e[1:]
		}
		prev, term = l.Base, l.BaseTerm
	}
	terms := indexed(l)
	if v, there := terms[prev]; !there || v != term {
		return l, 0, false
	}
	at := map[uint64]api.Entry{}
	for k, x := range l.Entries {
		at[l.Base+uint64(k)+1] = x
	}
	first := uint64(0)
	for k, x := range e {
		i := prev + uint64(k) + 1
		if old, there := at[i]; first == 0 && (!there || old.Term != x.Term) {
			first = i
			for gone := i; at[gone] != (api.Entry{}); gone++ {
				delete(at, gone)
			}
		}
		if first > 0 {
			at[i] = x
		}
	}
	l.Entries = nil
	for i := l.Base + 1; at[i] != (api.Entry{}); i++ {
		l.Entries = append(l.Entries, at[i])
	}
	return l, first, true
}

// P5.3, P5.6: Join of all small logs and lists, held against a plain model, and what follows of it.
func TestJoinIsPlain(t *testing.T) {
	var joined [][]api.Entry
	for _, terms := range lists(3, 1, 3) {
		joined = append(joined, of("e", terms...))
	}
	for _, l := range smallLogs() {
		for prev := range uint64(7) {
			for term := range uint64(4) {
				for _, e := range joined {
					want, at, is := plainJoin(l, prev, term, e)
					got, first, ok := rlog.Join(l, prev, term, e)
					if !same(got, want) || first != at || ok != is {
						t.Fatalf("Join(%s, %d, %d, %v) = %s, %d, %v, want %s, %d, %v", told(l), prev, term, e, told(got), first, ok, told(want), at, is)
					}
					follows(t, l, prev, term, e, got, ok)
				}
			}
		}
	}
}

// follows holds a Join's answer to P5.6.
func follows(t *testing.T, l api.Log, prev, term uint64, e []api.Entry, got api.Log, ok bool) {
	t.Helper()
	if !ok {
		if !same(got, l) {
			t.Fatalf("Join(%s, %d, %d, %v) changed the log to %s", told(l), prev, term, e, told(got))
		}
		return
	}
	again, first, ok := rlog.Join(got, prev, term, e)
	if !same(again, got) || first != 0 || !ok {
		t.Fatalf("Join(%s, %d, %d, %v) again: %s, %d, %v", told(got), prev, term, e, told(again), first, ok)
	}
	for i := uint64(0); i <= prev; i++ {
		a, hadA := rlog.TermAt(l, i)
		b, hasB := rlog.TermAt(got, i)
		x, _ := rlog.From(l, i, 1)
		y, _ := rlog.From(got, i, 1)
		if a != b || hadA != hasB || !slices.Equal(x, y) {
			t.Fatalf("Join(%s, %d, %d, %v) = %s: another entry %d", told(l), prev, term, e, told(got), i)
		}
	}
	lowest := term
	for k, x := range e {
		i := prev + uint64(k) + 1
		if i <= l.Base {
			// These are skipped, and BaseTerm takes term's place.
			lowest = l.BaseTerm
			continue
		}
		if v, there := rlog.TermAt(got, i); !there || v != x.Term {
			t.Fatalf("Join(%s, %d, %d, %v) = %s: without the entry %d", told(l), prev, term, e, told(got), i)
		}
		if x.Term < lowest {
			return
		}
		lowest = x.Term
	}
	if rlog.Right(l) && !rlog.Right(got) {
		t.Fatalf("Join(%s, %d, %d, %v) = %s: not right", told(l), prev, term, e, told(got))
	}
}

// P5.6: a right log stays right behind every script of Adds, Compacts and Joins.
func TestStaysRight(t *testing.T) {
	var walk func(l api.Log, left int)
	walk = func(l api.Log, left int) {
		if !rlog.Right(l) {
			t.Fatalf("not right: %s", told(l))
		}
		if left == 0 {
			return
		}
		last, _ := rlog.Last(l)
		for term := range uint64(4) {
			if next, e := rlog.Add(l, api.Entry{Term: term, Data: "a"}); e == api.OK {
				walk(next, left-1)
			}
			for prev := l.Base; prev <= last; prev++ {
				if next, _, ok := rlog.Join(l, prev, term, of("e", term, term+1)); ok {
					walk(next, left-1)
				}
			}
		}
		for i := range last + 2 {
			if next, e := rlog.Compact(l, i, "c"); e == api.OK {
				walk(next, left-1)
			}
		}
	}
	walk(api.Log{}, 4)
	l := manyIn(0, api.MaxEntries-1)
	l, e := rlog.Add(l, api.Entry{Term: 2})
	if e != api.OK || !rlog.Right(l) {
		t.Errorf("Add of the entry MaxEntries: %d, right %v", e, rlog.Right(l))
	}
	l, first, ok := rlog.Join(l, 0, 1, many(api.MaxEntries, 3))
	if first != 1 || !ok || !rlog.Right(l) || len(l.Entries) != api.MaxEntries {
		t.Errorf("Join of MaxEntries: %d, %v, right %v", first, ok, rlog.Right(l))
	}
}

// P5.4: Install below, at and above what the log has, with its term and with another one.
func TestInstall(t *testing.T) {
	l := logOf(10, 2, 3, 3, 4)
	old := l.Entries
	for _, x := range []struct {
		i, term uint64
		snap    string
		want    api.Log
	}{
		{0, 0, "new", l}, {9, 2, "new", l}, {10, 2, "new", l}, {10, 3, "new", l},
		{11, 3, "new", api.Log{Base: 11, BaseTerm: 3, Snap: "new", Entries: old[1:]}}, {12, 3, "new", api.Log{Base: 12, BaseTerm: 3, Snap: "new", Entries: old[2:]}}, {13, 4, "new", api.Log{Base: 13, BaseTerm: 4, Snap: "new"}},
		{11, 2, "new", api.Log{Base: 11, BaseTerm: 2, Snap: "new"}}, {11, 4, "new", api.Log{Base: 11, BaseTerm: 4, Snap: "new"}}, {12, 0, "", api.Log{Base: 12}}, {13, 3, "new", api.Log{Base: 13, BaseTerm: 3, Snap: "new"}},
		{14, 4, "new", api.Log{Base: 14, BaseTerm: 4, Snap: "new"}}, {14, 0, "new", api.Log{Base: 14, Snap: "new"}}, {api.MaxIndex, 4, "new", api.Log{Base: api.MaxIndex, BaseTerm: 4, Snap: "new"}},
		{api.MaxIndex + 1, 9, "new", api.Log{Base: api.MaxIndex + 1, BaseTerm: 9, Snap: "new"}}, {api.MaxNum, 9, "", api.Log{Base: api.MaxNum, BaseTerm: 9}}, {math.MaxUint64, math.MaxUint64, "new", api.Log{Base: math.MaxUint64, BaseTerm: math.MaxUint64, Snap: "new"}},
		{12, 3, text(api.MaxText + 1), api.Log{Base: 12, BaseTerm: 3, Snap: text(api.MaxText + 1), Entries: old[2:]}},
	} {
		if got := rlog.Install(l, x.i, x.term, x.snap); !same(got, x.want) {
			t.Errorf("Install(%s, %d, %d) = %s, want %s", told(l), x.i, x.term, told(got), told(x.want))
		}
	}
	for _, l := range smallLogs() {
		for i := range uint64(7) {
			for term := range uint64(4) {
				want := api.Log{Base: i, BaseTerm: term, Snap: "new"}
				if v, there := indexed(l)[i]; there && v == term {
					want.Entries = l.Entries[i-l.Base:]
				}
				if i <= l.Base {
					want = l
				}
				if got := rlog.Install(l, i, term, "new"); !same(got, want) {
					t.Errorf("Install(%s, %d, %d) = %s, want %s", told(l), i, term, told(got), told(want))
				}
			}
		}
	}
}

// P5.4: Compact of what the log has, with the term that it has there; ErrArg otherwise, and an empty log.
func TestCompact(t *testing.T) {
	logs := append(smallLogs(), logOf(api.MaxIndex-2, 5, 5, 6), logOf(api.MaxIndex, 5, 5, 6), logOf(api.MaxNum, 5, 6, 5), manyIn(4, api.MaxEntries+1))
	for _, l := range logs {
		last := l.Base + uint64(len(l.Entries))
		at := indexed(l)
		for _, i := range append(around(l.Base), last-1, last, last+1) {
			for _, n := range []int{0, 1, api.MaxText - 1, api.MaxText, api.MaxText + 1, 1 << 17} {
				want, err := api.Log{}, api.ErrArg
				if i > l.Base && i <= last && n <= api.MaxText {
					want, err = api.Log{Base: i, BaseTerm: at[i], Snap: text(n), Entries: l.Entries[i-l.Base:]}, api.OK
				}
				if got, e := rlog.Compact(l, i, text(n)); e != err || !same(got, want) {
					t.Fatalf("Compact(%s, %d, %d bytes) = %s, %d, want %s, %d", told(l), i, n, told(got), e, told(want), err)
				}
			}
		}
	}
}

// plainShared is Shared as the chapter says it: of every index that both have with one term, the greatest up to which all are equal.
func plainShared(a, b api.Log) uint64 {
	x, y := indexed(a), indexed(b)
	base, greatest := max(a.Base, b.Base), uint64(0)
	for i, term := range x {
		v, there := y[i]
		equal := there && v == term
		for j := base + 1; j <= i && equal; j++ {
			e, _ := rlog.From(a, j, 1)
			f, _ := rlog.From(b, j, 1)
			equal = len(e) == 1 && len(f) == 1 && e[0] == f[0]
		}
		if equal {
			greatest = max(greatest, i)
		}
	}
	return greatest
}

// P5.5: Shared of logs that share nothing, a part, or all.
func TestShared(t *testing.T) {
	part := func(base, baseTerm uint64, from []api.Entry, n int) api.Log {
		return api.Log{Base: base, BaseTerm: baseTerm, Entries: from[n:]}
	}
	a := logOf(0, 0, 1, 1, 2, 2)
	other := logOf(0, 0, 1, 1, 2, 2)
	other.Entries[2].Data = "other"
	for _, x := range []struct {
		name string
		a, b api.Log
		want uint64
	}{
		{"two empty logs", api.Log{}, api.Log{}, 0},
		{"all", a, a, 4},
		{"all, with another snapshot", a, api.Log{Snap: "other", Entries: a.Entries}, 4},
		{"nothing: the first terms differ", a, logOf(0, 0, 2, 2), 0},
		{"nothing: there are no entries", a, api.Log{}, 0},
		{"an end that is shorter", a, logOf(0, 0, 1, 1), 2},
		{"an end of another term", a, logOf(0, 0, 1, 1, 3), 2},
		{"a term that differs, with the same term behind", a, logOf(0, 0, 1, 2, 2, 2), 1},
		{"data that differ, with the same entry behind", a, other, 2},
		{"bases that differ", a, part(2, 1, a.Entries, 2), 4},
		{"bases that differ, and the ends", a, part(2, 1, a.Entries[:3], 2), 3},
		{"a base at the other one's end", a, part(4, 2, a.Entries, 4), 4},
		{"a base at the other one's end, of another term", a, part(4, 3, a.Entries, 4), 0},
		{"a base behind the other one's end", a, logOf(5, 2), 0},
		{"a base behind the other one's end, with entries", a, logOf(5, 2, 2, 2), 0},
		{"a base, and then other entries", a, logOf(2, 1, 3, 3), 2},
		{"a base of another term, and then other entries", a, logOf(2, 2, 3, 3), 0},
		{"a base of another term, and then the same entries", a, part(2, 9, a.Entries, 2), 4},
		{"one base", logOf(7, 2), logOf(7, 2), 7},
		{"one base of two terms", logOf(7, 2), logOf(7, 3), 0},
		{"one base of two terms, and then the same entries", logOf(7, 2, 3, 3), logOf(7, 3, 3, 3), 9},
		{"the base 0 of two terms", api.Log{BaseTerm: 1}, api.Log{}, 0},
		{"the greatest base", logOf(api.MaxNum, 2, 3), logOf(api.MaxNum-1, 2, 2), api.MaxNum},
		{"the greatest base, and an entry", logOf(api.MaxNum, 2, 3), logOf(api.MaxNum, 2, 3, 3), api.MaxNum + 1},
	} {
		if n := rlog.Shared(x.a, x.b); n != x.want {
			t.Errorf("%s: Shared = %d, want %d", x.name, n, x.want)
		}
		if n := rlog.Shared(x.b, x.a); n != x.want {
			t.Errorf("%s: Shared the other way round = %d, want %d", x.name, n, x.want)
		}
	}
}

// P5.5: Shared of every two small logs, held against a plain model.
func TestSharedIsPlain(t *testing.T) {
	logs := smallLogs()
	for i, l := range logs {
		// Two entries of one term are equal only if their data are.
		for k := range l.Entries {
			l.Entries[k].Data = []string{"x", "x", "y"}[(i/5+k+int(l.Base))%3]
		}
	}
	for _, a := range logs {
		for _, b := range logs {
			if n, want := rlog.Shared(a, b), plainShared(a, b); n != want {
				t.Fatalf("Shared(%s; %s) = %d, want %d", told(a), told(b), n, want)
			}
		}
	}
}

// roomy is a log whose entries have room behind them, and what stands in that room.
func roomy(l api.Log) (api.Log, []api.Entry) {
	n := len(l.Entries)
	all := slices.Concat(l.Entries, slices.Repeat([]api.Entry{{Term: 77, Data: "room"}}, 5))
	l.Entries = all[:n]
	return l, all
}

// R3: no call writes into what it was passed, nor into the room behind that, nor into a log that it answered earlier.
func TestNothingIsWritten(t *testing.T) {
	list := slices.Concat(of("e", 3, 3, 4), slices.Repeat([]api.Entry{{Term: 77, Data: "room"}}, 5))
	e, listBefore := list[:3], slices.Clone(list)
	base, all := roomy(logOf(2, 1, 1, 2, 3))
	allBefore := slices.Clone(all)
	made := []api.Log{base}
	for range 2 {
		for _, l := range slices.Clone(made) {
			made = append(made, step(l, e)...)
		}
		var before []api.Log
		for _, l := range made {
			l.Entries = slices.Clone(l.Entries)
			before = append(before, l)
		}
		for _, l := range made {
			step(l, e)
			rlog.Shared(l, base)
			rlog.Right(l)
			for i := range uint64(9) {
				// Whoever appends to a list of From's writes nowhere else.
				some, _ := rlog.From(l, i, 1)
				_ = append(some, api.Entry{Term: 99, Data: "written"})
			}
		}
		for i, l := range made {
			if !same(l, before[i]) {
				t.Fatalf("%s became %s", told(before[i]), told(l))
			}
		}
	}
	if !slices.Equal(all, allBefore) {
		t.Errorf("a log's entries became %v", all)
	}
	if !slices.Equal(list, listBefore) {
		t.Errorf("a list became %v", list)
	}
}

// R3: whoever appends to a log's entries that Install or Compact left writes into no other log.
func TestNoRoomIsLeft(t *testing.T) {
	l, all := roomy(logOf(2, 1, 1, 2, 3))
	before := slices.Clone(all)
	for i := uint64(3); i <= 5; i++ {
		term, _ := rlog.TermAt(l, i)
		installed := rlog.Install(l, i, term, "i")
		compacted, _ := rlog.Compact(l, i, "c")
		_ = append(installed.Entries, api.Entry{Term: 99})
		_ = append(compacted.Entries, api.Entry{Term: 99})
	}
	if !slices.Equal(all, before) {
		t.Errorf("a log's entries became %v", all)
	}
}

// step is what every call makes of a log.
func step(l api.Log, e []api.Entry) []api.Log {
	var made []api.Log
	for _, term := range []uint64{3, 8} {
		next, _ := rlog.Add(l, api.Entry{Term: term, Data: "added"})
		made = append(made, next)
	}
	for prev := range uint64(7) {
		for term := uint64(1); term < 4; term++ {
			a, _, _ := rlog.Join(l, prev, term, e)
			b, _, _ := rlog.Join(l, prev, term, e[1:2])
			made = append(made, a, b)
		}
		c, _ := rlog.Compact(l, prev, "c")
		made = append(made, c, rlog.Install(l, prev, 2, "i"))
	}
	return made
}

// R3: the log that Join answers stays as it is when the list that was joined is written to.
func TestJoinedListIsNotKept(t *testing.T) {
	e := of("e", 1, 2)
	got, _, _ := rlog.Join(api.Log{}, 0, 0, e)
	clear(e)
	if !slices.Equal(got.Entries, of("e", 1, 2)) {
		t.Errorf("the log became %s", told(got))
	}
}

// R1: no call panics, nor goes on for ever, whatever the numbers are.
func TestAnyNumbers(t *testing.T) {
	edges := []uint64{0, 1, 2, api.MaxIndex, api.MaxNum, api.MaxNum + 1, 1 << 63, math.MaxUint64 - 2, math.MaxUint64 - 1, math.MaxUint64}
	for _, base := range edges {
		for n := range 4 {
			l := logOf(base, 1, []uint64{1, math.MaxUint64, 0}[:n]...)
			rlog.Last(l)
			rlog.Right(l)
			rlog.Add(l, api.Entry{Term: 1})
			for _, i := range edges {
				rlog.TermAt(l, i)
				for _, most := range []int{math.MinInt, -1, 0, 1, math.MaxInt} {
					rlog.From(l, i, most)
				}
				rlog.Install(l, i, 1, "s")
				rlog.Compact(l, i, "s")
				rlog.Shared(l, logOf(i, 1, 1, 1))
				for term := range uint64(2) {
					rlog.Join(l, i, term, nil)
					rlog.Join(l, i, term, of("e", 1, math.MaxUint64, 1, 0))
				}
			}
		}
	}
}
