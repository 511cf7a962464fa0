package note_test

import (
	"math"
	"slices"
	"strings"
	"testing"

	"ferrule/api"
	"ferrule/note"
	"ferrule/pack"
	"ferrule/seal"
	"ferrule/tape"
)

// hard, entry, cut and snap are notes of the four kinds.
func hard(term, vote uint64) api.Note { return api.Note{Kind: api.NoteHard, Term: term, Vote: vote} }
func entry(i, term uint64, data string) api.Note {
	return api.Note{Kind: api.NoteEntry, Index: i, Term: term, Data: data}
}
func cut(i uint64) api.Note { return api.Note{Kind: api.NoteCut, Index: i} }
func snap(i, term uint64, data string) api.Note {
	return api.Note{Kind: api.NoteSnap, Index: i, Term: term, Data: data}
}

// text is a text of so many bytes.
func text(n int) string { return strings.Repeat("t", n) }

// written are the bytes of notes that may be, one behind another.
func written(t *testing.T, l []api.Note) string {
	t.Helper()
	var all strings.Builder
	for _, n := range l {
		b, e := note.Bytes(n)
		if e != api.OK {
			t.Fatalf("Bytes(%.200v): error %d", n, e)
		}
		all.WriteString(b)
	}
	return all.String()
}

// sealed is a sealed text of a kind's byte, numbers and data, whether it is a note's or not.
func sealed(t *testing.T, kind byte, nums []uint64, data string) string {
	t.Helper()
	s, e := pack.Nums(nums)
	if e != api.OK {
		t.Fatalf("Nums: error %d", e)
	}
	return put(t, string([]byte{kind})+s+data)
}

// put is any sealed text.
func put(t *testing.T, s string) string {
	t.Helper()
	b, e := seal.Put(s)
	if e != api.OK {
		t.Fatalf("Put of %d bytes: error %d", len(s), e)
	}
	return b
}

// same: are two states equal? Lists are if their elements are.
func same(a, b api.Stable) bool {
	return a.Term == b.Term && a.Vote == b.Vote && a.Log.Base == b.Log.Base && a.Log.BaseTerm == b.Log.BaseTerm &&
		a.Log.Snap == b.Log.Snap && slices.Equal(a.Log.Entries, b.Log.Entries)
}

// state is a state in one line.
func state(term, vote, base, baseTerm uint64, snap string, entries ...api.Entry) api.Stable {
	return api.Stable{Term: term, Vote: vote, Log: api.Log{Base: base, BaseTerm: baseTerm, Snap: snap, Entries: entries}}
}

// entries are so many, all of one term, with a text each.
func entries(n int, term uint64, data string) []api.Entry {
	return slices.Repeat([]api.Entry{{Term: term, Data: data}}, n)
}

// someNotes are notes that may be, each number at its greatest value among them.
func someNotes() []api.Note {
	var l []api.Note
	for _, v := range []uint64{0, 1, 63, 64, 1<<14 - 1, 1 << 14, 1 << 30, api.MaxIndex, api.MaxIndex + 1, api.MaxNum - 1, api.MaxNum} {
		l = append(l, hard(v, 0), hard(0, v), hard(v, v), cut(v), entry(v, 0, ""), entry(0, v, "x"), entry(v, v, "ab"),
			snap(v, 0, ""), snap(0, v, "x"), snap(v, v, "ab"))
	}
	for _, s := range []string{"\x00", "\x01\x03\x00\x00\x00", "\xff\x80", text(api.MaxText - 1), text(api.MaxText)} {
		l = append(l, entry(1, 2, s), snap(1, 2, s), entry(api.MaxNum, api.MaxNum, s))
	}
	return l
}

// badNotes are notes that may not be.
func badNotes() []api.Note {
	var l []api.Note
	for _, v := range []uint64{api.MaxNum + 1, 1 << 63, math.MaxUint64} {
		l = append(l, hard(v, 0), hard(0, v), cut(v), entry(v, 0, ""), entry(0, v, ""), snap(v, 0, ""), snap(0, v, ""))
	}
	long := text(api.MaxText + 1)
	l = append(l, entry(1, 1, long), snap(1, 1, long), entry(1, 1, text(1<<17)))
	for _, v := range []uint64{1, api.MaxNum, math.MaxUint64} {
		l = append(l, api.Note{Kind: api.NoteHard, Term: 1, Index: v}, api.Note{Kind: api.NoteEntry, Index: 1, Vote: v},
			api.Note{Kind: api.NoteSnap, Index: 1, Vote: v}, api.Note{Kind: api.NoteCut, Index: 1, Term: v}, api.Note{Kind: api.NoteCut, Index: 1, Vote: v})
	}
	l = append(l, api.Note{Kind: api.NoteHard, Term: 1, Data: "x"}, api.Note{Kind: api.NoteCut, Index: 1, Data: "x"})
	for _, kind := range []int{0, api.NoteSnap + 1, -1, 256, 256 + api.NoteHard, 1<<32 + api.NoteHard, -256 + api.NoteSnap, math.MaxInt, math.MinInt} {
		l = append(l, api.Note{Kind: kind}, api.Note{Kind: kind, Index: 1, Term: 2, Vote: 3, Data: "x"})
	}
	return l
}

// P4.1: the bytes of notes, written out.
func TestBytesWrittenOut(t *testing.T) {
	for _, x := range []struct {
		n api.Note
		b string
	}{
		{hard(0, 0), "\x05\x01\x03\x00\x00\x00\x00\x35\x00\x0a"},
		{hard(3, 2), "\x05\x01\x03\x00\x03\x02\x00\x3d\x00\x0f"},
		{entry(1, 3, "a"), "\x06\x02\x03\x01\x03\x00\x61\x00\xba\x00\x71"},
		{cut(2), "\x05\x03\x03\x02\x00\x00\x00\x45\x00\x0e"},
		{snap(64, 3, "snap"), "\x0a\x04\x03\x40\x40\x03\x00\x73\x6e\x61\x70\x08\xd6\x02\x47"},
	} {
		if b, e := note.Bytes(x.n); b != x.b || e != api.OK {
			t.Errorf("Bytes(%v) = %x, %d, want %x", x.n, b, e, x.b)
		}
		if l, size := note.Read(x.b); size != len(x.b) || !slices.Equal(l, []api.Note{x.n}) {
			t.Errorf("Read(%x) = %v, %d", x.b, l, size)
		}
	}
}

// P4.1: Bytes of every note that may be: Put of the kind, the three numbers and the data.
func TestBytes(t *testing.T) {
	for _, n := range someNotes() {
		want := sealed(t, byte(n.Kind), []uint64{n.Index, n.Term, n.Vote}, n.Data)
		if b, e := note.Bytes(n); b != want || e != api.OK {
			t.Errorf("Bytes(%.60v) = %.60x, %d, want %.60x", n, b, e, want)
		}
	}
}

// P4.1: Bytes of a note that may not be is ErrArg, and nothing else.
func TestBytesOfBadNotes(t *testing.T) {
	for _, n := range badNotes() {
		if b, e := note.Bytes(n); b != "" || e != api.ErrArg {
			t.Errorf("Bytes(%.60v) = %.60x, %d, want error %d", n, b, e, api.ErrArg)
		}
	}
}

// noNotes are bytes at whose beginning there is no note.
func noNotes(t *testing.T) []string {
	two, four := []uint64{1, 2}, []uint64{1, 2, 0, 0}
	l := []string{
		"", "\x00", "\x05", "torn", "\xff\xff", text(100), "\x00\x00\x01\x00\x02",
		put(t, ""), put(t, "\x01"), put(t, "\x02"), put(t, "\x01\x03"), put(t, "\x01\x03\x00\x00"), put(t, "\x02\x03\x01\x01"),
		put(t, "\x01\x40\x03\x00\x00\x00"), put(t, "\x01\x03\x00\x40\x00\x00"), put(t, "\x02\x03\x40\x01\x00\x00a"), put(t, "\x02\x03\x01\x01\x40"),
		put(t, "\x01\xff\xff\xff\xff\xff\xff\xff\xff\x00\x00\x00"), put(t, "\x03\x00\x00\x00"), put(t, "\x01hello"),
		sealed(t, api.NoteHard, two, ""), sealed(t, api.NoteHard, four, ""), sealed(t, api.NoteEntry, two, "a"), sealed(t, api.NoteEntry, two, ""),
		sealed(t, api.NoteEntry, four, "a"), sealed(t, api.NoteCut, []uint64{1}, ""), sealed(t, api.NoteCut, nil, ""), sealed(t, api.NoteSnap, four, ""),
		sealed(t, api.NoteEntry, []uint64{1, 1, 0}, text(api.MaxText+1)), sealed(t, api.NoteSnap, []uint64{1, 1, 0}, text(api.MaxText+1)),
		sealed(t, api.NoteEntry, []uint64{1, 1, 0}, text(api.MaxSeal-5)),
		// Bytes more behind those of a note that has no data:
		sealed(t, api.NoteHard, []uint64{0, 3, 2}, "x"), sealed(t, api.NoteHard, []uint64{0, 3, 2}, "\x00"), sealed(t, api.NoteCut, []uint64{2, 0, 0}, "\x00"),
		// A field that the kind does not use:
		sealed(t, api.NoteHard, []uint64{1, 3, 2}, ""), sealed(t, api.NoteEntry, []uint64{1, 3, 2}, "a"), sealed(t, api.NoteSnap, []uint64{1, 3, 2}, "a"),
		sealed(t, api.NoteCut, []uint64{1, 1, 0}, ""), sealed(t, api.NoteCut, []uint64{1, 0, 1}, ""),
	}
	for _, kind := range []byte{0, api.NoteSnap + 1, 0x41, 0x81, 0xff} {
		l = append(l, sealed(t, kind, []uint64{0, 0, 0}, ""), sealed(t, kind, []uint64{1, 1, 0}, ""), sealed(t, kind, []uint64{0, 3, 2}, "a"))
	}
	return l
}

// P4.1: Read of so many notes, ending at whatever is no note, also if notes stand behind that.
func TestRead(t *testing.T) {
	behind := written(t, []api.Note{hard(9, 9), entry(1, 9, "behind")})
	all := append([]api.Note{hard(3, 2), entry(1, 3, "a"), cut(1), snap(7, 3, "snap"), hard(3, 2)}, someNotes()...)
	for _, end := range noNotes(t) {
		for n := range 7 {
			b := written(t, all[:n])
			for _, more := range []string{"", behind} {
				if end == "" && more != "" {
					continue
				}
				if l, size := note.Read(b + end + more); size != len(b) || !slices.Equal(l, all[:n]) {
					t.Errorf("Read of %d notes, then %.40x: %d notes, %d bytes, want %d", n, end, len(l), size, len(b))
				}
			}
		}
	}
	b := written(t, all)
	for _, end := range []string{"", "\x05", "\x00\x00\x01\x00\x01"} {
		if l, size := note.Read(b + end); size != len(b) || !slices.Equal(l, all) {
			t.Errorf("Read of all notes: %d of %d, %d bytes of %d", len(l), len(all), size, len(b))
		}
	}
}

// P4.1: Read of bytes that are cut anywhere, or of which one is changed: the whole notes ahead of there.
func TestReadCutOrChanged(t *testing.T) {
	all := []api.Note{hard(3, 2), entry(1, 3, "a"), entry(2, 64, ""), cut(1<<14 + 1), snap(1<<30, 3, text(70)), hard(0, 0), snap(1, 1, "")}
	b := written(t, all)
	ends := []int{0}
	for i := range all {
		ends = append(ends, len(written(t, all[:i+1])))
	}
	for at := range len(b) + 1 {
		whole, found := slices.BinarySearch(ends, at)
		if !found {
			whole--
		}
		if l, size := note.Read(b[:at]); size != ends[whole] || !slices.Equal(l, all[:whole]) {
			t.Errorf("Read of the first %d bytes: %d notes, %d bytes, want %d and %d", at, len(l), size, whole, ends[whole])
		}
		if at == len(b) || slices.Contains(ends, at) || at == ends[4]+1 {
			// A changed length is another matter: what follows may happen to be sealed.
			continue
		}
		for _, by := range []byte{1, 0x80, 0xff} {
			changed := b[:at] + string([]byte{b[at] ^ by}) + b[at+1:]
			if l, size := note.Read(changed); size != ends[whole] || !slices.Equal(l, all[:whole]) {
				t.Errorf("Read with byte %d changed: %d notes, %d bytes, want %d and %d", at, len(l), size, whole, ends[whole])
			}
		}
	}
}

// P4.2: Fold of a few notes each: the edges of every kind.
func TestFold(t *testing.T) {
	a, b, c, d := api.Entry{Term: 3, Data: "a"}, api.Entry{Term: 3, Data: "b"}, api.Entry{Term: 4, Data: "c"}, api.Entry{Term: 1, Data: "d"}
	three := []api.Note{entry(1, 3, "a"), entry(2, 3, "b"), entry(3, 4, "c")}
	based := []api.Note{snap(10, 2, "s"), entry(11, 3, "a"), entry(12, 3, "b"), entry(13, 4, "c")}
	then := func(l []api.Note, more ...api.Note) []api.Note { return slices.Concat(l, more) }
	for i, x := range []struct {
		l    []api.Note
		want api.Stable
	}{
		{nil, api.Stable{}},
		{[]api.Note{hard(3, 2)}, state(3, 2, 0, 0, "")},
		{[]api.Note{hard(3, 2), hard(2, 0)}, state(2, 0, 0, 0, "")},
		{[]api.Note{hard(math.MaxUint64, math.MaxUint64)}, state(math.MaxUint64, math.MaxUint64, 0, 0, "")},
		{[]api.Note{hard(3, 2), entry(1, 3, "a"), entry(2, 3, "b"), cut(2)}, state(3, 2, 0, 0, "", a)},
		{[]api.Note{entry(1, 3, "a"), hard(5, 1)}, state(5, 1, 0, 0, "", a)},
		// Entries: behind the last one only, whatever their terms.
		{three, state(0, 0, 0, 0, "", a, b, c)},
		{then(three, entry(4, 1, "d")), state(0, 0, 0, 0, "", a, b, c, d)},
		{then(three, entry(3, 1, "d")), state(0, 0, 0, 0, "", a, b, c)},
		{then(three, entry(5, 1, "d")), state(0, 0, 0, 0, "", a, b, c)},
		{then(three, entry(0, 1, "d")), state(0, 0, 0, 0, "", a, b, c)},
		{then(three, entry(math.MaxUint64, 1, "d")), state(0, 0, 0, 0, "", a, b, c)},
		{[]api.Note{entry(0, 1, "d")}, api.Stable{}},
		{[]api.Note{entry(2, 1, "d")}, api.Stable{}},
		{then(based, entry(14, 1, "d")), state(0, 0, 10, 2, "s", a, b, c, d)},
		{then(based, entry(13, 1, "d")), state(0, 0, 10, 2, "s", a, b, c)},
		{then(based, entry(10, 1, "d")), state(0, 0, 10, 2, "s", a, b, c)},
		{then(based, entry(4, 1, "d")), state(0, 0, 10, 2, "s", a, b, c)},
		{[]api.Note{entry(1, math.MaxUint64, text(api.MaxText+1))}, state(0, 0, 0, 0, "", api.Entry{Term: math.MaxUint64, Data: text(api.MaxText + 1)})},
		// Cuts: below, at and above what is there.
		{then(three, cut(4)), state(0, 0, 0, 0, "", a, b, c)},
		{then(three, cut(math.MaxUint64)), state(0, 0, 0, 0, "", a, b, c)},
		{then(three, cut(3)), state(0, 0, 0, 0, "", a, b)},
		{then(three, cut(2)), state(0, 0, 0, 0, "", a)},
		{then(three, cut(1)), api.Stable{}},
		{then(three, cut(0)), api.Stable{}},
		{[]api.Note{cut(0), cut(1), cut(2)}, api.Stable{}},
		{then(based, cut(14)), state(0, 0, 10, 2, "s", a, b, c)},
		{then(based, cut(13)), state(0, 0, 10, 2, "s", a, b)},
		{then(based, cut(12)), state(0, 0, 10, 2, "s", a)},
		{then(based, cut(11)), state(0, 0, 10, 2, "s")},
		{then(based, cut(10)), state(0, 0, 10, 2, "s")},
		{then(based, cut(9)), state(0, 0, 10, 2, "s")},
		{then(based, cut(0)), state(0, 0, 10, 2, "s")},
		{then(three, cut(2), entry(3, 1, "d")), state(0, 0, 0, 0, "", a)},
		{then(three, cut(2), entry(2, 1, "d")), state(0, 0, 0, 0, "", a, d)},
		{then(based, cut(12), entry(12, 1, "d"), entry(13, 4, "c")), state(0, 0, 10, 2, "s", a, d, c)},
		// Kinds that there are not.
		{then(three, api.Note{}, api.Note{Kind: 5, Index: 4, Term: 1}, api.Note{Kind: -1, Index: 1}, api.Note{Kind: 256 + api.NoteCut, Index: 1}, api.Note{Kind: 256 + api.NoteHard, Term: 1}),
			state(0, 0, 0, 0, "", a, b, c)},
		// Fields that the kind does not use.
		{[]api.Note{{Kind: api.NoteHard, Term: 3, Vote: 2, Index: 7, Data: "x"}, {Kind: api.NoteEntry, Index: 1, Term: 3, Vote: 9, Data: "a"}, {Kind: api.NoteCut, Index: 2, Term: 9, Vote: 9, Data: "x"}},
			state(3, 2, 0, 0, "", a)},
	} {
		if s := note.Fold(x.l); !same(s, x.want) {
			t.Errorf("%d: Fold(%v) = %v, want %v", i, x.l, s, x.want)
		}
	}
}

// P4.2: Fold of a NoteSnap whose entry is there, is there with another term, or is not there.
func TestFoldSnap(t *testing.T) {
	a, b, c := api.Entry{Term: 3, Data: "a"}, api.Entry{Term: 3, Data: "b"}, api.Entry{Term: 4, Data: "c"}
	three := []api.Note{hard(5, 1), entry(1, 3, "a"), entry(2, 3, "b"), entry(3, 4, "c")}
	based := []api.Note{hard(5, 1), snap(10, 2, "s"), entry(11, 3, "a"), entry(12, 3, "b"), entry(13, 4, "c")}
	for _, x := range []struct {
		l    []api.Note
		n    api.Note
		want api.Stable
	}{
		{three, snap(1, 3, "new"), state(5, 1, 1, 3, "new", b, c)},
		{three, snap(2, 3, "new"), state(5, 1, 2, 3, "new", c)},
		{three, snap(3, 4, "new"), state(5, 1, 3, 4, "new")},
		{three, snap(3, 3, "new"), state(5, 1, 3, 3, "new")},
		{three, snap(2, 4, "new"), state(5, 1, 2, 4, "new")},
		{three, snap(1, 0, ""), state(5, 1, 1, 0, "")},
		{three, snap(4, 4, "new"), state(5, 1, 4, 4, "new")},
		{three, snap(5, 4, "new"), state(5, 1, 5, 4, "new")},
		{three, snap(0, 0, "new"), state(5, 1, 0, 0, "", a, b, c)},
		{three, snap(0, 3, "new"), state(5, 1, 0, 0, "", a, b, c)},
		{three, snap(api.MaxIndex, 4, "new"), state(5, 1, api.MaxIndex, 4, "new")},
		{three, snap(api.MaxIndex+1, 4, "new"), state(5, 1, 0, 0, "", a, b, c)},
		{three, snap(math.MaxUint64, 4, "new"), state(5, 1, 0, 0, "", a, b, c)},
		{based, snap(9, 2, "new"), state(5, 1, 10, 2, "s", a, b, c)},
		{based, snap(10, 2, "new"), state(5, 1, 10, 2, "s", a, b, c)},
		{based, snap(10, 3, "new"), state(5, 1, 10, 2, "s", a, b, c)},
		{based, snap(3, 4, "new"), state(5, 1, 10, 2, "s", a, b, c)},
		{based, snap(0, 0, ""), state(5, 1, 10, 2, "s", a, b, c)},
		{based, snap(11, 3, "new"), state(5, 1, 11, 3, "new", b, c)},
		{based, snap(12, 3, "new"), state(5, 1, 12, 3, "new", c)},
		{based, snap(13, 4, "new"), state(5, 1, 13, 4, "new")},
		{based, snap(11, 4, "new"), state(5, 1, 11, 4, "new")},
		{based, snap(12, 2, "new"), state(5, 1, 12, 2, "new")},
		{based, snap(14, 4, "new"), state(5, 1, 14, 4, "new")},
		{based, snap(11, math.MaxUint64, text(api.MaxText+1)), state(5, 1, 11, math.MaxUint64, text(api.MaxText+1))},
		{based, api.Note{Kind: api.NoteSnap, Index: 12, Term: 3, Vote: 9, Data: "new"}, state(5, 1, 12, 3, "new", c)},
		{nil, snap(1, 0, ""), state(0, 0, 1, 0, "")},
		{nil, snap(0, 3, "s"), api.Stable{}},
	} {
		if s := note.Fold(append(slices.Clone(x.l), x.n)); !same(s, x.want) {
			t.Errorf("Fold(%v, then %.60v) = %.60v, want %.60v", x.l, x.n, s, x.want)
		}
	}
	l := append(slices.Clone(based), snap(12, 3, "new"), entry(14, 4, "d"), cut(13), entry(13, 5, "e"))
	if s := note.Fold(l); !same(s, state(5, 1, 12, 3, "new", api.Entry{Term: 5, Data: "e"})) {
		t.Errorf("Fold(%v) = %v", l, s)
	}
}

// P4.2: Fold appends up to MaxEntries entries, and up to the index MaxIndex.
func TestFoldLimits(t *testing.T) {
	var l []api.Note
	for i := range api.MaxEntries + 2 {
		l = append(l, entry(uint64(i)+1, 1, "x"))
		if n := len(note.Fold(l).Log.Entries); n != min(i+1, api.MaxEntries) {
			t.Errorf("%d entries of %d notes", n, i+1)
		}
	}
	if s := note.Fold(append(l, cut(api.MaxEntries), entry(api.MaxEntries, 2, "y"), entry(api.MaxEntries+1, 2, "y"))); len(s.Log.Entries) != api.MaxEntries || s.Log.Entries[api.MaxEntries-1].Term != 2 {
		t.Errorf("%d entries behind a cut", len(s.Log.Entries))
	}
	if s := note.Fold(append(l, snap(1, 1, ""), entry(api.MaxEntries+1, 2, "y"), entry(api.MaxEntries+2, 2, "y"))); s.Log.Base != 1 || len(s.Log.Entries) != api.MaxEntries {
		t.Errorf("base %d, %d entries behind a snapshot", s.Log.Base, len(s.Log.Entries))
	}
	x, y := api.Entry{Term: 2, Data: "x"}, api.Entry{Term: 2, Data: "y"}
	high := []api.Note{snap(api.MaxIndex-2, 2, "s"), entry(api.MaxIndex-1, 2, "x"), entry(api.MaxIndex, 2, "y"), entry(api.MaxIndex+1, 2, "z"), cut(api.MaxIndex + 1)}
	if s := note.Fold(high); !same(s, state(0, 0, api.MaxIndex-2, 2, "s", x, y)) {
		t.Errorf("Fold(%v) = %v", high, s)
	}
	high = append(high, snap(api.MaxIndex, 2, "new"), entry(api.MaxIndex+1, 2, "z"), snap(api.MaxIndex+1, 2, "z"))
	if s := note.Fold(high); !same(s, state(0, 0, api.MaxIndex, 2, "new")) {
		t.Errorf("Fold(%v) = %v", high, s)
	}
}

// plainly does a note as the chapter says it, with the entries kept by their indexes.
func plainly(s api.Stable, at map[uint64]api.Entry, n api.Note) api.Stable {
	count := uint64(len(at))
	switch {
	case n.Kind == api.NoteHard:
		s.Term, s.Vote = n.Term, n.Vote
	case n.Kind == api.NoteEntry && n.Index == s.Log.Base+count+1 && count < api.MaxEntries && n.Index <= api.MaxIndex:
		at[n.Index] = api.Entry{Term: n.Term, Data: n.Data}
	case n.Kind == api.NoteCut:
		for i := range at {
			if i >= n.Index {
				delete(at, i)
			}
		}
	case n.Kind == api.NoteSnap && n.Index > s.Log.Base && n.Index <= api.MaxIndex:
		x, there := at[n.Index]
		for i := range at {
			if !there || x.Term != n.Term || i <= n.Index {
				delete(at, i)
			}
		}
		s.Log.Base, s.Log.BaseTerm, s.Log.Snap = n.Index, n.Term, n.Data
	}
	return s
}

// P4.2: Fold of every script of up to five notes out of a few, and of long ones, held against a plain model.
func TestFoldIsPlain(t *testing.T) {
	few := []api.Note{hard(2, 1), entry(1, 1, "a"), entry(2, 1, "b"), entry(2, 2, "c"), entry(3, 2, "d"), cut(0), cut(2), snap(1, 1, "s"), snap(2, 2, "t"), snap(3, 2, "u"), {Kind: 5, Index: 1}}
	check := func(l []api.Note) {
		t.Helper()
		var s api.Stable
		at := map[uint64]api.Entry{}
		for _, n := range l {
			s = plainly(s, at, n)
		}
		for i := range uint64(len(at)) {
			s.Log.Entries = append(s.Log.Entries, at[s.Log.Base+i+1])
		}
		if got := note.Fold(l); !same(got, s) {
			t.Errorf("Fold(%v) = %v, want %v", l, got, s)
		}
	}
	var walk func(l []api.Note, left int)
	walk = func(l []api.Note, left int) {
		check(l)
		if left == 0 || t.Failed() {
			return
		}
		for _, n := range few {
			walk(append(l, n), left-1)
		}
	}
	walk(nil, 5)
	seed := uint64(5)
	draw := func(n uint64) uint64 {
		seed = seed*6364136223846793005 + 1442695040888963407
		return seed >> 33 % n
	}
	for range 300 {
		var l []api.Note
		for next := uint64(1); len(l) < 120 && !t.Failed(); {
			switch kind := draw(12); kind {
			case 0:
				l = append(l, hard(draw(4), draw(4)))
			case 1:
				next = next - min(next-1, draw(4))
				l = append(l, cut(next))
			case 2:
				l = append(l, snap(next-min(next, draw(9)), draw(3), "s"))
			default:
				l = append(l, entry(next, draw(3), "e"))
				next++
			}
			check(l)
		}
	}
}

// turned is a state with one thing changed, and what is to be said of it.
type turned struct {
	name string
	s    api.Stable
	may  bool
}

// turnedStates are states at the edges that the chapter names.
func turnedStates() []turned {
	long, most := text(api.MaxText), api.Stable{Term: api.MaxNum, Vote: api.MaxNum}
	e := func(terms ...uint64) []api.Entry {
		var l []api.Entry
		for _, v := range terms {
			l = append(l, api.Entry{Term: v, Data: "x"})
		}
		return l
	}
	return []turned{
		{"the zero state", api.Stable{}, true},
		{"the greatest term and vote", most, true},
		{"too great a term", state(api.MaxNum+1, 1, 0, 0, ""), false},
		{"the greatest uint64 as term", state(math.MaxUint64, 1, 0, 0, ""), false},
		{"too great a vote", state(1, api.MaxNum+1, 0, 0, ""), false},
		{"the greatest uint64 as vote", state(1, math.MaxUint64, 0, 0, ""), false},
		{"a vote in the term 0", state(0, 5, 0, 0, ""), true},
		{"a base", state(3, 0, 7, 3, "s"), true},
		{"a base of the term 0, with nothing", state(0, 0, 1, 0, ""), true},
		{"the greatest base", state(3, 0, api.MaxIndex, 3, "s"), true},
		{"too great a base", state(3, 0, api.MaxIndex+1, 3, "s"), false},
		{"a base above MaxNum", state(3, 0, api.MaxNum+1, 3, "s"), false},
		{"the greatest uint64 as base", state(3, 0, math.MaxUint64, 3, "s"), false},
		{"the greatest uint64 as base, and an entry", state(3, 0, math.MaxUint64, 3, "s", e(3)...), false},
		{"a base and entries that wrap around", state(3, 0, math.MaxUint64-1, 3, "s", e(3, 3, 3, 3)...), false},
		{"base 0 with a term", state(3, 0, 0, 1, ""), false},
		{"base 0 with a snapshot", state(3, 0, 0, 0, "s"), false},
		{"base 0 with both", state(3, 0, 0, 1, "s", e(3)...), false},
		{"base 0 with entries", state(3, 0, 0, 0, "", e(0, 0, 3)...), true},
		{"the last index MaxIndex", state(3, 0, api.MaxIndex-2, 3, "s", e(3, 3)...), true},
		{"the last index above MaxIndex", state(3, 0, api.MaxIndex-1, 3, "s", e(3, 3)...), false},
		{"an entry behind the greatest base", state(3, 0, api.MaxIndex, 3, "s", e(3)...), false},
		{"as many entries as may be", state(3, 0, 0, 0, "", entries(api.MaxEntries, 3, "")...), true},
		{"an entry too many", state(3, 0, 0, 0, "", entries(api.MaxEntries+1, 3, "")...), false},
		{"as many entries up to MaxIndex", state(3, 0, api.MaxIndex-api.MaxEntries, 3, "", entries(api.MaxEntries, 3, "")...), true},
		{"as many entries beyond MaxIndex", state(3, 0, api.MaxIndex-api.MaxEntries+1, 3, "", entries(api.MaxEntries, 3, "")...), false},
		{"a long snapshot", state(3, 0, 1, 3, long), true},
		{"too long a snapshot", state(3, 0, 1, 3, long+"x"), false},
		{"a long entry", state(3, 0, 0, 0, "", api.Entry{Term: 3, Data: long}), true},
		{"too long an entry", state(3, 0, 0, 0, "", api.Entry{Term: 3, Data: long + "x"}), false},
		{"too long an entry, the first", state(3, 0, 0, 0, "", api.Entry{Term: 3, Data: long + "x"}, api.Entry{Term: 3}), false},
		{"too long an entry, the last", state(3, 0, 0, 0, "", api.Entry{Term: 3}, api.Entry{Term: 3, Data: long + "x"}), false},
		{"equal terms", state(3, 0, 5, 3, "s", e(3, 3, 3)...), true},
		{"rising terms", state(9, 0, 5, 1, "s", e(2, 2, 5, 9)...), true},
		{"terms that stay below", state(9, 0, 5, 1, "s", e(2, 2, 5)...), true},
		{"falling terms", state(9, 0, 5, 1, "s", e(2, 5, 4)...), false},
		{"falling terms, at the beginning", state(9, 0, 0, 0, "", e(2, 1, 5)...), false},
		{"an entry below the base's term", state(9, 0, 5, 3, "s", e(2, 5)...), false},
		{"a later entry below the base's term", state(9, 0, 5, 3, "s", e(3, 2)...), false},
		{"a base's term above the term", state(3, 0, 5, 4, "s"), false},
		{"a base's term above the term, with an entry", state(3, 0, 5, 4, "s", e(4)...), false},
		{"an entry's term above the term", state(3, 0, 0, 0, "", e(4)...), false},
		{"the last entry's term above the term", state(3, 0, 5, 1, "s", e(1, 3, 4)...), false},
		{"a middle entry's term above the term", state(3, 0, 5, 1, "s", e(1, 4, 3)...), false},
		{"the greatest terms", state(api.MaxNum, 0, 5, api.MaxNum, "s", e(api.MaxNum, api.MaxNum)...), true},
		{"an entry's term above the greatest", state(api.MaxNum, 0, 5, 1, "s", e(api.MaxNum+1)...), false},
		{"a base's term above the greatest", state(api.MaxNum, 0, 5, api.MaxNum+1, "s"), false},
		{"all terms above the greatest", state(api.MaxNum+1, 0, 5, api.MaxNum+1, "s", e(api.MaxNum+1)...), false},
		{"terms that wrap around", state(math.MaxUint64, 0, 5, math.MaxUint64, "s", e(0)...), false},
	}
}

// P4.3: May, and the error of Least and of Compact of a state that may not be.
func TestMay(t *testing.T) {
	for _, x := range turnedStates() {
		if note.May(x.s) != x.may {
			t.Errorf("%s: May = %v", x.name, !x.may)
		}
		wantE := api.OK
		if !x.may {
			wantE = api.ErrArg
		}
		if l, e := note.Least(x.s); e != wantE || (len(l) != 0) != x.may {
			t.Errorf("%s: Least = %d notes, %d, want error %d", x.name, len(l), e, wantE)
		}
		for _, from := range []api.Tape{{Safe: "old", Power: -1}, {Safe: "old", Rest: "new", Power: 0}, {Safe: "old", Off: true}} {
			if y, e := note.Compact(from, x.s); !x.may && (e != api.ErrArg || y != api.Tape{}) {
				t.Errorf("%s: Compact = %v, %d, want error %d", x.name, y, e, api.ErrArg)
			}
		}
	}
}

// P4.3: the notes of Least, in order.
func TestLeast(t *testing.T) {
	a, b := api.Entry{Term: 2, Data: "a"}, api.Entry{Term: 3, Data: ""}
	for _, x := range []struct {
		s api.Stable
		l []api.Note
	}{
		{api.Stable{}, []api.Note{hard(0, 0)}},
		{state(3, 2, 0, 0, ""), []api.Note{hard(3, 2)}},
		{state(3, 2, 0, 0, "", a, b), []api.Note{hard(3, 2), entry(1, 2, "a"), entry(2, 3, "")}},
		{state(3, 0, 7, 2, "s"), []api.Note{hard(3, 0), snap(7, 2, "s")}},
		{state(3, 0, 1, 0, ""), []api.Note{hard(3, 0), snap(1, 0, "")}},
		{state(3, 2, 7, 2, "s", a, b), []api.Note{hard(3, 2), snap(7, 2, "s"), entry(8, 2, "a"), entry(9, 3, "")}},
		{state(3, 2, api.MaxIndex-2, 2, "s", a, b), []api.Note{hard(3, 2), snap(api.MaxIndex-2, 2, "s"), entry(api.MaxIndex-1, 2, "a"), entry(api.MaxIndex, 3, "")}},
	} {
		if l, e := note.Least(x.s); e != api.OK || !slices.Equal(l, x.l) {
			t.Errorf("Least(%v) = %v, %d, want %v", x.s, l, e, x.l)
		}
	}
}

// P4.5: Fold of Least is the state again, also where the notes went through their bytes.
func TestFoldOfLeast(t *testing.T) {
	for _, x := range turnedStates() {
		if !x.may {
			continue
		}
		l, _ := note.Least(x.s)
		if s := note.Fold(l); !same(s, x.s) {
			t.Errorf("%s: Fold of Least is %.60v", x.name, s)
		}
		b := written(t, l)
		if back, size := note.Read(b); size != len(b) || !slices.Equal(back, l) {
			t.Errorf("%s: %d notes of %d, %d bytes of %d", x.name, len(back), len(l), size, len(b))
		}
	}
	for terms := range 1 << 6 {
		s := state(7, 1, uint64(terms>>4), 0, "")
		if terms >= 1<<4 {
			s.Log.BaseTerm, s.Log.Snap = 1, "s"
		}
		at := s.Log.BaseTerm
		for i := range 4 {
			at += uint64(terms >> i & 1)
			s.Log.Entries = append(s.Log.Entries, api.Entry{Term: at, Data: text(i)})
		}
		l, e := note.Least(s)
		if back := note.Fold(l); e != api.OK || !same(back, s) {
			t.Errorf("Fold of Least(%v) = %v, %d", s, back, e)
		}
	}
}

// P4.4: Recover of whole notes leaves the tape as it is, and asks for no power.
func TestRecoverWhole(t *testing.T) {
	l := []api.Note{hard(3, 2), entry(1, 3, "a"), entry(2, 3, "b"), cut(2)}
	want := state(3, 2, 0, 0, "", api.Entry{Term: 3, Data: "a"})
	b := written(t, l)
	for at := range len(b) + 1 {
		for _, power := range []int{0, 1, -1, math.MinInt} {
			x := api.Tape{Safe: b[:at], Rest: b[at:], Power: power}
			if s, y, e := note.Recover(x); !same(s, want) || y != x || e != api.OK {
				t.Errorf("Recover(%.60v) = %v, %.60v, %d", x, s, y, e)
			}
		}
	}
	for _, x := range []api.Tape{{}, {Power: 5}, {Power: -1}} {
		if s, y, e := note.Recover(x); !same(s, api.Stable{}) || y != x || e != api.OK {
			t.Errorf("Recover(%.60v) = %v, %.60v, %d", x, s, y, e)
		}
	}
	long := written(t, slices.Repeat([]api.Note{entry(1, 1, text(api.MaxText))}, 65))
	if s, y, e := note.Recover(api.Tape{Safe: long}); len(long) <= api.MaxTape || len(s.Log.Entries) != 1 || y.Safe != long || y.Rest != "" || e != api.OK {
		t.Errorf("Recover of %d bytes: %d entries, %d bytes, %d", len(long), len(s.Log.Entries), len(y.Safe), e)
	}
}

// P4.4: Recover of notes with bytes behind them installs the notes alone.
func TestRecoverTorn(t *testing.T) {
	l := []api.Note{hard(3, 2), entry(1, 3, "a"), entry(2, 3, "b")}
	b := written(t, l)
	for n := range len(l) + 1 {
		whole := written(t, l[:n])
		for _, end := range append(noNotes(t), b[len(b)-3:], put(t, "\x07")+b) {
			if end == "" {
				continue
			}
			all := whole + end
			for _, at := range []int{0, len(whole), len(whole) + 1, len(all)} {
				for _, p := range [][2]int{{1, 0}, {5, 4}, {-1, -1}, {-7, -7}} {
					s, y, e := note.Recover(api.Tape{Safe: all[:at], Rest: all[at:], Power: p[0]})
					if !same(s, note.Fold(l[:n])) || y != (api.Tape{Safe: whole, Power: p[1]}) || e != api.OK {
						t.Errorf("Recover of %d notes, then %.40x: %v, %.60v, %d", n, end, s, y, e)
					}
				}
			}
		}
	}
}

// P4.4: the errors of Recover: of Read, and of Install, with the tape that it leaves.
func TestRecoverErrors(t *testing.T) {
	b := written(t, []api.Note{hard(3, 2), entry(1, 3, "a")})
	long := written(t, slices.Repeat([]api.Note{entry(1, 1, text(api.MaxText))}, 65))
	short := long[:api.MaxTape-10]
	for _, x := range []struct {
		name string
		t    api.Tape
		then api.Tape
		want api.Errno
	}{
		{"Off", api.Tape{Safe: b, Off: true, Power: -1}, api.Tape{}, api.ErrDead},
		{"Off and torn", api.Tape{Safe: b, Rest: "torn", Off: true, Power: 7}, api.Tape{}, api.ErrDead},
		{"Off and empty", api.Tape{Off: true}, api.Tape{}, api.ErrDead},
		{"torn, without power", api.Tape{Safe: b, Rest: "torn"}, api.Tape{Safe: b, Rest: "torn", Off: true}, api.ErrDead},
		{"nothing but torn, without power", api.Tape{Safe: "torn"}, api.Tape{Safe: "torn", Off: true}, api.ErrDead},
		{"torn, and too full", api.Tape{Safe: long, Rest: "torn", Power: 3}, api.Tape{Safe: long, Rest: "torn", Power: 3}, api.ErrFull},
		{"torn, too full, and without power", api.Tape{Safe: long, Rest: "torn"}, api.Tape{Safe: long, Rest: "torn"}, api.ErrFull},
		{"torn, too full, and Off", api.Tape{Safe: long, Rest: "torn", Off: true}, api.Tape{}, api.ErrDead},
	} {
		if s, y, e := note.Recover(x.t); !same(s, api.Stable{}) || y != x.then || e != x.want {
			t.Errorf("%s: Recover = %.60v, %d bytes, power %d, off %v, error %d, want %d", x.name, s, len(y.Safe)+len(y.Rest), y.Power, y.Off, e, x.want)
		}
	}
	// The notes alone have room, though all contents have not.
	whole := long[:len(long)/65*63]
	if s, y, e := note.Recover(api.Tape{Safe: short, Rest: text(1000), Power: 1}); len(s.Log.Entries) != 1 || y != (api.Tape{Safe: whole}) || e != api.OK {
		t.Errorf("Recover of a torn, long tape: %d entries, %d bytes, %d", len(s.Log.Entries), len(y.Safe), e)
	}
}

// P4.4: Compact lays the notes of Least alone on the tape.
func TestCompact(t *testing.T) {
	for _, x := range turnedStates() {
		l, e := note.Least(x.s)
		b := ""
		if e == api.OK {
			b = written(t, l)
		}
		if e != api.OK || len(b) > api.MaxTape {
			continue
		}
		for _, from := range []api.Tape{{}, {Safe: "old"}, {Rest: "new"}, {Safe: "old", Rest: "new"}, {Safe: text(api.MaxTape), Rest: text(9)}} {
			for _, p := range [][2]int{{1, 0}, {5, 4}, {-1, -1}, {-7, -7}} {
				from.Power = p[0]
				y, e := note.Compact(from, x.s)
				if y != (api.Tape{Safe: b, Power: p[1]}) || e != api.OK {
					t.Errorf("%s: Compact = %d bytes, power %d, %d", x.name, len(y.Safe), y.Power, e)
				}
				if s, z, e := note.Recover(y); !same(s, x.s) || z != y || e != api.OK {
					t.Errorf("%s: Recover behind Compact = %.60v, %d", x.name, s, e)
				}
			}
		}
	}
}

// P4.4: the errors of Compact: a state that may not be ahead of Install's, and the tape that Install leaves.
func TestCompactErrors(t *testing.T) {
	good, bad := state(3, 2, 0, 0, "", api.Entry{Term: 3}), state(3, 2, 0, 0, "s")
	huge := state(3, 2, 0, 0, "", entries(64, 3, text(api.MaxText))...)
	for _, x := range []struct {
		name string
		t    api.Tape
		s    api.Stable
		then api.Tape
		want api.Errno
	}{
		{"a bad state", api.Tape{Safe: "old", Power: -1}, bad, api.Tape{}, api.ErrArg},
		{"a bad state, Off", api.Tape{Safe: "old", Off: true}, bad, api.Tape{}, api.ErrArg},
		{"a bad state, without power", api.Tape{Safe: "old"}, bad, api.Tape{}, api.ErrArg},
		{"Off", api.Tape{Safe: "old", Rest: "new", Off: true, Power: 4}, good, api.Tape{Safe: "old", Rest: "new", Off: true, Power: 4}, api.ErrDead},
		{"without power", api.Tape{Safe: "old", Rest: "new"}, good, api.Tape{Safe: "old", Rest: "new", Off: true}, api.ErrDead},
		{"too much", api.Tape{Safe: "old", Rest: "new", Power: 4}, huge, api.Tape{Safe: "old", Rest: "new", Power: 4}, api.ErrFull},
		{"too much, without power", api.Tape{Safe: "old"}, huge, api.Tape{Safe: "old"}, api.ErrFull},
		{"too much, Off", api.Tape{Safe: "old", Off: true}, huge, api.Tape{Safe: "old", Off: true}, api.ErrDead},
	} {
		if y, e := note.Compact(x.t, x.s); y != x.then || e != x.want {
			t.Errorf("%s: Compact = %.60v, %d, want %.60v, %d", x.name, y, e, x.then, x.want)
		}
	}
}

// P4.4: Compact up to MaxTape bytes of notes, and no further.
func TestCompactFull(t *testing.T) {
	s := state(3, 2, 0, 0, "", entries(63, 3, text(api.MaxText))...)
	l, _ := note.Least(s)
	// A last entry of so many bytes that the notes have MaxTape bytes in all: its own others are 2 of length, 6 ahead, 4 behind.
	left := api.MaxTape - len(written(t, l)) - 12
	for _, more := range []int{-1, 0, 1} {
		x := s
		x.Log.Entries = append(slices.Clone(s.Log.Entries), api.Entry{Term: 3, Data: text(left + more)})
		y, e := note.Compact(api.Tape{Safe: "old", Power: 1}, x)
		if more <= 0 && (e != api.OK || len(y.Safe) != api.MaxTape+more || y.Power != 0) || more > 0 && (e != api.ErrFull || y != api.Tape{Safe: "old", Power: 1}) {
			t.Errorf("Compact of MaxTape%+d bytes: %d bytes, %d", more, len(y.Safe), e)
		}
	}
}

// P4.5: behind every crash there are the notes that were synced, then complete ones that were written since, in their order, and nothing else.
func TestWhatLasts(t *testing.T) {
	all := []api.Note{hard(1, 1), entry(1, 1, "a"), entry(2, 1, text(70)), hard(2, 0), cut(2), entry(2, 2, ""), snap(1, 1, "s"), entry(3, 2, "c")}
	for synced := range len(all) + 1 {
		for count := synced; count <= len(all); count++ {
			x := api.Tape{Power: -1}
			for i, n := range all[:count] {
				if i == synced {
					x, _ = tape.Sync(x)
				}
				x, _ = tape.Write(x, written(t, []api.Note{n}))
			}
			if count == synced {
				x, _ = tape.Sync(x)
			}
			crashes(t, x, all[:count], synced)
		}
	}
}

// crashes holds what every crash leaves of a tape against the notes that were written there, of which so many were synced.
func crashes(t *testing.T, x api.Tape, l []api.Note, synced int) {
	t.Helper()
	ahead := synced
	for keep := -1; keep <= len(x.Rest)+1; keep++ {
		s, y, e := note.Recover(tape.Crash(x, keep))
		if e != api.OK || y.Rest != "" || y.Off || y.Power != -1 {
			t.Fatalf("Recover behind a crash: %.60v, %d", y, e)
		}
		left, size := note.Read(y.Safe)
		if size != len(y.Safe) || len(left) < ahead || len(left) > len(l) || !slices.Equal(left, l[:len(left)]) || !same(s, note.Fold(left)) {
			t.Fatalf("%d notes synced of %d, keep %d: %d notes left, %v", synced, len(l), keep, len(left), s)
		}
		ahead = len(left)
		// What is written then stands behind whole notes, and is read.
		z, _ := tape.Write(y, written(t, []api.Note{hard(9, 9)}))
		if s, _, e := note.Recover(z); s.Term != 9 || e != api.OK || !same(s, note.Fold(append(slices.Clone(left), hard(9, 9)))) {
			t.Fatalf("a note behind a crash is not read: %v, %d", s, e)
		}
	}
	if ahead != len(l) {
		t.Fatalf("%d notes of %d behind a crash that keeps all", ahead, len(l))
	}
}

// R3: arguments are as they were, and no answer changes with another, or with what it was made of.
func TestArgumentsStay(t *testing.T) {
	l := []api.Note{hard(3, 2), entry(1, 3, "a"), entry(2, 3, "b"), entry(3, 3, "c"), cut(3), entry(3, 3, "d"), snap(1, 3, "s"), entry(4, 3, "e")}
	before := slices.Clone(l)
	s, again := note.Fold(l), note.Fold(l)
	clear(again.Log.Entries)
	_ = append(again.Log.Entries[:0], make([]api.Entry, 9)...)
	if !slices.Equal(l, before) || !same(s, note.Fold(before)) || len(s.Log.Entries) != 3 {
		t.Errorf("Fold: %v, %v", l, s)
	}
	kept := s
	kept.Log.Entries = slices.Clone(s.Log.Entries)
	least, _ := note.Least(s)
	if !note.May(s) || len(least) != 5 {
		t.Errorf("Least = %v", least)
	}
	clear(least)
	if _, e := note.Compact(api.Tape{Power: 1}, s); e != api.OK || !same(s, kept) {
		t.Errorf("%v became %v, %d", kept, s, e)
	}
}

// R1: no call panics or goes on for ever, whatever the bytes are; the bytes that Read counts are those of its notes.
func TestAnyBytes(t *testing.T) {
	good := written(t, []api.Note{hard(3, 2), entry(1, 3, "a"), snap(1, 3, "s")})
	x := uint64(11)
	var noise []byte
	for range 1 << 11 {
		x = x*6364136223846793005 + 1442695040888963407
		noise = append(noise, byte(x>>56))
	}
	check := func(b string) {
		l, size := note.Read(b)
		if size < 0 || size > len(b) || written(t, l) != b[:size] {
			t.Errorf("Read(%x) = %v, %d", b, l, size)
		}
		s, y, e := note.Recover(api.Tape{Rest: b, Power: -1})
		if e != api.OK || y.Safe+y.Rest != b[:size] || !same(s, note.Fold(l)) {
			t.Errorf("Recover(%x) = %v, %.60v, %d", b, s, y, e)
		}
	}
	for at := range len(noise) - 24 {
		some := string(noise[at : at+at%24])
		check(some)
		check(good + some)
		check(put(t, some))
		check(put(t, "\x02\x03"+some) + good)
		check(put(t, "\x01\x03\x00"+some) + good)
	}
}
