package rows_test

import (
	"math"
	"slices"
	"strconv"
	"strings"
	"testing"

	"ferrule/api"
	"ferrule/rows"
)

// text is a text of so many bytes.
func text(n int) string { return strings.Repeat("t", n) }

// of is a list, told as the chapter does: "a 2 7, b 1 7".
func of(told string) []api.Row {
	var l []api.Row
	for _, x := range words(told) {
		part := strings.Split(x, " ")
		ver, err := strconv.ParseUint(part[2], 10, 64)
		if err != nil {
			panic(err)
		}
		l = append(l, api.Row{Key: part[0], Val: part[1], Ver: ver})
	}
	return l
}

// puts are puts: "a=1" writes, "a-" is Gone.
func puts(told string) []api.Put {
	var l []api.Put
	for _, x := range words(told) {
		if key, gone := strings.CutSuffix(x, "-"); gone {
			l = append(l, api.Put{Key: key, Gone: true})
			continue
		}
		key, val, _ := strings.Cut(x, "=")
		l = append(l, api.Put{Key: key, Val: val})
	}
	return l
}

// words are what commas separate.
func words(told string) []string {
	if told == "" {
		return nil
	}
	return strings.Split(told, ", ")
}

// kept is the key of the i-th of many rows.
func kept(i int) string { return "k" + strconv.Itoa(100+i) }

// many are so many rows, in order.
func many(n int) []api.Row {
	var l []api.Row
	for i := range n {
		l = append(l, api.Row{Key: kept(i), Val: strconv.Itoa(i), Ver: uint64(i)})
	}
	return l
}

// manyPuts are so many puts of different keys that many does not have.
func manyPuts(n int) []api.Put {
	var l []api.Put
	for i := range n {
		l = append(l, api.Put{Key: "p" + strconv.Itoa(i), Val: strconv.Itoa(i)})
	}
	return l
}

// changed is the list with another row at a place.
func changed(l []api.Row, i int, r api.Row) []api.Row {
	l = slices.Clone(l)
	l[i] = r
	return l
}

// keyed are rows of these keys.
func keyed(keys ...string) []api.Row {
	var l []api.Row
	for i, key := range keys {
		l = append(l, api.Row{Key: key, Val: "v", Ver: uint64(i)})
	}
	return l
}

// P11.1: Right at the edges of numbers of rows, keys, values and versions.
func TestRight(t *testing.T) {
	for _, x := range []struct {
		why  string
		l    []api.Row
		want bool
	}{
		{"nothing", nil, true},
		{"a list without rows", []api.Row{}, true},
		{"one row", of("a 1 7"), true},
		{"two rows", of("a 2 7, b 1 7"), true},
		{"equal values and versions", of("a 1 1, b 1 1, c 1 1"), true},
		{"versions that fall", of("a 1 9, b 1 8, c 1 0"), true},
		{"values that fall", of("a 9 1, b 8 1, c  1"), true},
		{"MaxRows rows", many(api.MaxRows), true},
		{"one row less", many(api.MaxRows - 1), true},
		{"one row more", many(api.MaxRows + 1), false},
		{"twice as many rows", many(2 * api.MaxRows), false},
		{"a key of no byte", keyed(""), false},
		{"a key of no byte ahead of another one", keyed("", "a"), false},
		{"a key of one byte, 0", keyed("\x00"), true},
		{"a key of MaxKey bytes", keyed(text(api.MaxKey)), true},
		{"a key of one more byte", keyed(text(api.MaxKey + 1)), false},
		{"a key of many bytes", keyed(text(api.MaxText)), false},
		{"a key of one more byte behind another one", keyed("a", text(api.MaxKey+1)), false},
		{"a key of MaxKey bytes, though of fewer runes", keyed(strings.Repeat("é", api.MaxKey/2)), true},
		{"a key of MaxKey runes", keyed(strings.Repeat("é", api.MaxKey)), false},
		{"a value of no byte", []api.Row{{Key: "a"}}, true},
		{"a value of MaxVal bytes", []api.Row{{Key: "a", Val: text(api.MaxVal)}}, true},
		{"a value of one more byte", []api.Row{{Key: "a", Val: text(api.MaxVal + 1)}}, false},
		{"a value of many bytes", []api.Row{{Key: "a", Val: text(api.MaxText)}}, false},
		{"a value of MaxVal runes", []api.Row{{Key: "a", Val: strings.Repeat("é", api.MaxVal)}}, false},
		{"a value of one more byte behind another one", []api.Row{{Key: "a"}, {Key: "b", Val: text(api.MaxVal + 1)}}, false},
		{"a Ver of MaxNum", []api.Row{{Key: "a", Ver: api.MaxNum}}, true},
		{"a Ver of one more", []api.Row{{Key: "a", Ver: api.MaxNum + 1}}, false},
		{"a Ver of 2^63", []api.Row{{Key: "a", Ver: 1 << 63}}, false},
		{"the greatest Ver", []api.Row{{Key: "a", Ver: math.MaxUint64}}, false},
		{"a Ver of one more behind another one", []api.Row{{Key: "a", Ver: 1}, {Key: "b", Ver: api.MaxNum + 1}}, false},
		{"all at their greatest", []api.Row{{Key: strings.Repeat("\xff", api.MaxKey), Val: strings.Repeat("\xff", api.MaxVal), Ver: api.MaxNum}}, true},
	} {
		if rows.Right(x.l) != x.want {
			t.Errorf("%s: Right = %v", x.why, !x.want)
		}
	}
}

// P11.1: Right asks for keys that ascend strictly, as bytes.
func TestRightOrder(t *testing.T) {
	for _, x := range []struct {
		keys []string
		want bool
	}{
		{words("a, b, c"), true},
		{words("a, a"), false}, {words("a, a, b"), false}, {words("a, b, b"), false}, {words("a, b, b, c"), false}, {words("a, b, a"), false},
		{words("b, a"), false}, {words("a, c, b"), false}, {words("b, a, c"), false}, {words("c, b, a"), false}, {words("b, c, a"), false},
		// Keys that are the beginning of others.
		{words("a, ab"), true}, {words("ab, a"), false}, {words("a, ab, abc, b"), true}, {words("a, abc, ab"), false}, {words("ab, b"), true}, {words("b, ab"), false}, {[]string{"a", "a\x00"}, true}, {[]string{"a\x00", "a"}, false}, {[]string{"\x00", "\x00\x00"}, true}, {[]string{text(15), text(16)}, true}, {[]string{text(16), text(15)}, false}, {[]string{text(16), text(16)}, false},
		// Not the order of numbers, nor of lengths, nor of letters.
		{words("10, 9"), true}, {words("9, 10"), false}, {words("aa, b"), true}, {words("b, aa"), false}, {words("B, a"), true}, {words("a, B"), false},
		// Bytes of 0x80 and above, runes or none.
		{[]string{"\x7f", "\x80"}, true}, {[]string{"\x80", "\x7f"}, false}, {[]string{"a", "\xff"}, true}, {[]string{"\xff", "a"}, false}, {[]string{"\x80", "\xff"}, true}, {[]string{"\xff", "\x80"}, false}, {[]string{"\xff", "\xff"}, false}, {[]string{"a\x7f", "a\x80", "a\xff", "b"}, true}, {[]string{"a\xff", "a\x80"}, false}, {[]string{"z", "é"}, true}, {[]string{"é", "z"}, false},
		{[]string{"\x80", "\ufffd"}, true}, {[]string{"\ufffd", "\x80"}, false}, {[]string{"\ufffd", "\xff"}, true}, {[]string{"\xff", "\ufffd"}, false}, {[]string{"\xc3", "é"}, true}, {[]string{"\uffff", "\U00010000"}, true}, {[]string{"\U00010000", "\uffff"}, false},
	} {
		if rows.Right(keyed(x.keys...)) != x.want {
			t.Errorf("Right of the keys %q = %v", x.keys, !x.want)
		}
	}
}

// P11.1: Right looks at every row of a list of every length.
func TestRightLooksAtEach(t *testing.T) {
	for n := range api.MaxRows + 1 {
		l := many(n)
		if !rows.Right(l) {
			t.Errorf("Right of %d rows = false", n)
		}
		for i, r := range l {
			wrong := [][]api.Row{
				changed(l, i, api.Row{Key: r.Key + text(api.MaxKey), Val: r.Val, Ver: r.Ver}),
				changed(l, i, api.Row{Val: r.Val, Ver: r.Ver}),
				changed(l, i, api.Row{Key: r.Key, Val: text(api.MaxVal + 1), Ver: r.Ver}),
				changed(l, i, api.Row{Key: r.Key, Val: r.Val, Ver: api.MaxNum + 1}),
			}
			if i > 0 {
				wrong = append(wrong, changed(l, i, l[i-1]), changed(l, i, l[0]), changed(l, i, api.Row{Key: "a"}))
			}
			for k, w := range wrong {
				if rows.Right(w) {
					t.Errorf("Right of %d rows, of which the %d-th is wrong (%d), = true", n, i, k)
				}
			}
		}
	}
}

// P11.1: Get of a key that is there once, twice, or not at all, in lists that are right and lists that are not.
func TestGet(t *testing.T) {
	long := append(many(3*api.MaxRows), api.Row{Key: "last", Val: "x", Ver: 9})
	for _, x := range []struct {
		l    []api.Row
		key  string
		want api.Row
		ok   bool
	}{
		{nil, "a", api.Row{}, false}, {nil, "", api.Row{}, false}, {[]api.Row{}, "a", api.Row{}, false},
		{of("b 1 7, d 2 8, f 3 9"), "b", api.Row{Key: "b", Val: "1", Ver: 7}, true}, {of("b 1 7, d 2 8, f 3 9"), "d", api.Row{Key: "d", Val: "2", Ver: 8}, true}, {of("b 1 7, d 2 8, f 3 9"), "f", api.Row{Key: "f", Val: "3", Ver: 9}, true},
		{of("b 1 7, d 2 8, f 3 9"), "a", api.Row{}, false}, {of("b 1 7, d 2 8, f 3 9"), "c", api.Row{}, false}, {of("b 1 7, d 2 8, f 3 9"), "g", api.Row{}, false}, {of("b 1 7, d 2 8, f 3 9"), "", api.Row{}, false}, {of("b 1 7, d 2 8, f 3 9"), "B", api.Row{}, false},
		// Nearly the key.
		{of("ab 1 7"), "a", api.Row{}, false}, {of("ab 1 7"), "b", api.Row{}, false}, {of("ab 1 7"), "abc", api.Row{}, false}, {of("a 1 7, ab 2 8, abc 3 9"), "ab", api.Row{Key: "ab", Val: "2", Ver: 8}, true}, {keyed("a\x00"), "a", api.Row{}, false}, {keyed("\x80"), "\xff", api.Row{}, false}, {keyed("\ufffd"), "\xff", api.Row{}, false},
		// A row like the zero row, but for its key.
		{of("a  0"), "a", api.Row{Key: "a"}, true},
		// Lists that are not right.
		{of("a 1 7, a 2 8"), "a", api.Row{Key: "a", Val: "1", Ver: 7}, true}, {of("a 2 8, a 1 7"), "a", api.Row{Key: "a", Val: "2", Ver: 8}, true}, {of("b 1 7, a 2 8, b 3 9"), "b", api.Row{Key: "b", Val: "1", Ver: 7}, true}, {of("c 1 7, b 2 8, a 3 9"), "a", api.Row{Key: "a", Val: "3", Ver: 9}, true}, {of("c 1 7, b 2 8, a 3 9"), "c", api.Row{Key: "c", Val: "1", Ver: 7}, true}, {of("c 1 7, b 2 8, a 3 9"), "d", api.Row{}, false},
		{keyed("a", ""), "", api.Row{Val: "v", Ver: 1}, true}, {keyed("a", text(99)), text(99), api.Row{Key: text(99), Val: "v", Ver: 1}, true}, {[]api.Row{{Key: "a", Val: text(99), Ver: math.MaxUint64}}, "a", api.Row{Key: "a", Val: text(99), Ver: math.MaxUint64}, true}, {[]api.Row{{}}, "", api.Row{}, true},
		{long, "last", api.Row{Key: "last", Val: "x", Ver: 9}, true}, {long, kept(0), many(1)[0], true}, {long, "k", api.Row{}, false},
	} {
		if r, ok := rows.Get(x.l, x.key); r != x.want || ok != x.ok {
			t.Errorf("Get(%v, %q) = %v, %v, want %v, %v", x.l, x.key, r, ok, x.want, x.ok)
		}
	}
}

// P11.1: Fits of puts that fit, and each of its errors alone.
func TestFits(t *testing.T) {
	for _, x := range []struct {
		why string
		p   []api.Put
		e   api.Errno
	}{
		{"none", nil, api.OK},
		{"a list without elements", []api.Put{}, api.OK},
		{"one", puts("a=1"), api.OK},
		{"one that is Gone", puts("a-"), api.OK},
		{"of all kinds, in no order", puts("b=1, a-, d=, c=1"), api.OK},
		{"MaxPuts", manyPuts(api.MaxPuts), api.OK},
		{"one more", manyPuts(api.MaxPuts + 1), api.ErrBig},
		{"many more", manyPuts(3 * api.MaxPuts), api.ErrBig},
		{"one more, that is Gone", append(manyPuts(api.MaxPuts), puts("a-")...), api.ErrBig},
		{"a key of no byte", puts("=1"), api.ErrArg},
		{"a key of no byte, Gone", puts("-"), api.ErrArg},
		{"a key of no byte behind others", puts("a=1, b=2, =3"), api.ErrArg},
		{"a key of MaxKey bytes", []api.Put{{Key: text(api.MaxKey)}}, api.OK},
		{"a key of one more byte", []api.Put{{Key: text(api.MaxKey + 1)}}, api.ErrArg},
		{"a key of one more byte, Gone", []api.Put{{Key: text(api.MaxKey + 1), Gone: true}}, api.ErrArg},
		{"a key of one more byte behind others", []api.Put{{Key: "a"}, {Key: text(api.MaxKey + 1)}}, api.ErrArg},
		{"a key of MaxKey runes", []api.Put{{Key: strings.Repeat("é", api.MaxKey)}}, api.ErrArg},
		{"a value of no byte", puts("a="), api.OK},
		{"a value of MaxVal bytes", []api.Put{{Key: "a", Val: text(api.MaxVal)}}, api.OK},
		{"a value of one more byte", []api.Put{{Key: "a", Val: text(api.MaxVal + 1)}}, api.ErrArg},
		{"a value of one more byte behind others", []api.Put{{Key: "a"}, {Key: "b", Val: text(api.MaxVal + 1)}}, api.ErrArg},
		{"a value of MaxVal runes", []api.Put{{Key: "a", Val: strings.Repeat("é", api.MaxVal)}}, api.ErrArg},
		{"Gone, with a value", []api.Put{{Key: "a", Val: "1", Gone: true}}, api.ErrArg},
		{"Gone, with a value of a byte 0", []api.Put{{Key: "a", Val: "\x00", Gone: true}}, api.ErrArg},
		{"Gone, with a value, behind others", []api.Put{{Key: "a", Val: "1"}, {Key: "b", Gone: true}, {Key: "c", Val: "1", Gone: true}}, api.ErrArg},
		{"the same key", puts("a=1, a=2"), api.ErrArg},
		{"the same put", puts("a=1, a=1"), api.ErrArg},
		{"the same key, Gone", puts("a-, a-"), api.ErrArg},
		{"the same key, Gone and not", puts("a=1, a-"), api.ErrArg},
		{"the same key, Gone and then not", puts("a-, a=1"), api.ErrArg},
		{"the same key far behind", puts("a=1, b=2, c=3, d=4, e=5, f=6, g=7, a=8"), api.ErrArg},
		{"the same key at the end", puts("a=1, b=2, c=3, d=4, e=5, f=6, g=7, g=8"), api.ErrArg},
		{"the same value", puts("a=1, b=1"), api.OK},
		{"keys that are the beginning of others", puts("abc=1, ab=1, a=1"), api.OK},
		{"keys that differ in a byte 0", []api.Put{{Key: "a"}, {Key: "a\x00"}}, api.OK},
		{"keys that differ in a byte that is no rune", []api.Put{{Key: "\x80"}, {Key: "\xff"}, {Key: "\ufffd"}}, api.OK},
		// Two errors at once.
		{"one more, all of the same key", slices.Repeat(puts("a=1"), api.MaxPuts+1), api.ErrBig},
		{"one more, all of no byte", make([]api.Put, api.MaxPuts+1), api.ErrBig},
		{"one more, and a key of no byte ahead", append(puts("=1"), manyPuts(api.MaxPuts)...), api.ErrBig},
		{"one more, and a key that is too long", append([]api.Put{{Key: text(17)}}, manyPuts(api.MaxPuts)...), api.ErrBig},
		{"one more, and a value that is too long", append([]api.Put{{Key: "a", Val: text(33)}}, manyPuts(api.MaxPuts)...), api.ErrBig},
		{"one more, and Gone with a value", append(manyPuts(api.MaxPuts), api.Put{Key: "a", Val: "1", Gone: true}), api.ErrBig},
		{"the same key, of no byte", puts("=1, =2"), api.ErrArg},
		{"Gone with a value that is too long", []api.Put{{Key: "a", Val: text(33), Gone: true}}, api.ErrArg},
		{"a key and a value that are too long", []api.Put{{Key: text(17), Val: text(33)}}, api.ErrArg},
		{"MaxPuts of the same key", slices.Repeat(puts("a=1"), api.MaxPuts), api.ErrArg},
	} {
		if e := rows.Fits(x.p); e != x.e {
			t.Errorf("%s: Fits = %d, want %d", x.why, e, x.e)
		}
	}
}

// misfits are puts that do not fit, alone.
func misfits() []api.Put {
	return []api.Put{{}, {Gone: true}, {Val: "1"}, {Val: "1", Gone: true}, {Key: text(17)}, {Key: text(17), Gone: true}, {Key: text(4096), Val: "1"}, {Key: "a", Val: text(33)}, {Key: "a", Val: text(33), Gone: true}, {Key: "a", Val: text(4096)}, {Key: "a", Val: "1", Gone: true}, {Key: text(16), Val: "\x00", Gone: true}}
}

// P11.1: Fits looks at every element of puts of every number, and at every two.
func TestFitsLooksAtEach(t *testing.T) {
	for n := range api.MaxPuts + 1 {
		for i := range n {
			for _, x := range misfits() {
				p := manyPuts(n)
				p[i] = x
				if e := rows.Fits(p); e != api.ErrArg {
					t.Errorf("Fits of %d, of which the %d-th is %v, = %d", n, i, x, e)
				}
			}
			for k := range i {
				for _, gone := range []bool{false, true} {
					p := manyPuts(n)
					p[i] = api.Put{Key: p[k].Key, Gone: gone}
					if e := rows.Fits(p); e != api.ErrArg {
						t.Errorf("Fits of %d, of which the %d-th has the key of the %d-th, = %d", n, i, k, e)
					}
				}
			}
		}
	}
}

// done is what Do and All are to answer.
type done struct {
	why  string
	l    []api.Row
	p    []api.Put
	ver  uint64
	want []api.Row
	e    api.Errno
}

// checkDo holds Do of the only put to what it is to answer.
func checkDo(t *testing.T, all []done) {
	t.Helper()
	for _, x := range all {
		l, e := rows.Do(x.l, x.p[0], x.ver)
		if !slices.Equal(l, x.want) || e != x.e {
			t.Errorf("%s: Do(%v, %v, %d) = %v, %d, want %v, %d", x.why, x.l, x.p[0], x.ver, l, e, x.want, x.e)
		}
	}
}

// checkAll holds All to what it is to answer.
func checkAll(t *testing.T, all []done) {
	t.Helper()
	for _, x := range all {
		l, e := rows.All(x.l, x.p, x.ver)
		if !slices.Equal(l, x.want) || e != x.e {
			t.Errorf("%s: All(%v, %v, %d) = %v, %d, want %v, %d", x.why, x.l, x.p, x.ver, l, e, x.want, x.e)
		}
	}
}

// P11.2: Do of a put, and of one that is Gone, in lists that are right.
func TestDo(t *testing.T) {
	three := of("b 1 1, d 2 2, f 3 3")
	checkDo(t, []done{
		{"in nothing", nil, puts("a=1"), 7, of("a 1 7"), api.OK},
		{"in a list without rows", []api.Row{}, puts("a=1"), 7, of("a 1 7"), api.OK},
		{"ahead of all", three, puts("a=9"), 7, of("a 9 7, b 1 1, d 2 2, f 3 3"), api.OK},
		{"between the first two", three, puts("c=9"), 7, of("b 1 1, c 9 7, d 2 2, f 3 3"), api.OK},
		{"between the last two", three, puts("e=9"), 7, of("b 1 1, d 2 2, e 9 7, f 3 3"), api.OK},
		{"behind all", three, puts("g=9"), 7, of("b 1 1, d 2 2, f 3 3, g 9 7"), api.OK},
		{"there, first", three, puts("b=9"), 7, of("b 9 7, d 2 2, f 3 3"), api.OK},
		{"there, in the middle", three, puts("d=9"), 7, of("b 1 1, d 9 7, f 3 3"), api.OK},
		{"there, last", three, puts("f=9"), 7, of("b 1 1, d 2 2, f 9 7"), api.OK},
		{"there, the same value", three, puts("d=2"), 7, of("b 1 1, d 2 7, f 3 3"), api.OK},
		{"there, the same version", three, puts("d=9"), 2, of("b 1 1, d 9 2, f 3 3"), api.OK},
		{"there, a lesser version", three, puts("d=9"), 0, of("b 1 1, d 9 0, f 3 3"), api.OK},
		{"there, no value", three, puts("d="), 7, of("b 1 1, d  7, f 3 3"), api.OK},
		{"a key that is the beginning of one", of("ab 1 1"), puts("a=9"), 7, of("a 9 7, ab 1 1"), api.OK},
		{"a key of which one is the beginning", of("a 1 1, b 2 2"), puts("ab=9"), 7, of("a 1 1, ab 9 7, b 2 2"), api.OK},
		{"a byte of 0x80", keyed("a", "\x7f", "\xff"), []api.Put{{Key: "\x80", Val: "9"}}, 7, []api.Row{{Key: "a", Val: "v"}, {Key: "\x7f", Val: "v", Ver: 1}, {Key: "\x80", Val: "9", Ver: 7}, {Key: "\xff", Val: "v", Ver: 2}}, api.OK},
		{"a byte below 0x80", keyed("\x80", "\xff"), puts("z=9"), 7, []api.Row{{Key: "z", Val: "9", Ver: 7}, {Key: "\x80", Val: "v"}, {Key: "\xff", Val: "v", Ver: 1}}, api.OK},
		{"longest key and value", three, []api.Put{{Key: text(16), Val: text(32)}}, 7, append(of("b 1 1, d 2 2, f 3 3"), api.Row{Key: text(16), Val: text(32), Ver: 7}), api.OK},
		{"Gone, first", three, puts("b-"), 7, of("d 2 2, f 3 3"), api.OK},
		{"Gone, in the middle", three, puts("d-"), 7, of("b 1 1, f 3 3"), api.OK},
		{"Gone, last", three, puts("f-"), 7, of("b 1 1, d 2 2"), api.OK},
		{"Gone, the only one", of("a 1 1"), puts("a-"), 7, nil, api.OK},
		{"Gone, not there", three, puts("c-"), 7, three, api.OK},
		{"Gone, not there, ahead of all", three, puts("a-"), 7, three, api.OK},
		{"Gone, not there, behind all", three, puts("g-"), 7, three, api.OK},
		{"Gone, of nothing", nil, puts("a-"), 7, nil, api.OK},
		{"Gone, nearly the key", of("ab 1 1, b 2 2"), puts("a-"), 7, of("ab 1 1, b 2 2"), api.OK},
	})
}

// P11.2: Do of lists that are not right: the first row with the key counts, and the first one whose key is greater.
func TestDoOfAnyList(t *testing.T) {
	checkDo(t, []done{
		{"there twice", of("a 1 1, b 2 2, b 3 3, c 4 4"), puts("b=9"), 7, of("a 1 1, b 9 7, b 3 3, c 4 4"), api.OK},
		{"there three times, apart", of("b 1 1, a 2 2, b 3 3, c 4 4, b 5 5"), puts("b=9"), 7, of("b 9 7, a 2 2, b 3 3, c 4 4, b 5 5"), api.OK},
		{"there behind a greater one", of("c 1 1, b 2 2"), puts("b=9"), 7, of("c 1 1, b 9 7"), api.OK},
		{"there ahead of a lesser one", of("c 1 1, b 2 2, a 3 3"), puts("c=9"), 7, of("c 9 7, b 2 2, a 3 3"), api.OK},
		{"new, ahead of the first that is greater", of("d 1 1, a 2 2, e 3 3"), puts("c=9"), 7, of("c 9 7, d 1 1, a 2 2, e 3 3"), api.OK},
		{"new, ahead of the first that is greater, in the middle", of("a 1 1, d 2 2, b 3 3, e 4 4"), puts("c=9"), 7, of("a 1 1, c 9 7, d 2 2, b 3 3, e 4 4"), api.OK},
		{"new, none is greater", of("c 1 1, a 2 2, b 3 3"), puts("d=9"), 7, of("c 1 1, a 2 2, b 3 3, d 9 7"), api.OK},
		{"new, in a list that falls", of("e 1 1, c 2 2, a 3 3"), puts("b=9"), 7, of("b 9 7, e 1 1, c 2 2, a 3 3"), api.OK},
		{"new, among the same", of("a 1 1, a 2 2, c 3 3, c 4 4"), puts("b=9"), 7, of("a 1 1, a 2 2, b 9 7, c 3 3, c 4 4"), api.OK},
		{"Gone, there twice", of("a 1 1, b 2 2, b 3 3, c 4 4"), puts("b-"), 7, of("a 1 1, c 4 4"), api.OK},
		{"Gone, there three times, apart", of("b 1 1, a 2 2, b 3 3, c 4 4, b 5 5"), puts("b-"), 7, of("a 2 2, c 4 4"), api.OK},
		{"Gone, all rows", of("b 1 1, b 2 2, b 3 3"), puts("b-"), 7, nil, api.OK},
		{"Gone, not there", of("c 1 1, a 2 2, c 3 3"), puts("b-"), 7, of("c 1 1, a 2 2, c 3 3"), api.OK},
		{"a key of no byte", keyed("", "b"), puts("a=9"), 7, []api.Row{{Val: "v"}, {Key: "a", Val: "9", Ver: 7}, {Key: "b", Val: "v", Ver: 1}}, api.OK},
		{"a key that is too long", keyed(text(99)), puts("a=9"), 7, []api.Row{{Key: "a", Val: "9", Ver: 7}, {Key: text(99), Val: "v"}}, api.OK},
		{"a value that is too long, there", []api.Row{{Key: "a", Val: text(99), Ver: math.MaxUint64}}, puts("a=9"), 7, of("a 9 7"), api.OK},
		{"a value that is too long, beside", []api.Row{{Key: "b", Val: text(99), Ver: math.MaxUint64}}, puts("a=9"), 7, []api.Row{{Key: "a", Val: "9", Ver: 7}, {Key: "b", Val: text(99), Ver: math.MaxUint64}}, api.OK},
	})
}

// P11.2: Do takes any version: only a row that is Gone has none.
func TestDoVersions(t *testing.T) {
	for _, ver := range []uint64{0, 1, api.MaxNum - 1, api.MaxNum, api.MaxNum + 1, 1 << 63, math.MaxUint64} {
		checkDo(t, []done{
			{"new", of("b 1 1"), puts("a=9"), ver, []api.Row{{Key: "a", Val: "9", Ver: ver}, {Key: "b", Val: "1", Ver: 1}}, api.OK},
			{"there", of("b 1 1"), puts("b=9"), ver, []api.Row{{Key: "b", Val: "9", Ver: ver}}, api.OK},
			{"Gone", of("b 1 1, c 2 2"), puts("b-"), ver, of("c 2 2"), api.OK},
		})
		l, _ := rows.Do(of("b 1 1"), puts("a=9")[0], ver)
		if rows.Right(l) != (ver <= api.MaxNum) {
			t.Errorf("Right of %v", l)
		}
	}
}

// P11.2: Do of lists that have no room: ErrFull only of a key that is new and not Gone.
func TestDoFull(t *testing.T) {
	full, less := many(api.MaxRows), many(api.MaxRows-1)
	checkDo(t, []done{
		{"one row less, ahead", less, puts("a=9"), 7, slices.Insert(many(api.MaxRows-1), 0, api.Row{Key: "a", Val: "9", Ver: 7}), api.OK},
		{"one row less, between", less, puts("k1005=9"), 7, slices.Insert(many(api.MaxRows-1), 1, api.Row{Key: "k1005", Val: "9", Ver: 7}), api.OK},
		{"one row less, behind", less, puts("z=9"), 7, append(many(api.MaxRows-1), api.Row{Key: "z", Val: "9", Ver: 7}), api.OK},
		{"full, ahead", full, puts("a=9"), 7, nil, api.ErrFull},
		{"full, between", full, puts("k1005=9"), 7, nil, api.ErrFull},
		{"full, behind", full, puts("z=9"), 7, nil, api.ErrFull},
		{"full, Gone and not there", full, puts("z-"), 7, full, api.OK},
		{"more than full, new", many(api.MaxRows + 1), puts("z=9"), 7, nil, api.ErrFull},
		{"twice as full, new", many(2 * api.MaxRows), puts("a=9"), 7, nil, api.ErrFull},
		{"more than full, Gone and not there", many(api.MaxRows + 1), puts("z-"), 7, many(api.MaxRows + 1), api.OK},
		{"full of one key", slices.Repeat(of("a 1 1"), api.MaxRows), puts("b=9"), 7, nil, api.ErrFull},
		{"full of one key, there", slices.Repeat(of("a 1 1"), api.MaxRows), puts("a=9"), 7, changed(slices.Repeat(of("a 1 1"), api.MaxRows), 0, api.Row{Key: "a", Val: "9", Ver: 7}), api.OK},
		{"full of one key, Gone", slices.Repeat(of("a 1 1"), api.MaxRows), puts("a-"), 7, nil, api.OK},
	})
	for _, n := range []int{api.MaxRows, api.MaxRows + 1, 3 * api.MaxRows} {
		for i := range n {
			checkDo(t, []done{
				{"full, there", many(n), puts(kept(i) + "=9"), 7, changed(many(n), i, api.Row{Key: kept(i), Val: "9", Ver: 7}), api.OK},
				{"full, Gone", many(n), puts(kept(i) + "-"), 7, slices.Delete(many(n), i, i+1), api.OK},
			})
		}
	}
}

// P11.2: Do of a put that does not fit: no rows, whatever the list is, also where there would be no room.
func TestDoMisfits(t *testing.T) {
	for _, l := range [][]api.Row{nil, of("a 1 1"), keyed(""), keyed(text(17)), of("b 1 1, a 2 2, b 3 3"), many(api.MaxRows), many(api.MaxRows + 1)} {
		for _, p := range misfits() {
			checkDo(t, []done{{"a misfit", l, []api.Put{p}, 7, nil, api.ErrArg}})
		}
	}
}

// P11.3: All does those that are Gone first, and answers the first error.
func TestAll(t *testing.T) {
	three := of("b 1 1, d 2 2, f 3 3")
	checkAll(t, []done{
		{"the chapter's example", nil, puts("b=1, a=2"), 7, of("a 2 7, b 1 7"), api.OK},
		{"none", three, nil, 7, three, api.OK},
		{"a list without elements", three, []api.Put{}, 7, three, api.OK},
		{"none of nothing", nil, nil, 7, nil, api.OK},
		{"new, there and Gone", three, puts("d=9, c=8, b-"), 7, of("c 8 7, d 9 7, f 3 3"), api.OK},
		{"Gone ahead of others", three, puts("d-, a=8, g=9"), 7, of("a 8 7, b 1 1, f 3 3, g 9 7"), api.OK},
		{"Gone between others", three, puts("a=8, d-, g=9"), 7, of("a 8 7, b 1 1, f 3 3, g 9 7"), api.OK},
		{"Gone behind others", three, puts("g=9, a=8, d-"), 7, of("a 8 7, b 1 1, f 3 3, g 9 7"), api.OK},
		{"Gone, in turn", three, puts("b-, a=8, d-, g=9, f-"), 7, of("a 8 7, g 9 7"), api.OK},
		{"Gone alone", three, puts("f-, b-, d-"), 7, nil, api.OK},
		{"Gone and not there", three, puts("a-, d=9, c-"), 7, of("b 1 1, d 9 7, f 3 3"), api.OK},
		{"MaxPuts", three, puts("h=8, g=7, f=6, e=5, d=4, c=3, b=2, a=1"), 7, of("a 1 7, b 2 7, c 3 7, d 4 7, e 5 7, f 6 7, g 7 7, h 8 7"), api.OK},
		{"one version for all", nil, puts("a=1, b=2, c=3"), math.MaxUint64, []api.Row{{Key: "a", Val: "1", Ver: math.MaxUint64}, {Key: "b", Val: "2", Ver: math.MaxUint64}, {Key: "c", Val: "3", Ver: math.MaxUint64}}, api.OK},
		{"the version 0", of("a 1 9"), puts("a=2"), 0, of("a 2 0"), api.OK},
		{"keys with bytes of 0x80", nil, []api.Put{{Key: "\xff"}, {Key: "a"}, {Key: "\x80"}}, 0, []api.Row{{Key: "a"}, {Key: "\x80"}, {Key: "\xff"}}, api.OK},
		// Lists that are not right: in what order the puts are done is to be seen.
		{"there twice, Gone", of("b 1 1, a 2 2, b 3 3"), puts("a=9, b-"), 7, of("a 9 7"), api.OK},
		{"there twice", of("b 1 1, a 2 2, b 3 3"), puts("c=8, b=9"), 7, of("b 9 7, a 2 2, b 3 3, c 8 7"), api.OK},
		{"the others in their order: c, then b", of("d 1 1, a 2 2"), puts("c=8, b=9"), 7, of("b 9 7, c 8 7, d 1 1, a 2 2"), api.OK},
		{"the others in their order: b ahead of the c that falls", of("d 1 1, a 2 2, c 3 3"), puts("e=8, b=9"), 7, of("b 9 7, d 1 1, a 2 2, c 3 3, e 8 7"), api.OK},
		{"Gone is first to where others come", of("d 1 1, a 2 2, e 3 3"), puts("c=9, d-"), 7, of("a 2 2, c 9 7, e 3 3"), api.OK},
	})
}

// P11.3: All makes room by what is Gone; where there is none, the first error is answered, without rows.
func TestAllFull(t *testing.T) {
	full := many(api.MaxRows)
	swapped := append(many(api.MaxRows)[1:], api.Row{Key: "z", Val: "9", Ver: 7})
	misfit := api.Put{Key: "y", Val: text(33)}
	checkAll(t, []done{
		{"room by one that is Gone, ahead", full, puts("k100-, z=9"), 7, swapped, api.OK},
		{"room by one that is Gone, behind", full, puts("z=9, k100-"), 7, swapped, api.OK},
		{"room by one that is Gone, between", full, puts("z=9, k100-, k131=9"), 7, append(many(api.MaxRows - 1)[1:], of("k131 9 7, z 9 7")...), api.OK},
		{"room by one that is Gone, for one of two", full, puts("z=9, k100-, y=9"), 7, nil, api.ErrFull},
		{"one that is Gone makes none: it is not there", full, puts("a-, z=9"), 7, nil, api.ErrFull},
		{"no room", full, puts("z=9"), 7, nil, api.ErrFull},
		{"no room for the second", full, puts("k100=9, z=9"), 7, nil, api.ErrFull},
		{"no room for the first", full, puts("z=9, k100=9"), 7, nil, api.ErrFull},
		{"no room, all are there", full, puts("k100=9, k131=8"), 7, append(append(of("k100 9 7"), many(api.MaxRows - 1)[1:]...), of("k131 8 7")...), api.OK},
		{"room for one of two", many(api.MaxRows - 1), puts("y=8, z=9"), 7, nil, api.ErrFull},
		{"room for two of two", many(api.MaxRows - 2), puts("z=9, y=8"), 7, append(many(api.MaxRows-2), of("y 8 7, z 9 7")...), api.OK},
		{"room for all of MaxPuts", many(api.MaxRows - api.MaxPuts), manyPuts(api.MaxPuts), 7, append(many(api.MaxRows-api.MaxPuts), of("p0 0 7, p1 1 7, p2 2 7, p3 3 7, p4 4 7, p5 5 7, p6 6 7, p7 7 7")...), api.OK},
		{"room for all of MaxPuts but one", many(api.MaxRows - api.MaxPuts + 1), manyPuts(api.MaxPuts), 7, nil, api.ErrFull},
		{"room by all that is Gone", full, puts("w=1, x=2, k100-, y=3, k101-, z=4, k102-, k103-"), 7, append(many(api.MaxRows)[4:], of("w 1 7, x 2 7, y 3 7, z 4 7")...), api.OK},
		{"one too many, one that is Gone: full again", many(api.MaxRows + 1), puts("z=9, k100-"), 7, nil, api.ErrFull},
		{"one too many, two that are Gone", many(api.MaxRows + 1), puts("z=9, k101-, k100-"), 7, append(many(api.MaxRows + 1)[2:], of("z 9 7")...), api.OK},
		{"one too many, none is new", many(api.MaxRows + 1), puts("k100=9, a-"), 7, changed(many(api.MaxRows+1), 0, of("k100 9 7")[0]), api.OK},
		{"full of one key, Gone", slices.Repeat(of("a 1 1"), api.MaxRows+9), puts("c=8, b=9, a-"), 7, of("b 9 7, c 8 7"), api.OK},
		// What does not fit is told ahead of what has no room.
		{"no room, then a misfit", full, append(puts("z=9"), misfit), 7, nil, api.ErrArg},
		{"a misfit, then no room", full, append([]api.Put{misfit}, puts("z=9")...), 7, nil, api.ErrArg},
		{"no room, and the same key", full, puts("z=9, z=9"), 7, nil, api.ErrArg},
		{"no room, and too many", full, manyPuts(api.MaxPuts + 1), 7, nil, api.ErrBig},
	})
}

// P11.3: All of puts that do not fit: no rows, nothing is done.
func TestAllMisfits(t *testing.T) {
	for _, l := range [][]api.Row{nil, of("a 1 1"), of("b 1 1, a 2 2, b 3 3"), many(api.MaxRows)} {
		for _, x := range misfits() {
			checkAll(t, []done{
				{"a misfit", l, []api.Put{x}, 7, nil, api.ErrArg},
				{"a misfit behind another put", l, append(puts("b=1"), x), 7, nil, api.ErrArg},
				{"a misfit behind one that is Gone", l, append(puts("b-"), x), 7, nil, api.ErrArg},
				{"a misfit ahead of another put", l, append([]api.Put{x}, puts("b=1")...), 7, nil, api.ErrArg},
				{"a misfit, and too many", l, append([]api.Put{x}, manyPuts(api.MaxPuts)...), 7, nil, api.ErrBig},
			})
		}
		checkAll(t, []done{
			{"the same key", l, puts("a=1, b=2, a=3"), 7, nil, api.ErrArg},
			{"the same key, Gone and not", l, puts("a=1, b=2, a-"), 7, nil, api.ErrArg},
			{"the same key, Gone", l, puts("a-, b=2, a-"), 7, nil, api.ErrArg},
			{"too many", l, manyPuts(api.MaxPuts + 1), 7, nil, api.ErrBig},
		})
	}
}
