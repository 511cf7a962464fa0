package rows_test

import (
	"math"
	"math/bits"
	"math/rand"
	"slices"
	"strings"
	"testing"

	"ferrule/api"
	"ferrule/rows"
)

// plainNum are a number's bytes, by layer 1's Words.
func plainNum(v uint64) string {
	for tag := range 4 {
		size := 1 << tag
		if size < 8 && v >= 1<<(8*size-2) {
			continue
		}
		b := make([]byte, size)
		for i := range b {
			b[i] = byte(v >> (8 * (size - 1 - i)))
		}
		b[0] |= byte(tag << 6)
		return string(b)
	}
	return ""
}

// plainBytes are the bytes of rows, right or not.
func plainBytes(l []api.Row) string {
	s := plainNum(uint64(len(l)))
	for _, r := range l {
		s += plainNum(uint64(len(r.Key))) + r.Key + plainNum(uint64(len(r.Val))) + r.Val + plainNum(r.Ver)
	}
	return s
}

// plainTakeNum is the number whose bytes s begins with; false if there is none.
func plainTakeNum(s string) (uint64, string, bool) {
	for size := 1; size <= 8 && size <= len(s); size *= 2 {
		v := uint64(s[0] & 0x3f)
		for i := 1; i < size; i++ {
			v = v<<8 | uint64(s[i])
		}
		if plainNum(v) == s[:size] {
			return v, s[size:], true
		}
	}
	return 0, "", false
}

// plainTake is P11.4: false if s does not begin with the bytes of a right list.
func plainTake(s string) ([]api.Row, string, bool) {
	count, s, ok := plainTakeNum(s)
	var l []api.Row
	for ok && uint64(len(l)) < count {
		var part [2]string
		for i := range part {
			var n uint64
			n, s, ok = plainTakeNum(s)
			if !ok || n > uint64(len(s)) {
				return nil, "", false
			}
			part[i], s = s[:n], s[n:]
		}
		var ver uint64
		ver, s, ok = plainTakeNum(s)
		l = append(l, api.Row{Key: part[0], Val: part[1], Ver: ver})
	}
	if !ok || !plainRight(l) {
		return nil, "", false
	}
	return l, s, true
}

// takes holds Take to the rows, the rest and the error.
func takes(t *testing.T, why, s string, l []api.Row, rest string, e api.Errno) {
	t.Helper()
	got, gotRest, gotE := rows.Take(s)
	if !slices.Equal(got, l) || gotRest != rest || gotE != e {
		t.Fatalf("%s: Take(%x) = %v, %x, %d, want %v, %x, %d", why, s, got, gotRest, gotE, l, rest, e)
	}
}

// takesPlainly holds Take to plainTake, and tells whether there was a list.
func takesPlainly(t *testing.T, why, s string) bool {
	t.Helper()
	l, rest, ok := plainTake(s)
	if !ok {
		takes(t, why, s, nil, "", api.ErrForm)
		return false
	}
	takes(t, why, s, l, rest, api.OK)
	// What is taken is what Bytes gives: no list has two encodings.
	if b, e := rows.Bytes(l); b+rest != s || e != api.OK {
		t.Fatalf("%s: %x has a list whose bytes are %x", why, s, b)
	}
	return true
}

// roundTrip holds a right list to its bytes, with something behind them.
func roundTrip(t *testing.T, l []api.Row, rest string) {
	t.Helper()
	b, e := rows.Bytes(l)
	if b != plainBytes(l) || e != api.OK {
		t.Fatalf("Bytes(%v) = %x, %d", l, b, e)
	}
	takes(t, "its bytes", b, l, "", api.OK)
	takes(t, "its bytes, and more", b+rest, l, rest, api.OK)
}

// greatest is a right list than which none has more bytes.
func greatest() []api.Row {
	var l []api.Row
	for i := range api.MaxRows {
		l = append(l, api.Row{Key: strings.Repeat("\xff", api.MaxKey-1) + string([]byte{0xe0 + byte(i)}), Val: strings.Repeat("\xff", api.MaxVal), Ver: api.MaxNum})
	}
	return l
}

// P11.4: Bytes of right lists, written out.
func TestBytes(t *testing.T) {
	for _, x := range []struct {
		l []api.Row
		s string
	}{
		{nil, "\x00"},
		{[]api.Row{}, "\x00"},
		{of("a 2 7, b 1 7"), "\x02\x01a\x012\x07\x01b\x011\x07"},
		{of("a  0"), "\x01\x01a\x00\x00"},
		{of("ab cde 63"), "\x01\x02ab\x03cde\x3f"},
		{of("ab cde 64"), "\x01\x02ab\x03cde\x40\x40"},
		{of("a 1 16384, ab 2 1073741824"), "\x02\x01a\x011\x80\x00\x40\x00\x02ab\x012\xc0\x00\x00\x00\x40\x00\x00\x00"},
		{[]api.Row{{Key: "\x00", Val: "\x80\xff", Ver: api.MaxNum}}, "\x01\x01\x00\x02\x80\xff\xff\xff\xff\xff\xff\xff\xff\xff"},
		{[]api.Row{{Key: text(16), Val: text(32), Ver: 1}}, "\x01\x10" + text(16) + "\x20" + text(32) + "\x01"},
		{keyed("a", "\x7f", "\x80", "\xff"), "\x04\x01a\x01v\x00\x01\x7f\x01v\x01\x01\x80\x01v\x02\x01\xff\x01v\x03"},
	} {
		if s, e := rows.Bytes(x.l); s != x.s || e != api.OK {
			t.Errorf("Bytes(%v) = %x, %d, want %x", x.l, s, e, x.s)
		}
		roundTrip(t, x.l, "")
	}
	for n := range api.MaxRows + 1 {
		roundTrip(t, many(n), "more")
	}
	roundTrip(t, greatest(), "more")
	if s, _ := rows.Bytes(many(api.MaxRows)); s[0] != api.MaxRows {
		t.Errorf("Bytes of MaxRows rows begin with %x", s[0])
	}
}

// wrongLists are lists that are not right, most of them for one reason only.
func wrongLists() [][]api.Row {
	all := [][]api.Row{many(api.MaxRows + 1), many(2 * api.MaxRows), many(99)}
	for _, keys := range [][]string{{""}, {"", "a"}, {text(17)}, {"a", text(17)}, {text(4096)}, {"a", "a"}, {"a", "b", "b"}, {"a", "b", "a"}, {"b", "a"}, {"a", "c", "b"}, {"ab", "a"}, {"\x80", "\x7f"}, {"\xff", "a"}, {"\xff", "\xff"}} {
		all = append(all, keyed(keys...))
	}
	for _, r := range []api.Row{{Key: "c", Val: text(33)}, {Key: "c", Val: text(4096)}} {
		all = append(all, []api.Row{r}, append(of("a 1 1, b 2 2"), r), append([]api.Row{r}, of("d 1 1, e 2 2")...))
	}
	return all
}

// P11.4: Bytes of lists that are not right.
func TestBytesOfWrongLists(t *testing.T) {
	all := wrongLists()
	for _, ver := range []uint64{api.MaxNum + 1, 1 << 63, math.MaxUint64} {
		all = append(all, []api.Row{{Key: "a", Ver: ver}}, []api.Row{{Key: "a"}, {Key: "b", Ver: ver}}, []api.Row{{Key: "a", Ver: ver}, {Key: "b"}})
	}
	all = append(all, keyed(text(4097)), []api.Row{{Key: "a", Val: text(4097)}}, slices.Repeat(of("a 1 1"), 1<<16))
	for _, l := range all {
		if s, e := rows.Bytes(l); s != "" || e != api.ErrArg {
			t.Errorf("Bytes of %d rows = %x, %d, want ErrArg", len(l), s, e)
		}
	}
}

// P11.4: Take of bytes, written out: whole ones with bytes behind them, and such as no right list has.
func TestTake(t *testing.T) {
	row := "\x01a\x011\x07"
	for _, x := range []struct {
		why, s string
		l      []api.Row
		rest   string
		e      api.Errno
	}{
		{"no row", "\x00", nil, "", api.OK},
		{"no row, and more", "\x00" + row, nil, row, api.OK},
		{"no row, and no number behind it", "\x00\xff", nil, "\xff", api.OK},
		{"one row", "\x01" + row, of("a 1 7"), "", api.OK},
		{"one row, and another one behind it", "\x01" + row + row, of("a 1 7"), row, api.OK},
		{"one row, and itself behind it", "\x01" + row + "\x01" + row, of("a 1 7"), "\x01" + row, api.OK},
		{"the chapter's example", "\x02\x01a\x012\x07\x01b\x011\x07", of("a 2 7, b 1 7"), "", api.OK},
		{"a key that is the beginning of the next one", "\x02" + row + "\x02ab\x00\x00z", of("a 1 7, ab  0"), "z", api.OK},
		{"bytes of 0x80 and above", "\x02\x01\x80\x00\x00\x01\xff\x01\xfe\x00", []api.Row{{Key: "\x80"}, {Key: "\xff", Val: "\xfe"}}, "", api.OK},
		{"a Ver of MaxNum", "\x01\x01a\x00\xff\xff\xff\xff\xff\xff\xff\xff", []api.Row{{Key: "a", Ver: api.MaxNum}}, "", api.OK},
		{"longest key and value", "\x01\x10" + text(16) + "\x20" + text(32) + "\x00", []api.Row{{Key: text(16), Val: text(32)}}, "", api.OK},
		{"MaxRows rows", plainBytes(many(api.MaxRows)) + row, many(api.MaxRows), row, api.OK},

		{"nothing", "", nil, "", api.ErrForm},
		{"a number that is cut off", "\x40", nil, "", api.ErrForm},
		{"a count without rows", "\x01", nil, "", api.ErrForm},
		{"one row of two", "\x02" + row, nil, "", api.ErrForm},
		{"the greatest count, without rows", "\xff\xff\xff\xff\xff\xff\xff\xff", nil, "", api.ErrForm},
		{"a count of 2^32, without rows", "\xc0\x00\x00\x01\x00\x00\x00\x00", nil, "", api.ErrForm},
		{"a count of one too many, without rows", "\x21", nil, "", api.ErrForm},
		{"a count of one too many, and its rows", plainBytes(many(api.MaxRows + 1)), nil, "", api.ErrForm},
		{"a count of 2^32 + 1, and a row", "\xc0\x00\x00\x01\x00\x00\x00\x01" + row, nil, "", api.ErrForm},
		// Numbers and texts that are not in their one form.
		{"a count of two bytes", "\x40\x01" + row, nil, "", api.ErrForm},
		{"a count of none of two bytes", "\x40\x00", nil, "", api.ErrForm},
		{"a count of four bytes", "\x80\x00\x00\x01" + row, nil, "", api.ErrForm},
		{"a count of eight bytes", "\xc0\x00\x00\x00\x00\x00\x00\x01" + row, nil, "", api.ErrForm},
		{"a key's length of two bytes", "\x01\x40\x01a\x011\x07", nil, "", api.ErrForm},
		{"a value's length of two bytes", "\x01\x01a\x40\x011\x07", nil, "", api.ErrForm},
		{"a value's length of none of four bytes", "\x01\x01a\x80\x00\x00\x00\x07", nil, "", api.ErrForm},
		{"a version of two bytes", "\x01\x01a\x011\x40\x07", nil, "", api.ErrForm},
		{"a version of eight bytes", "\x01\x01a\x011\xc0\x00\x00\x00\x3f\xff\xff\xff", nil, "", api.ErrForm},
		{"a second row's key's length of two bytes", "\x02" + row + "\x40\x01b\x00\x00", nil, "", api.ErrForm},
		{"a second row's version of two bytes", "\x02" + row + "\x01b\x00\x40\x00", nil, "", api.ErrForm},
		{"a key that is cut off", "\x01\x02a", nil, "", api.ErrForm},
		{"a value that is cut off", "\x01\x01a\x021", nil, "", api.ErrForm},
		{"a version that is cut off", "\x01\x01a\x011\x40", nil, "", api.ErrForm},
		{"no value", "\x01\x01a", nil, "", api.ErrForm},
		{"no version", "\x01\x01a\x011", nil, "", api.ErrForm},
		{"a key above MaxText", "\x01\x50\x01" + text(4097) + "\x00\x00", nil, "", api.ErrForm},
		{"a value above MaxText", "\x01\x01a\x50\x01" + text(4097) + "\x00", nil, "", api.ErrForm},
		// Rows that are not right.
		{"a key of no byte", "\x01\x00\x011\x07", nil, "", api.ErrForm},
		{"a key of one byte too many", "\x01\x11" + text(17) + "\x00\x00", nil, "", api.ErrForm},
		{"a value of one byte too many", "\x01\x01a\x21" + text(33) + "\x00", nil, "", api.ErrForm},
		{"the same key", "\x02" + row + row, nil, "", api.ErrForm},
		{"the same key, and more", "\x02" + row + row + row, nil, "", api.ErrForm},
		{"keys that fall", "\x02\x01b\x00\x00" + row, nil, "", api.ErrForm},
		{"keys that fall to a beginning", "\x02\x02ab\x00\x00" + row, nil, "", api.ErrForm},
		{"keys that fall at the end", "\x03" + row + "\x01c\x00\x00\x01b\x00\x00", nil, "", api.ErrForm},
		{"keys that fall from 0x80", "\x02\x01\x80\x00\x00" + row, nil, "", api.ErrForm},
	} {
		takes(t, x.why, x.s, x.l, x.rest, x.e)
	}
	for _, l := range wrongLists() {
		takes(t, "a wrong list", plainBytes(l), nil, "", api.ErrForm)
		takes(t, "a wrong list, and more", plainBytes(l)+row, nil, "", api.ErrForm)
	}
}

// encoded are right lists of several lengths, for bytes that are cut off or changed.
func encoded() [][]api.Row {
	return [][]api.Row{nil, of("a  0"), of("a 2 7, b 1 7"), of("a 1 64, ab  16384, b 33 1073741824"), keyed("\x00", "\x7f", "\x80", "\xff\xff"), many(5), many(api.MaxRows), greatest()}
}

// P11.4: Take of bytes that are cut off anywhere: they begin with no list.
func TestTakeCut(t *testing.T) {
	for _, l := range encoded() {
		b, _ := rows.Bytes(l)
		for n := range len(b) {
			takes(t, "cut off", b[:n], nil, "", api.ErrForm)
		}
	}
}

// P11.4: Take of bytes of which one was changed, dropped or doubled, held against plain words.
func TestTakeChanged(t *testing.T) {
	for _, l := range encoded() {
		b, _ := rows.Bytes(l)
		for i := range len(b) {
			for x := range 256 {
				// In long ones one bit is changed, so that the test is done soon.
				if len(b) < 100 || bits.OnesCount8(b[i]^byte(x)) == 1 {
					takesPlainly(t, "changed", b[:i]+string([]byte{byte(x)})+b[i+1:])
				}
			}
			takesPlainly(t, "dropped", b[:i]+b[i+1:])
			takesPlainly(t, "doubled", b[:i+1]+b[i:])
		}
	}
}

// P11.4: Take of all short bytes, of few values each, held against plain words.
func TestTakeShort(t *testing.T) {
	for _, x := range []struct {
		values string
		most   int
	}{
		{"\x00\x01\x02", 10},
		{"\x00\x01\x02\x03\x40\x41\x80\xff", 6},
		{"\x00\x01\x02a\xc0", 7},
	} {
		taken, rowsTaken := 0, map[int]bool{}
		for _, b := range listsOf(x.most, []byte(x.values)...) {
			if s := string(b); takesPlainly(t, "short", s) {
				taken++
				rowsTaken[int(s[0])] = true
			}
		}
		if taken < 100 || !rowsTaken[0] || !rowsTaken[1] || x.most > 8 && !rowsTaken[2] {
			t.Errorf("of %x only %d were lists: %v", x.values, taken, rowsTaken)
		}
	}
}

// P11.4: Take of mixed bytes: some of lists, behind one another, some of none.
func TestTakeMixed(t *testing.T) {
	r := rand.New(rand.NewSource(4))
	for range 20000 {
		l := mixedList(r, mixedKeys(r, r.Intn(api.MaxRows+1)))
		rest := plainBytes(mixedList(r, mixedKeys(r, r.Intn(3)))) + mixedText(r, 0, 20)
		roundTrip(t, l, rest)
		b := []byte(plainBytes(l) + rest)
		for range 1 + r.Intn(3) {
			b[r.Intn(len(b))] = byte(r.Intn(256))
		}
		takesPlainly(t, "mixed", string(b))
		takesPlainly(t, "of any place", plainBytes(l)[r.Intn(len(plainBytes(l))):])
	}
}

// P11.4: two right lists that differ have bytes of which neither begins with the other's.
func TestBytesDiffer(t *testing.T) {
	var few []api.Row
	for _, key := range []string{"a", "\x01", "aa"} {
		for _, val := range []string{"", "\x01", "a\x00"} {
			few = append(few, api.Row{Key: key, Val: val}, api.Row{Key: key, Val: val, Ver: 64})
		}
	}
	all := listsOf(2, few...)
	all = slices.DeleteFunc(all, func(l []api.Row) bool { return !rows.Right(l) })
	for i, l := range all {
		b, _ := rows.Bytes(l)
		for k, m := range all {
			if c, _ := rows.Bytes(m); i != k && strings.HasPrefix(c, b) {
				t.Fatalf("the bytes of %v begin with those of %v", m, l)
			}
		}
	}
}
