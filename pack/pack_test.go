package pack_test

import (
	"math"
	"slices"
	"strings"
	"testing"

	"ferrule/api"
	"ferrule/pack"
)

// coded is a number and its encoding.
type coded struct {
	v uint64
	s string
}

// edges are the numbers around each change of size, with their encodings written out.
func edges() []coded {
	return []coded{
		{0, "\x00"},
		{1, "\x01"},
		{5, "\x05"},
		{1<<6 - 1, "\x3f"},
		{1 << 6, "\x40\x40"},
		{0x1234, "\x52\x34"},
		{1<<14 - 1, "\x7f\xff"},
		{1 << 14, "\x80\x00\x40\x00"},
		{0x12345678, "\x92\x34\x56\x78"},
		{1<<30 - 1, "\xbf\xff\xff\xff"},
		{1 << 30, "\xc0\x00\x00\x00\x40\x00\x00\x00"},
		{1 << 32, "\xc0\x00\x00\x01\x00\x00\x00\x00"},
		{0x123456789abcdef0, "\xd2\x34\x56\x78\x9a\xbc\xde\xf0"},
		{api.MaxNum - 1, "\xff\xff\xff\xff\xff\xff\xff\xfe"},
		{api.MaxNum, "\xff\xff\xff\xff\xff\xff\xff\xff"},
	}
}

// tooBig are numbers above MaxNum.
func tooBig() []uint64 {
	return []uint64{api.MaxNum + 1, 1<<62 + 5, 1 << 63, math.MaxUint64}
}

// samples are numbers of all sizes: the edges, the neighbours of each power of two, and some between.
func samples() []uint64 {
	var l []uint64
	for _, x := range edges() {
		l = append(l, x.v)
	}
	for shift := range 62 {
		p := uint64(1) << shift
		l = append(l, p-1, p, p+1, p|p>>1, p|p>>3|1)
	}
	x := uint64(1)
	for shift := range 62 {
		x = x*6364136223846793005 + 1442695040888963407
		l = append(l, x>>2>>shift)
	}
	l = slices.DeleteFunc(l, func(v uint64) bool { return v > api.MaxNum })
	slices.Sort(l)
	return slices.Compact(l)
}

// num is the encoding of a number that has one.
func num(t *testing.T, v uint64) string {
	t.Helper()
	s, e := pack.Num(v)
	if e != api.OK {
		t.Fatalf("Num(%d): error %d", v, e)
	}
	return s
}

// P1.1: Size.
func TestSize(t *testing.T) {
	for _, x := range edges() {
		if n := pack.Size(x.v); n != len(x.s) {
			t.Errorf("Size(%d) = %d, want %d", x.v, n, len(x.s))
		}
	}
	for _, v := range tooBig() {
		if n := pack.Size(v); n != 0 {
			t.Errorf("Size(%d) = %d, want 0", v, n)
		}
	}
}

// P1.1: Num.
func TestNum(t *testing.T) {
	for _, x := range edges() {
		if s, e := pack.Num(x.v); s != x.s || e != api.OK {
			t.Errorf("Num(%d) = %x, %d, want %x", x.v, s, e, x.s)
		}
	}
	for _, v := range tooBig() {
		if s, e := pack.Num(v); s != "" || e != api.ErrBig {
			t.Errorf("Num(%d) = %x, %d, want ErrBig", v, s, e)
		}
	}
}

// P1.1: Text.
func TestText(t *testing.T) {
	for _, x := range []struct{ head, text string }{
		{"\x00", ""},
		{"\x02", "ab"},
		{"\x04", "\x00\xff\x80\x00"},
		{"\x3f", strings.Repeat("a", 63)},
		{"\x40\x40", strings.Repeat("a", 64)},
		{"\x4f\xff", strings.Repeat("a", api.MaxText-1)},
		{"\x50\x00", strings.Repeat("a", api.MaxText)},
	} {
		if s, e := pack.Text(x.text); s != x.head+x.text || e != api.OK {
			t.Errorf("Text of %d bytes = %d bytes, %d", len(x.text), len(s), e)
		}
	}
	for _, n := range []int{api.MaxText + 1, 2 * api.MaxText, 1 << 20} {
		if s, e := pack.Text(strings.Repeat("a", n)); s != "" || e != api.ErrBig {
			t.Errorf("Text of %d bytes = %d bytes, %d, want ErrBig", n, len(s), e)
		}
	}
}

// P1.1: Nums.
func TestNums(t *testing.T) {
	for _, x := range []struct {
		l []uint64
		s string
	}{
		{nil, "\x00"},
		{[]uint64{}, "\x00"},
		{[]uint64{0}, "\x01\x00"},
		{[]uint64{1, 64}, "\x02\x01\x40\x40"},
		{[]uint64{api.MaxNum, 1 << 14, 5}, "\x03\xff\xff\xff\xff\xff\xff\xff\xff\x80\x00\x40\x00\x05"},
		{make([]uint64, 63), "\x3f" + strings.Repeat("\x00", 63)},
		{make([]uint64, 64), "\x40\x40" + strings.Repeat("\x00", 64)},
		{make([]uint64, 1<<14), "\x80\x00\x40\x00" + strings.Repeat("\x00", 1<<14)},
	} {
		if s, e := pack.Nums(x.l); s != x.s || e != api.OK {
			t.Errorf("Nums of %d elements = %d bytes, %d", len(x.l), len(s), e)
		}
	}
	for _, v := range tooBig() {
		for _, l := range [][]uint64{{v}, {v, 1, 2}, {1, v, 2}, {1, 2, v}} {
			if s, e := pack.Nums(l); s != "" || e != api.ErrBig {
				t.Errorf("Nums(%d) = %x, %d, want ErrBig", l, s, e)
			}
		}
	}
}

// P1.1, R3: Nums doesn't write to its list.
func TestNumsLeavesItsList(t *testing.T) {
	l := []uint64{3, 1 << 20, 2}
	for range 2 {
		if s, e := pack.Nums(l[:2]); s != "\x02\x03\x80\x10\x00\x00" || e != api.OK {
			t.Errorf("%x, %d", s, e)
		}
	}
	if !slices.Equal(l, []uint64{3, 1 << 20, 2}) {
		t.Errorf("the list became %d", l)
	}
}

// P1.2: TakeNum of whole encodings, whatever follows.
func TestTakeNum(t *testing.T) {
	for _, x := range edges() {
		for _, rest := range []string{"", "\x00", "\xff", "zz", x.s} {
			if v, r, e := pack.TakeNum(x.s + rest); v != x.v || r != rest || e != api.OK {
				t.Errorf("TakeNum(%x then %x) = %d, %x, %d", x.s, rest, v, r, e)
			}
		}
	}
}

// P1.2: TakeNum of too few bytes: ErrMore, even where the number would have a shorter encoding.
func TestTakeNumMore(t *testing.T) {
	short := []string{"", "\x40", "\x80", "\x80\x00", "\x80\x00\x00", "\xc0", "\xc0\x00\x00\x00", "\xc0\x00\x00\x00\x00\x00\x00"}
	for _, x := range edges() {
		for n := range len(x.s) {
			short = append(short, x.s[:n])
		}
	}
	for _, s := range short {
		if v, r, e := pack.TakeNum(s); v != 0 || r != "" || e != api.ErrMore {
			t.Errorf("TakeNum(%x) = %d, %x, %d, want ErrMore", s, v, r, e)
		}
	}
}

// P1.2: TakeNum of encodings that are longer than is needed.
func TestTakeNumForm(t *testing.T) {
	for _, s := range []string{
		"\x40\x00", "\x40\x05", "\x40\x3f",
		"\x80\x00\x00\x00", "\x80\x00\x00\x3f", "\x80\x00\x00\x40", "\x80\x00\x3f\xff",
		"\xc0\x00\x00\x00\x00\x00\x00\x00", "\xc0\x00\x00\x00\x00\x00\x00\x01", "\xc0\x00\x00\x00\x00\x00\x00\x40",
		"\xc0\x00\x00\x00\x00\x00\x40\x00", "\xc0\x00\x00\x00\x3f\xff\xff\xff",
	} {
		for _, rest := range []string{"", "\x01", "zzzzzzzz"} {
			if v, r, e := pack.TakeNum(s + rest); v != 0 || r != "" || e != api.ErrForm {
				t.Errorf("TakeNum(%x then %x) = %d, %x, %d, want ErrForm", s, rest, v, r, e)
			}
		}
	}
}

// P1.2: TakeText.
func TestTakeText(t *testing.T) {
	most := strings.Repeat("b", api.MaxText)
	for _, x := range []struct {
		s, text, rest string
		e             api.Errno
	}{
		{"\x00", "", "", api.OK},
		{"\x00ab", "", "ab", api.OK},
		{"\x02ab", "ab", "", api.OK},
		{"\x02abc", "ab", "c", api.OK},
		{"\x03\x00\xff\x80\x01", "\x00\xff\x80", "\x01", api.OK},
		{"\x50\x00" + most, most, "", api.OK},
		{"\x50\x00" + most + "c", most, "c", api.OK},
		{"", "", "", api.ErrMore},
		{"\x40", "", "", api.ErrMore},
		{"\x01", "", "", api.ErrMore},
		{"\x03ab", "", "", api.ErrMore},
		{"\x50\x00" + most[1:], "", "", api.ErrMore},
		{"\x40\x02ab", "", "", api.ErrForm},
		{"\x80\x00\x10\x01" + most + "b", "", "", api.ErrForm},
		{"\x50\x01", "", "", api.ErrBig},
		{"\x50\x01" + most + "b", "", "", api.ErrBig},
		{"\x7f\xff", "", "", api.ErrBig},
		{"\xff\xff\xff\xff\xff\xff\xff\xff", "", "", api.ErrBig},
	} {
		text, rest, e := pack.TakeText(x.s)
		if text != x.text || rest != x.rest || e != x.e {
			t.Errorf("TakeText of %d bytes %.12x = %d bytes, %d bytes, %d, want error %d", len(x.s), x.s, len(text), len(rest), e, x.e)
		}
	}
}

// P1.2: TakeNums of whole lists.
func TestTakeNums(t *testing.T) {
	for _, x := range []struct {
		s    string
		most int
		l    []uint64
		rest string
	}{
		{"\x00", 0, nil, ""},
		{"\x00\x05", 0, nil, "\x05"},
		{"\x00\x40\x05", 9, nil, "\x40\x05"},
		{"\x01\x05", 1, []uint64{5}, ""},
		{"\x02\x01\x40\x40c", 2, []uint64{1, 64}, "c"},
		{"\x02\x01\x40\x40c", math.MaxInt, []uint64{1, 64}, "c"},
		{"\x03\x01\x01\x00\x02", 3, []uint64{1, 1, 0}, "\x02"},
		{"\x40\x40" + strings.Repeat("\x00", 64), 64, make([]uint64, 64), ""},
	} {
		l, rest, e := pack.TakeNums(x.s, x.most)
		if !slices.Equal(l, x.l) || rest != x.rest || e != api.OK {
			t.Errorf("TakeNums(%x, %d) = %d, %x, %d", x.s, x.most, l, rest, e)
		}
	}
}

// P1.2: TakeNums of wrong bytes, and which error comes first.
func TestTakeNumsWrong(t *testing.T) {
	for _, x := range []struct {
		s    string
		most int
		e    api.Errno
	}{
		{"", 5, api.ErrMore},
		{"\x40", 5, api.ErrMore},
		{"\x40\x02\x01\x01", 5, api.ErrForm},
		{"", -1, api.ErrMore},
		{"\x40\x02\x01\x01", -1, api.ErrForm},
		{"\x00", -1, api.ErrBig},
		{"\x01\x05", -1, api.ErrBig},
		{"\x00", math.MinInt, api.ErrBig},
		{"\x01\x05", 0, api.ErrBig},
		{"\x02\x01\x02", 1, api.ErrBig},
		{"\x02", 1, api.ErrBig},
		{"\x02\x40\x05\x01", 1, api.ErrBig},
		{"\xff\xff\xff\xff\xff\xff\xff\xff", math.MaxInt32, api.ErrBig},
		{"\x02", 2, api.ErrMore},
		{"\x02\x01", 2, api.ErrMore},
		{"\x02\x01\x40", 2, api.ErrMore},
		{"\xbf\xff\xff\xff\x01\x02", math.MaxInt, api.ErrMore},
		{"\x02\x01\x40\x05", 2, api.ErrForm},
		{"\x03\x01\x40\x05", 3, api.ErrForm},
		{"\x02\x40\x05\x80", 2, api.ErrForm},
	} {
		l, rest, e := pack.TakeNums(x.s, x.most)
		if len(l) != 0 || rest != "" || e != x.e {
			t.Errorf("TakeNums(%x, %d) = %d, %x, %d, want error %d", x.s, x.most, l, rest, e, x.e)
		}
	}
}

// R3: no list that TakeNums returns is changed by what is done to another one.
func TestTakeNumsSharesNothing(t *testing.T) {
	s := "\x03\x01\x02\x03"
	a, _, _ := pack.TakeNums(s, 3)
	b, _, _ := pack.TakeNums(s, 3)
	a[0] = 9
	_ = append(a[:1], 9)
	if c, _, _ := pack.TakeNums(s, 3); !slices.Equal(b, []uint64{1, 2, 3}) || !slices.Equal(c, b) {
		t.Errorf("%d, %d", b, c)
	}
}

// P1.3: what was encoded is taken back, whatever follows it.
func TestBackAgain(t *testing.T) {
	all := samples()
	for _, rest := range []string{"", "\x00", "\x3f", "\x40", "\xff", "the rest"} {
		for _, v := range all {
			if got, r, e := pack.TakeNum(num(t, v) + rest); got != v || r != rest || e != api.OK {
				t.Errorf("%d came back as %d, %x, %d", v, got, r, e)
			}
		}
		for _, n := range []int{0, 1, 2, 62, 63, 64, 65, 4095, api.MaxText} {
			text := strings.Repeat("\xc0\x00", n)[:n]
			s, _ := pack.Text(text)
			if got, r, e := pack.TakeText(s + rest); got != text || r != rest || e != api.OK {
				t.Errorf("a text of %d bytes came back as %d bytes, %x, %d", n, len(got), r, e)
			}
		}
		for _, n := range []int{0, 1, 2, 63, 64, 65, len(all)} {
			s, _ := pack.Nums(all[:n])
			if got, r, e := pack.TakeNums(s+rest, n); !slices.Equal(got, all[:n]) || r != rest || e != api.OK {
				t.Errorf("a list of %d came back as %d, %x, %d", n, got, r, e)
			}
		}
	}
}

// P1.3: texts, lists and numbers, one behind another, come back in turn.
func TestBackAgainInTurn(t *testing.T) {
	text, _ := pack.Text("ab\x00")
	list, _ := pack.Nums([]uint64{7, 1 << 30})
	s := num(t, 1<<14) + text + list + num(t, 9)
	v, s, e1 := pack.TakeNum(s)
	x, s, e2 := pack.TakeText(s)
	l, s, e3 := pack.TakeNums(s, 2)
	w, s, e4 := pack.TakeNum(s)
	if v != 1<<14 || x != "ab\x00" || !slices.Equal(l, []uint64{7, 1 << 30}) || w != 9 || s != "" {
		t.Errorf("%d, %q, %d, %d, %q", v, x, l, w, s)
	}
	if e1 != api.OK || e2 != api.OK || e3 != api.OK || e4 != api.OK {
		t.Errorf("errors %d, %d, %d, %d", e1, e2, e3, e4)
	}
}

// P1.3: each number has exactly one encoding: whatever bytes are taken as a number are those that Num gives.
func TestOneEncoding(t *testing.T) {
	seen := map[uint64]string{}
	try := func(s string) {
		v, rest, e := pack.TakeNum(s)
		if e != api.OK {
			return
		}
		used := s[:len(s)-len(rest)]
		if was, ok := seen[v]; ok && was != used {
			t.Errorf("%d is taken of %x and of %x", v, was, used)
		}
		seen[v] = used
		if got := num(t, v); got != used {
			t.Errorf("%x is taken as %d, whose encoding is %x", used, v, got)
		}
	}
	for b := range 1 << 16 {
		try(string([]byte{byte(b >> 8)}))
		try(string([]byte{byte(b >> 8), byte(b)}))
	}
	for _, v := range samples() {
		for _, head := range []byte{2 << 6, 3 << 6} {
			n := 1 << (head >> 6)
			s := make([]byte, n)
			for i := range n {
				s[i] = byte(v >> (8 * (n - 1 - i)))
			}
			s[0] = s[0]&0x3f | head
			try(string(s))
		}
	}
}

// P1.3: no encoding is a proper prefix of another one.
func TestNoPrefix(t *testing.T) {
	var codes []string
	for _, v := range samples() {
		codes = append(codes, num(t, v))
	}
	for i, a := range codes {
		for k, b := range codes {
			if i != k && strings.HasPrefix(b, a) {
				t.Errorf("%x is a prefix of %x", a, b)
			}
		}
	}
}

// P1.3: encodings of one size are ordered like their numbers.
func TestOrder(t *testing.T) {
	all := samples()
	for i, v := range all[1:] {
		a, b := num(t, all[i]), num(t, v)
		if len(a) == len(b) && a >= b {
			t.Errorf("%d < %d, but not %x < %x", all[i], v, a, b)
		}
	}
}
