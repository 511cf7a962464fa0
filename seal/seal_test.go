package seal_test

import (
	"hash/adler32"
	"slices"
	"strings"
	"testing"

	"ferrule/api"
	"ferrule/pack"
	"ferrule/seal"
)

// rests are what may follow a sealed text.
func rests() []string {
	return []string{"", "\x00", "\x05x", "\xff", "\x00\x00\x01\x00\x01", "the rest, longer than a sum"}
}

// texts are of all sizes of a length's encoding, and of bytes that take the sum's halves to 65521.
func texts() []string {
	return []string{
		"",
		"\x00",
		"\xff",
		"hello",
		"\x05hello\x00\xff\x80",
		strings.Repeat("a", 1<<6-1),
		strings.Repeat("a", 1<<6),
		strings.Repeat("\xff", 257),
		strings.Repeat("\x00\xff", 1<<13)[1:],
		strings.Repeat("\x00\xff", 1<<13),
		strings.Repeat("\x00", api.MaxSeal-16),
		strings.Repeat("\xff", api.MaxSeal-1),
		strings.Repeat("\xff", api.MaxSeal),
		strings.Repeat("\x00", api.MaxSeal),
		noise(api.MaxSeal),
	}
}

// noise are so many bytes without a short pattern, always the same.
func noise(n int) string {
	b := make([]byte, n)
	x := uint64(7)
	for i := range b {
		x = x*6364136223846793005 + 1442695040888963407
		b[i] = byte(x >> 56)
	}
	return string(b)
}

// put is the sealed text of one that may be sealed.
func put(t *testing.T, s string) string {
	t.Helper()
	b, e := seal.Put(s)
	if e != api.OK {
		t.Fatalf("Put of %d bytes: error %d", len(s), e)
	}
	return b
}

// closed is a body with the right sum behind it, made without the program.
func closed(body string) string {
	v := adler32.Checksum([]byte(body))
	return body + string([]byte{byte(v >> 24), byte(v >> 16), byte(v >> 8), byte(v)})
}

// changed is s with another byte at a place.
func changed(s string, at int, to byte) string {
	return s[:at] + string([]byte{to}) + s[at+1:]
}

// wantErr holds what Take answers against an error, beside which nothing else may be told.
func wantErr(t *testing.T, b string, want api.Errno) {
	t.Helper()
	if x, rest, e := seal.Take(b); x != "" || rest != "" || e != want {
		t.Errorf("Take of %d bytes %.12x = %d bytes, %d bytes, %d, want error %d", len(b), b, len(x), len(rest), e, want)
	}
}

// P2.1: Sum, with the sums written out.
func TestSum(t *testing.T) {
	for _, x := range []struct {
		s   string
		sum uint32
	}{
		{"", 0x00000001},
		{"\x00", 0x00010001},
		{"a", 0x00620062},
		{"abc", 0x024d0127},
		{"\x00abc", 0x024e0127},
		{"Wikipedia", 0x11e60398},
		{"\xff", 0x01000100},
	} {
		if v := seal.Sum(x.s); v != x.sum {
			t.Errorf("Sum(%x) = %08x, want %08x", x.s, v, x.sum)
		}
	}
}

// P2.1: Sum where one of its halves comes near 65521.
func TestSumNearTheModulus(t *testing.T) {
	full := strings.Repeat("\xff", 256)
	for _, x := range []struct {
		s   string
		low uint32
	}{
		{full, 65281},
		{full + "\xee", 65519},
		{full + "\xef", 65520},
		{full + "\xf0", 0},
		{full + "\xf1", 1},
		{full + "\xff", 15},
		{full + "\xef\x01", 0},
		{full + "\xef\x00", 65520},
	} {
		if v := seal.Sum(x.s) & 0xffff; v != x.low {
			t.Errorf("the low half for %d bytes that end on %x is %d, want %d", len(x.s), x.s[255:], v, x.low)
		}
	}
	for n, high := range map[int]uint32{65519: 65519, 65520: 65520, 65521: 0, 65522: 1, 2 * 65521: 0, 3*65521 - 1: 65520} {
		if v := seal.Sum(strings.Repeat("\x00", n)); v != high<<16|1 {
			t.Errorf("Sum of %d zeros = %08x, want %08x", n, v, high<<16|1)
		}
	}
}

// P2.1: Sum is what the library's Adler-32 is, for texts of many lengths, also above MaxSeal.
func TestSumIsAdler(t *testing.T) {
	all := noise(1 << 18)
	l := append(texts(), all, strings.Repeat("\xff", 1<<20))
	for n := range 600 {
		l = append(l, all[n:2*n], strings.Repeat("\xff", n))
	}
	for n := 5549; n < 5556; n++ {
		l = append(l, strings.Repeat("\xff", n))
	}
	for _, s := range l {
		if v, want := seal.Sum(s), adler32.Checksum([]byte(s)); v != want {
			t.Errorf("Sum of %d bytes = %08x, want %08x", len(s), v, want)
		}
	}
}

// P2.1: Put, with the sealed texts written out.
func TestPut(t *testing.T) {
	for _, x := range []struct{ s, sealed string }{
		{"", "\x00\x00\x01\x00\x01"},
		{"\x00", "\x01\x00\x00\x04\x00\x02"},
		{"a", "\x01a\x00\x65\x00\x63"},
		{"ab", "\x02ab\x01\x2d\x00\xc6"},
		{"hello", "\x05hello\x06\x4b\x02\x1a"},
		{strings.Repeat("\x00", 63), "\x3f" + strings.Repeat("\x00", 63) + "\x10\x00\x00\x40"},
		{strings.Repeat("\x00", 64), "\x40\x40" + strings.Repeat("\x00", 64) + "\x21\x02\x00\x81"},
	} {
		if b, e := seal.Put(x.s); b != x.sealed || e != api.OK {
			t.Errorf("Put(%x) = %x, %d, want %x", x.s, b, e, x.sealed)
		}
	}
}

// P2.1: Put of all sizes: the length's encoding, the text, and the sum of both.
func TestPutParts(t *testing.T) {
	for _, s := range texts() {
		size, _ := pack.Num(uint64(len(s)))
		if b, e := seal.Put(s); b != closed(size+s) || e != api.OK {
			t.Errorf("Put of %d bytes = %d bytes, %d", len(s), len(b), e)
		}
	}
}

// P2.1: Put of MaxSeal bytes, and of more.
func TestPutBig(t *testing.T) {
	if b, e := seal.Put(noise(api.MaxSeal)); len(b) != 4+api.MaxSeal+4 || b[:4] != "\x80\x01\x00\x00" || e != api.OK {
		t.Errorf("Put of MaxSeal bytes = %d bytes, %d", len(b), e)
	}
	for _, n := range []int{api.MaxSeal + 1, api.MaxSeal + 4, 2 * api.MaxSeal, 1 << 20} {
		if b, e := seal.Put(strings.Repeat("a", n)); b != "" || e != api.ErrBig {
			t.Errorf("Put of %d bytes = %d bytes, %d, want ErrBig", n, len(b), e)
		}
	}
}

// P2.2: Take of sealed texts, written out.
func TestTake(t *testing.T) {
	for _, x := range []struct{ b, text, rest string }{
		{"\x00\x00\x01\x00\x01", "", ""},
		{"\x00\x00\x01\x00\x01\x00", "", "\x00"},
		{"\x01a\x00\x65\x00\x63", "a", ""},
		{"\x02ab\x01\x2d\x00\xc6more", "ab", "more"},
		{"\x01a\x00\x65\x00\x63\x00\x00\x01\x00\x01", "a", "\x00\x00\x01\x00\x01"},
	} {
		if text, rest, e := seal.Take(x.b); text != x.text || rest != x.rest || e != api.OK {
			t.Errorf("Take(%x) = %x, %x, %d, want %x, %x", x.b, text, rest, e, x.text, x.rest)
		}
	}
}

// P2.2: too few bytes, of the length, of the text, or of the sum.
func TestTakeMore(t *testing.T) {
	for _, b := range []string{
		"", "\x40", "\x80\x00\x40", "\xc0\x00\x00\x00\x40\x00\x00",
		"\x00", "\x00\x00", "\x00\x00\x01\x00", "\x00wro", "\x01", "\x01a", "\x01a\x00\x65\x00", "\x01\x00\x00\x00\x00",
		"\x3f" + strings.Repeat("\x00", 66), "\x80\x01\x00\x00", "\x80\x01\x00\x00" + strings.Repeat("a", api.MaxSeal+3),
	} {
		wantErr(t, b, api.ErrMore)
	}
}

// P2.2: a longer encoding of the length than is needed, with the right sum, a wrong one, and too few bytes.
func TestTakeLongLength(t *testing.T) {
	for _, b := range []string{
		closed("\x40\x00"), closed("\x40\x05hello"), closed("\x80\x00\x00\x05hello"), closed("\xc0\x00\x00\x00\x00\x00\x00\x05hello"),
		closed("\x80\x00\x00\x40" + strings.Repeat("a", 64)), closed("\xc0\x00\x00\x00\x00\x01\x00\x00" + noise(api.MaxSeal)),
		"\x40\x05hello", "\x40\x05", "\xc0\x00\x00\x00\x00\x00\x00\x01", "\xc0\x00\x00\x00\x00\x01\x00\x01",
	} {
		wantErr(t, b, api.ErrForm)
	}
}

// P2.2: a length above MaxSeal is ErrBig, whether its text is there or not, and whether the sum is right or not.
func TestTakeBig(t *testing.T) {
	more := noise(api.MaxSeal + 1)
	for _, b := range []string{
		"\x80\x01\x00\x01", "\x80\x01\x00\x01ab", closed("\x80\x01\x00\x01" + more), "\x80\x01\x00\x01" + more + "sum?",
		closed("\x80\x02\x00\x00" + more + more[2:]), "\xbf\xff\xff\xff", "\xc0\x00\x00\x00\x40\x00\x00\x00",
		"\xff\xff\xff\xff\xff\xff\xff\xff", "\xff\xff\xff\xff\xff\xff\xff\xfc" + more,
	} {
		wantErr(t, b, api.ErrBig)
	}
}

// P2.2: a wrong sum, also one of the text alone, one in another order, and one whose halves are 65521 more.
func TestTakeForm(t *testing.T) {
	for _, b := range []string{
		"\x00\x00\x00\x00\x00", "\x00\x00\x01\x00\x02", "\x00\x01\x00\x01\x00", "\x00\x00\x01\x00\x00",
		"\x00\x00\x01\xff\xf2", "\x00\xff\xf2\x00\x01",
		"\x01a\x00\x62\x00\x62", "\x01a\x00\x63\x00\x65", "\x01a\x63\x00\x65\x00", "\x05hello\x06\x4b\x02\x1b", "\x05hallo\x06\x4b\x02\x1a",
		"\x04hello\x06\x4b\x02\x1a",
	} {
		wantErr(t, b, api.ErrForm)
		wantErr(t, b+"more", api.ErrForm)
	}
}

// collect are the texts that All ranges over.
func collect(b string) []string {
	var l []string
	for x := range seal.All(b) {
		l = append(l, x)
	}
	return l
}

// P2.3: All and Whole of so many sealed texts, and of what can't be taken behind them.
func TestAllAndWhole(t *testing.T) {
	ends := []string{
		"", "\x05x", "\x40", "\x00\x00\x01\x00", "\x00\x00\x01\x00\x02", "\x40\x00\x00\x00\x00\x00", "\x80\x01\x00\x01",
		changed(put(t, "hello"), 2, 'a') + put(t, "behind it"),
		"\x80\x01\x00\x01" + put(t, "behind it"),
		"\x40\x00" + put(t, "behind it"),
	}
	var want []string
	var b string
	for _, s := range append([]string{"", "", "a", "hello"}, texts()...) {
		for _, end := range ends {
			if l := collect(b + end); !slices.Equal(l, want) {
				t.Errorf("All of %d texts and then %.12x: %d texts", len(want), end, len(l))
			}
			if n := seal.Whole(b + end); n != len(b) {
				t.Errorf("Whole of %d texts and then %.12x = %d, want %d", len(want), end, n, len(b))
			}
		}
		want = append(want, s)
		b += put(t, s)
	}
	if l := collect(b); !slices.Equal(l, want) || seal.Whole(b) != len(b) {
		t.Errorf("%d texts of %d, %d bytes of %d", len(l), len(want), seal.Whole(b), len(b))
	}
}

// P2.3: the iterator may be ranged over several times, one time within another.
func TestAllAgain(t *testing.T) {
	seq := seal.All(put(t, "a") + put(t, "") + put(t, "ccc") + "\x05x")
	want := []string{"a", "", "ccc"}
	for range 3 {
		if l := slices.Collect(seq); !slices.Equal(l, want) {
			t.Errorf("%q", l)
		}
	}
	var pairs []string
	for x := range seq {
		for y := range seq {
			pairs = append(pairs, x+"-"+y)
		}
	}
	if !slices.Equal(pairs, []string{"a-a", "a-", "a-ccc", "-a", "-", "-ccc", "ccc-a", "ccc-", "ccc-ccc"}) {
		t.Errorf("%q", pairs)
	}
}

// P2.3: the iterator may be left early, ends then, and begins anew the next time.
func TestAllLeftEarly(t *testing.T) {
	want := []string{"a", "", "ccc", "dddd"}
	var b string
	for _, s := range want {
		b += put(t, s)
	}
	seq := seal.All(b)
	for n := range want {
		var l []string
		for x := range seq {
			l = append(l, x)
			if len(l) == n+1 {
				break
			}
		}
		if !slices.Equal(l, want[:n+1]) {
			t.Errorf("left after %d: %q", n+1, l)
		}
	}
	calls := 0
	seq(func(string) bool { calls++; return false })
	if l := slices.Collect(seq); calls != 1 || !slices.Equal(l, want) {
		t.Errorf("%d calls, then %q", calls, l)
	}
}

// P2.4: Take returns what was sealed, whatever follows it.
func TestBackAgain(t *testing.T) {
	for _, s := range texts() {
		for _, rest := range rests() {
			if x, r, e := seal.Take(put(t, s) + rest); x != s || r != rest || e != api.OK {
				t.Errorf("%d bytes came back as %d bytes, %x, %d", len(s), len(x), r, e)
			}
		}
	}
	for n := range 300 {
		s := noise(n)
		if x, r, e := seal.Take(put(t, s) + s); x != s || r != s || e != api.OK {
			t.Errorf("%d bytes came back as %d bytes, %d bytes, %d", n, len(x), len(r), e)
		}
	}
}

// P2.4: no proper prefix of a sealed text is taken.
func TestNoPrefix(t *testing.T) {
	for _, s := range texts() {
		b := put(t, s)
		for n := range len(b) {
			if n < 80 || n > len(b)-80 || n%997 == 0 {
				wantErr(t, b[:n], api.ErrMore)
			}
		}
	}
}

// P2.4: a sealed text of which any byte of the text or of the sum was changed to any other is not taken.
func TestChangedByte(t *testing.T) {
	for _, s := range []string{"", "\x00", "\xff", "hello", "\x00\xff\x80\x01\xfe", noise(63), noise(64)} {
		b := put(t, s)
		for at := len(b) - 4 - len(s); at < len(b); at++ {
			for to := range 256 {
				if byte(to) != b[at] {
					wantErr(t, changed(b, at, byte(to)), api.ErrForm)
					wantErr(t, changed(b, at, byte(to))+"more", api.ErrForm)
				}
			}
		}
	}
	for _, s := range texts()[7:] {
		b := put(t, s)
		head := len(b) - 4 - len(s)
		for _, at := range []int{head, head + 1, len(b) / 2, len(b) - 6, len(b) - 5, len(b) - 4, len(b) - 3, len(b) - 2, len(b) - 1} {
			for _, by := range []byte{0x01, 0x80, 0xff} {
				wantErr(t, changed(b, at, b[at]^by), api.ErrForm)
			}
		}
	}
}

// R1: no call panics or goes on for ever, whatever the bytes are; what is taken is what Put gives.
func TestAnyBytes(t *testing.T) {
	check := func(b string) {
		x, rest, e := seal.Take(b)
		if e == api.OK && put(t, x)+rest != b || e != api.OK && x+rest != "" {
			t.Errorf("Take(%x) = %x, %x, %d", b, x, rest, e)
		}
		if n := seal.Whole(b); n < 0 || n > len(b) || seal.Whole(b[:n]) != n || len(collect(b)) != len(collect(b[:n])) {
			t.Errorf("Whole(%x) = %d", b, n)
		}
	}
	all := noise(1 << 12)
	for at := range len(all) - 24 {
		check(all[at : at+at%24])
		check("\x00\x00\x01\x00\x01" + all[at:at+at%9])
	}
}
