package tape_test

import (
	"math"
	"strings"
	"testing"

	"ferrule/api"
	"ferrule/tape"
)

// zeros are so many bytes.
func zeros(n int) string { return strings.Repeat("\x00", n) }

// brief tells a tape in a line, however long it is.
func brief(t api.Tape) []any {
	return []any{len(t.Safe), t.Safe[:min(8, len(t.Safe))], len(t.Rest), t.Rest[:min(8, len(t.Rest))], t.Power, t.Off}
}

// want holds what an act answered against what it is to answer.
func want(t *testing.T, name string, x api.Tape, e api.Errno, wantX api.Tape, wantE api.Errno) {
	t.Helper()
	if x != wantX || e != wantE {
		t.Errorf("%s = %q, %d, want %q, %d", name, brief(x), e, brief(wantX), wantE)
	}
}

// powers are a Power ahead of an act that is done, and behind it.
func powers() [][2]int {
	return [][2]int{
		{1, 0}, {2, 1}, {3, 2}, {1 << 40, 1<<40 - 1}, {math.MaxInt, math.MaxInt - 1},
		{-1, -1}, {-2, -2}, {-7, -7}, {math.MinInt, math.MinInt},
	}
}

// someTapes are tapes of all kinds, of few bytes and of as many as there may be, and more.
func someTapes() []api.Tape {
	var l []api.Tape
	long := zeros(api.MaxTape)
	for _, parts := range [][2]string{
		{"", ""}, {"ab", ""}, {"", "cd"}, {"ab", "cd"}, {"\x00\xff", "\x80\x00"},
		{long, ""}, {"", long}, {long[:api.MaxTape-1], "x"}, {"ab", long}, {long, long},
	} {
		for _, power := range []int{0, 1, 2, -1, -2, math.MinInt, math.MaxInt} {
			for _, off := range []bool{false, true} {
				l = append(l, api.Tape{Safe: parts[0], Rest: parts[1], Power: power, Off: off})
			}
		}
	}
	return l
}

// P3.1: Write appends to the Rest, and leaves what is safe.
func TestWrite(t *testing.T) {
	for _, x := range []struct{ safe, rest, s, then string }{
		{"", "", "", ""},
		{"", "", "ab", "ab"},
		{"ab", "", "cd", "cd"},
		{"", "ab", "cd", "abcd"},
		{"ab", "cd", "ef", "cdef"},
		{"ab", "cd", "", "cd"},
		{"ab", "", "", ""},
		{"\x00\xff", "\x80", "\xff\x00", "\x80\xff\x00"},
	} {
		for _, p := range powers() {
			y, e := tape.Write(api.Tape{Safe: x.safe, Rest: x.rest, Power: p[0]}, x.s)
			want(t, "Write", y, e, api.Tape{Safe: x.safe, Rest: x.then, Power: p[1]}, api.OK)
		}
	}
}

// P3.1: Write up to MaxTape bytes of contents, and no further, however they are laid.
func TestWriteFull(t *testing.T) {
	long := zeros(2 * api.MaxTape)
	for _, x := range []struct {
		safe, rest, s int
		full          bool
	}{
		{0, 0, api.MaxTape, false},
		{0, 0, api.MaxTape + 1, true},
		{api.MaxTape - 1, 0, 1, false},
		{0, api.MaxTape - 1, 1, false},
		{api.MaxTape - 1, 0, 2, true},
		{0, api.MaxTape - 1, 2, true},
		{api.MaxTape, 0, 0, false},
		{0, api.MaxTape, 0, false},
		{api.MaxTape, 0, 1, true},
		{0, api.MaxTape, 1, true},
		{api.MaxTape - 2, 1, 1, false},
		{api.MaxTape - 2, 1, 2, true},
		{1, 1, api.MaxTape - 2, false},
		{1, 1, api.MaxTape - 1, true},
		{api.MaxTape / 2, api.MaxTape / 2, 0, false},
		{api.MaxTape / 2, api.MaxTape / 2, 1, true},
		{0, 0, 2 * api.MaxTape, true},
	} {
		for _, p := range powers() {
			before := api.Tape{Safe: long[:x.safe], Rest: long[:x.rest], Power: p[0]}
			after, wantE := api.Tape{Safe: long[:x.safe], Rest: long[:x.rest+x.s], Power: p[1]}, api.OK
			if x.full {
				after, wantE = before, api.ErrFull
			}
			y, e := tape.Write(before, long[:x.s])
			want(t, "Write", y, e, after, wantE)
		}
	}
}

// P3.1: a tape whose contents are too long already takes no Write, not even of nothing.
func TestWriteTooLongAlready(t *testing.T) {
	long := zeros(2 * api.MaxTape)
	for _, x := range []api.Tape{
		{Safe: long[:api.MaxTape+1], Power: -1},
		{Rest: long[:api.MaxTape+1], Power: -1},
		{Safe: long[:api.MaxTape], Rest: "x", Power: 3},
		{Safe: "x", Rest: long[:api.MaxTape], Power: 1},
		{Safe: long, Rest: long, Power: 0},
	} {
		for _, s := range []string{"", "x", long} {
			y, e := tape.Write(x, s)
			want(t, "Write", y, e, x, api.ErrFull)
		}
	}
}

// P3.1: Sync makes all contents safe, also those that are too long for a Write.
func TestSync(t *testing.T) {
	long := zeros(api.MaxTape)
	for _, x := range [][2]string{
		{"", ""}, {"ab", ""}, {"", "cd"}, {"ab", "cd"}, {"\x00\xff", "\xff\x00"},
		{long, ""}, {"", long}, {long[1:], "x"}, {long, "x"}, {"x", long}, {long, long},
	} {
		for _, p := range powers() {
			y, e := tape.Sync(api.Tape{Safe: x[0], Rest: x[1], Power: p[0]})
			want(t, "Sync", y, e, api.Tape{Safe: x[0] + x[1], Power: p[1]}, api.OK)
		}
	}
}

// P3.1: Install puts a text in the place of all contents, also of those that are too long.
func TestInstall(t *testing.T) {
	long := zeros(api.MaxTape)
	for _, x := range [][2]string{{"", ""}, {"ab", ""}, {"", "cd"}, {"ab", "cd"}, {long, ""}, {"", long}, {long, "x"}, {long, long}} {
		for _, s := range []string{"", "z", "ab", "longer than what was there", "\x00\xff", long[1:], long} {
			for _, p := range powers() {
				y, e := tape.Install(api.Tape{Safe: x[0], Rest: x[1], Power: p[0]}, s)
				want(t, "Install", y, e, api.Tape{Safe: s, Power: p[1]}, api.OK)
			}
		}
	}
}

// P3.1: Install of more than MaxTape bytes, onto nothing, or onto what is as long.
func TestInstallFull(t *testing.T) {
	long := zeros(2 * api.MaxTape)
	for _, n := range []int{api.MaxTape + 1, 2 * api.MaxTape} {
		for _, power := range []int{0, 1, 2, -1, -7} {
			for _, x := range []api.Tape{{}, {Safe: "ab", Rest: "cd"}, {Safe: long}, {Rest: long[:api.MaxTape]}} {
				x.Power = power
				y, e := tape.Install(x, long[:n])
				want(t, "Install", y, e, x, api.ErrFull)
			}
		}
	}
}

// P3.1: without power an act takes the tape Off, and changes nothing else; behind it each is ErrDead.
func TestWithoutPower(t *testing.T) {
	long := zeros(api.MaxTape)
	for _, parts := range [][2]string{{"", ""}, {"ab", "cd"}, {"ab", ""}, {"", "cd"}, {long, ""}, {"", long}} {
		x := api.Tape{Safe: parts[0], Rest: parts[1], Power: 0}
		dead := x
		dead.Off = true
		for _, s := range []string{"", "x"} {
			if len(x.Safe)+len(x.Rest)+len(s) <= api.MaxTape {
				y, e := tape.Write(x, s)
				want(t, "Write", y, e, dead, api.ErrDead)
			}
			y, e := tape.Install(x, s)
			want(t, "Install", y, e, dead, api.ErrDead)
		}
		y, e := tape.Install(x, long)
		want(t, "Install", y, e, dead, api.ErrDead)
		y, e = tape.Sync(x)
		want(t, "Sync", y, e, dead, api.ErrDead)
		if s, e := tape.Read(x); s != parts[0]+parts[1] || e != api.OK {
			t.Errorf("a Read took power: %d bytes, %d", len(s), e)
		}
	}
	tooLong := api.Tape{Safe: long, Rest: "x"}
	y, e := tape.Sync(tooLong)
	want(t, "Sync of too much", y, e, api.Tape{Safe: long, Rest: "x", Off: true}, api.ErrDead)
}

// P3.1: a tape that is Off stays as it is, whatever is done, and whatever power it has.
func TestOff(t *testing.T) {
	long := zeros(api.MaxTape + 1)
	for _, x := range someTapes() {
		x.Off = true
		for _, s := range []string{"", "x", long[1:], long} {
			y, e := tape.Write(x, s)
			want(t, "Write", y, e, x, api.ErrDead)
			y, e = tape.Install(x, s)
			want(t, "Install", y, e, x, api.ErrDead)
		}
		y, e := tape.Sync(x)
		want(t, "Sync", y, e, x, api.ErrDead)
	}
}

// P3.1: where several errors fit: Off is ahead of full, and full ahead of being without power.
func TestOrderOfErrors(t *testing.T) {
	long := zeros(api.MaxTape + 1)
	full := api.Tape{Safe: long[:api.MaxTape], Power: 0}
	off := full
	off.Off = true
	y, e := tape.Write(full, "x")
	want(t, "Write, full and without power", y, e, full, api.ErrFull)
	y, e = tape.Install(full, long)
	want(t, "Install, too long and without power", y, e, full, api.ErrFull)
	y, e = tape.Write(full, "")
	want(t, "Write, without power", y, e, off, api.ErrDead)
	y, e = tape.Write(off, "x")
	want(t, "Write, Off and full", y, e, off, api.ErrDead)
	y, e = tape.Install(off, long)
	want(t, "Install, Off and too long", y, e, off, api.ErrDead)
}

// P3.1: there is power for just so many acts, of any kinds; one that is refused for want of room takes none.
func TestPowerOfActs(t *testing.T) {
	acts := []func(api.Tape) (api.Tape, api.Errno){
		func(x api.Tape) (api.Tape, api.Errno) { return tape.Write(x, "a") },
		func(x api.Tape) (api.Tape, api.Errno) { return tape.Write(x, "") },
		tape.Sync,
		func(x api.Tape) (api.Tape, api.Errno) { return tape.Install(x, "b") },
	}
	for n := range 10 {
		for shift := range acts {
			x := tape.Powered(api.Tape{}, n)
			for i := range n {
				full, e := tape.Write(x, zeros(api.MaxTape+1))
				want(t, "a Write that is too long", full, e, x, api.ErrFull)
				if x, e = acts[(i+shift)%len(acts)](x); e != api.OK || x.Off || x.Power != n-i-1 {
					t.Errorf("act %d of %d: %q, %d", i+1, n, brief(x), e)
				}
			}
			dead := x
			dead.Off = true
			y, e := acts[(n+shift)%len(acts)](x)
			want(t, "one act more", y, e, dead, api.ErrDead)
		}
	}
}

// P3.2: Read answers the contents, or ErrDead and nothing.
func TestRead(t *testing.T) {
	for _, x := range someTapes() {
		all, wantE := x.Safe+x.Rest, api.OK
		if x.Off {
			all, wantE = "", api.ErrDead
		}
		if s, e := tape.Read(x); s != all || e != wantE {
			t.Errorf("Read of %q = %d bytes, %d, want %d bytes, %d", brief(x), len(s), e, len(all), wantE)
		}
	}
	if s, e := tape.Read(api.Tape{Safe: "ab", Rest: "cd"}); s != "abcd" || e != api.OK {
		t.Errorf("%q, %d", s, e)
	}
}

// P3.2: Crash keeps so many bytes of the Rest, none for a negative keep, and no more than there are.
func TestCrash(t *testing.T) {
	for _, x := range []struct {
		safe, rest string
		keep       int
		then       string
	}{
		{"ab", "cdef", 0, "ab"},
		{"ab", "cdef", 1, "abc"},
		{"ab", "cdef", 3, "abcde"},
		{"ab", "cdef", 4, "abcdef"},
		{"ab", "cdef", 5, "abcdef"},
		{"ab", "cdef", math.MaxInt, "abcdef"},
		{"ab", "cdef", -1, "ab"},
		{"ab", "cdef", -4, "ab"},
		{"ab", "cdef", math.MinInt, "ab"},
		{"", "cdef", 2, "cd"},
		{"", "cdef", -2, ""},
		{"ab", "", 0, "ab"},
		{"ab", "", 1, "ab"},
		{"ab", "", -1, "ab"},
		{"", "", 0, ""},
		{"", "", 7, ""},
		{"", "", -7, ""},
		{"\x00\xff", "\xff\x00", 1, "\x00\xff\xff"},
	} {
		for _, power := range []int{0, 1, 5, -1, -5, math.MinInt, math.MaxInt} {
			for _, off := range []bool{false, true} {
				y := tape.Crash(api.Tape{Safe: x.safe, Rest: x.rest, Power: power, Off: off}, x.keep)
				if y != (api.Tape{Safe: x.then, Power: -1}) {
					t.Errorf("Crash of %q, %q, %d, %v, keep %d = %q", x.safe, x.rest, power, off, x.keep, brief(y))
				}
			}
		}
	}
}

// P3.2: Crash of contents of MaxTape bytes and of more.
func TestCrashLong(t *testing.T) {
	long := zeros(api.MaxTape)
	for _, parts := range [][2]string{{"", long}, {long, long}, {long[1:], "x"}} {
		n := len(parts[1])
		for _, keep := range []int{0, 1, n - 1, n, n + 1} {
			y := tape.Crash(api.Tape{Safe: parts[0], Rest: parts[1], Off: true}, keep)
			if y != (api.Tape{Safe: parts[0] + parts[1][:min(keep, n)], Power: -1}) {
				t.Errorf("Crash of %d and %d bytes, keep %d = %q", len(parts[0]), n, keep, brief(y))
			}
		}
	}
}

// P3.2: Powered changes the Power alone, also of a tape that is Off.
func TestPowered(t *testing.T) {
	for _, x := range someTapes() {
		for _, p := range [][2]int{
			{0, 0}, {1, 1}, {2, 2}, {1 << 40, 1 << 40}, {math.MaxInt, math.MaxInt},
			{-1, -1}, {-2, -1}, {-7, -1}, {math.MinInt, -1},
		} {
			after := x
			after.Power = p[1]
			if y := tape.Powered(x, p[0]); y != after {
				t.Errorf("Powered(%q, %d) = %q", brief(x), p[0], brief(y))
			}
		}
	}
}

// P3.1, P3.2: the chapter's examples, and going on behind a crash.
func TestExamples(t *testing.T) {
	x, _ := tape.Write(api.Tape{Power: -1}, "ab")
	x, _ = tape.Sync(x)
	x, _ = tape.Write(x, "cd")
	x = tape.Crash(x, 1)
	want(t, "Crash", x, api.OK, api.Tape{Safe: "abc", Power: -1}, api.OK)
	x, e := tape.Write(tape.Powered(x, 1), "x")
	want(t, "Write with power for one act", x, e, api.Tape{Safe: "abc", Rest: "x"}, api.OK)
	x, e = tape.Sync(x)
	want(t, "Sync without power", x, e, api.Tape{Safe: "abc", Rest: "x", Off: true}, api.ErrDead)
	x, e = tape.Sync(tape.Powered(x, 5))
	want(t, "Sync of a tape that is Off", x, e, api.Tape{Safe: "abc", Rest: "x", Power: 5, Off: true}, api.ErrDead)
	x, e = tape.Sync(tape.Crash(x, 9))
	want(t, "Sync behind a crash", x, e, api.Tape{Safe: "abcx", Power: -1}, api.OK)
}

// history is what is known of a tape without a look into it: the bytes that were synced or installed, those written since, and its power.
type history struct {
	lasts string
	since []string
	power int
	off   bool
}

// refused is why an act can't be done: told by the words of the chapter, room for so many bytes asked for.
func (h *history) refused(room int) api.Errno {
	switch {
	case h.off:
		return api.ErrDead
	case room > api.MaxTape:
		return api.ErrFull
	case h.power == 0:
		h.off = true
		return api.ErrDead
	case h.power > 0:
		h.power--
	}
	return api.OK
}

// all are the contents.
func (h *history) all() string { return h.lasts + strings.Join(h.since, "") }

// play does a step of a script to a tape and to its history, and answers both errors.
func play(step byte, x api.Tape, h history) (api.Tape, history, api.Errno, api.Errno) {
	var got, right api.Errno
	write := func(s string) {
		if right = h.refused(len(h.all()) + len(s)); right == api.OK {
			h.since = append(h.since[:len(h.since):len(h.since)], s)
		}
		x, got = tape.Write(x, s)
	}
	crash := func(keep int) {
		rest := strings.Join(h.since, "")
		h = history{lasts: h.lasts + rest[:min(max(keep, 0), len(rest))], power: -1}
		x = tape.Crash(x, keep)
	}
	power := func(acts int) {
		h.power = acts
		x = tape.Powered(x, acts)
	}
	switch step {
	case 'w':
		write("ab")
	case 'e':
		write("")
	case 'l':
		write(zeros(api.MaxTape - 2))
	case 's':
		if right = h.refused(0); right == api.OK {
			h.lasts, h.since = h.all(), nil
		}
		x, got = tape.Sync(x)
	case 'i':
		if right = h.refused(3); right == api.OK {
			h.lasts, h.since = "xyz", nil
		}
		x, got = tape.Install(x, "xyz")
	case '0', '1', '2':
		power(int(step - '0'))
	case 'n':
		crash(-1)
	case 'c':
		crash(0)
	case 'k':
		crash(3)
	case 'a':
		crash(len(x.Rest) + 1)
	}
	return x, h, got, right
}

// agrees holds a tape against its history, and what any crash would leave of it.
func agrees(t *testing.T, script string, x api.Tape, h history) {
	t.Helper()
	if x.Safe+x.Rest != h.all() || x.Power != h.power || x.Off != h.off {
		t.Errorf("%s: %q", script, brief(x))
	}
	rest := strings.Join(h.since, "")
	for _, keep := range []int{-1, 0, 1, len(rest) - 1, len(rest), len(rest) + 1} {
		s, e := tape.Read(tape.Crash(x, keep))
		after, lasts := strings.CutPrefix(s, h.lasts)
		if e != api.OK || !lasts || !strings.HasPrefix(rest, after) || len(after) != max(0, min(keep, len(rest))) {
			t.Errorf("%s, then a crash that keeps %d: %d bytes, %d", script, keep, len(s), e)
		}
	}
}

// P3.3: what was synced or installed is read after every crash, and a prefix of what was written since follows it: for every script of up to four steps.
func TestWhatLasts(t *testing.T) {
	var walk func(script string, x api.Tape, h history, left int)
	walk = func(script string, x api.Tape, h history, left int) {
		agrees(t, script, x, h)
		if left == 0 || t.Failed() {
			return
		}
		for _, step := range []byte("welsi012ncka") {
			y, next, got, right := play(step, x, h)
			if got != right {
				t.Errorf("%s, then %c: %d, want %d", script, step, got, right)
			}
			walk(script+string(step), y, next, left-1)
		}
	}
	walk("", api.Tape{Power: -1}, history{power: -1}, 4)
}

// P3.3: the same for longer scripts, always the same ones.
func TestWhatLastsLong(t *testing.T) {
	seed := uint64(3)
	for range 300 {
		x, h := api.Tape{Power: -1}, history{power: -1}
		var script []byte
		for range 40 {
			seed = seed*6364136223846793005 + 1442695040888963407
			step := "wwwwweesssii012ncckkaa"[seed>>33%22]
			script = append(script, step)
			y, next, got, right := play(step, x, h)
			if got != right {
				t.Errorf("%s: %d, want %d", script, got, right)
			}
			x, h = y, next
			agrees(t, string(script), x, h)
		}
		if t.Failed() {
			return
		}
	}
}

// R3: a tape is another value behind each call: the one that was passed is as it was, and gives the same again.
func TestArgumentsStay(t *testing.T) {
	for _, x := range someTapes() {
		before := x
		for range 2 {
			a, ea := tape.Write(x, "q")
			b, eb := tape.Write(x, "q")
			if a != b || ea != eb {
				t.Errorf("Write of %q differs", brief(x))
			}
			tape.Sync(x)
			tape.Install(x, "q")
			tape.Crash(x, 1)
			tape.Powered(x, 3)
		}
		if x != before {
			t.Errorf("%q became %q", brief(before), brief(x))
		}
	}
}
