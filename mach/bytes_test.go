package mach_test

import (
	"math/rand"
	"slices"
	"strconv"
	"strings"
	"testing"

	"ferrule/api"
	"ferrule/mach"
)

// P15.1: machines of both kinds, written out.
func TestBytes(t *testing.T) {
	for _, x := range []struct{ told, s string }{
		{"shard", "\x01\x00\x00\x00\x00\x00\x00"},
		{"coord", "\x02\x00\x00"},
		{"shard; ver: 64", "\x01\x00\x00\x00\x00\x40\x40\x00"},
		{"shard; rows: a 2 7, b 1 7; ver: 7", "\x01\x02\x01a\x012\x07\x01b\x011\x07\x00\x00\x00\x07\x00"},
		{"shard; holds: ab 1.5 w, c 1.5 r; open: 1.5", "\x01\x00\x02\x02ab\x01\x05\x01\x01c\x01\x05\x00\x01\x01\x05\x00\x00\x00\x00\x00\x00"},
		{"shard; holds: a 1 w, b 1 w; open: 1 firm a=xy b-, 2 wounded", "\x01\x00\x02\x01a\x01\x00\x01\x01b\x01\x00\x01\x02\x01\x00\x01\x00\x02\x01a\x02xy\x00\x01b\x00\x01\x02\x00\x00\x01\x00\x00\x00\x00"},
		{"shard; done: 1.2 yes, 64 no; ver: 1", "\x01\x00\x00\x00\x02\x01\x02\x01\x40\x40\x00\x00\x01\x00"},
		{"shard; sessions: 1 2 val xy ver 3 found, 64 5 err 13 commit", "\x01\x00\x00\x00\x00\x00\x02\x01\x02\x00\x02xy\x03\x01\x00\x40\x40\x05\x0d\x00\x00\x00\x01"},
		{"coord; deals: 1.2 open 1 63, 3 commit 5, 4 abort; sessions: 7 8 err 14", "\x02\x03\x01\x02\x02\x01\x3f\x00\x03\x00\x01\x05\x01\x04\x00\x00\x02\x01\x07\x08\x0e\x00\x00\x00\x00"},
	} {
		if s, e := mach.Bytes(at(x.told)); e != api.OK || s != x.s {
			t.Errorf("Bytes(%s) = %x, %d, want %x", x.told, s, e, x.s)
		}
		if m, e := mach.Take(x.s); e != api.OK || !plainSame(m, at(x.told)) {
			t.Errorf("Take(%x) = %+v, %d, want %s", x.s, m, e, x.told)
		}
		heldMachine(t, x.told, at(x.told))
	}
}

// P15.1: Take of what is near an encoding.
func TestTakeMangled(t *testing.T) {
	for _, told := range []string{"shard", "coord", "shard; ver: 1", richShard, richCoord} {
		l := machineTokens(at(told))
		s := bytesOf(l)
		for i := range len(s) {
			if heldTake(t, "a beginning", s[:i]) {
				t.Errorf("the beginning of %d bytes of %x is a machine", i, s)
			}
		}
		for b := range 256 {
			if heldTake(t, "a byte more", s+string([]byte{byte(b)})) {
				t.Errorf("%x with the byte %x more is a machine", s, b)
			}
		}
		for _, x := range mangled(l) {
			heldTake(t, "mangled", x)
		}
	}
}

// P15.1: Take of a machine in which one byte is any other one.
func TestTakeBytes(t *testing.T) {
	for _, told := range []string{
		"shard; rows: a 2 7; holds: b 2.1 w, d 4 r; open: 2.1 firm b=9, 4; done: 5 yes; ver: 7; sessions: 1 1 val 2 ver 7 found, 3 9 err 13 commit",
		"coord; deals: 4 open 1 2, 2 commit 3, 1 abort; sessions: 1 1, 2 70 commit",
	} {
		s := machineBytes(at(told))
		taken := 0
		for i := range len(s) {
			for b := range 256 {
				if heldTake(t, "a byte changed", s[:i]+string([]byte{byte(b)})+s[i+1:]) {
					taken++
				}
			}
		}
		if taken <= len(s) || taken > 128*len(s) {
			t.Errorf("%s: %d of them are machines", told, taken)
		}
	}
}

// P15.1: what is no encoding, or not of a machine that is right, written out.
func TestTakeForms(t *testing.T) {
	for _, s := range []string{
		"", "\x00", "\x01", "\x02", "\x03", "\x02\x00", "\x00\x00", "\x00\x00\x00", "\x03\x00", "\x03\x00\x00", "\x03\x00\x00\x00\x00\x00\x00", "junk", "\xff",
		"\x40\x01\x00\x00\x00\x00\x00\x00", "\x40\x02\x00\x00", "\x02\x40\x00\x00", "\x02\x00\x40\x00", "\x01\x40\x00\x00\x00\x00\x00\x00", "\x01\x00\x00\x00\x00\x40\x00\x00",
		"\xc0\x00\x00\x01\x00\x00\x00\x02\x00\x00",                                             // Kind 2^32 + 2
		"\x02\x01\x01\x00\x00\x03\x00",                                                         // State 3
		"\x02\x01\x01\x00\x00\x00\x00",                                                         // an open deal without Parts
		"\x02\x02\x01\x00\x00\x02\x01\x00\x00\x02\x00",                                         // a deal twice
		"\x02\x01\x01\x00\x01\x01\x40\x01\x00",                                                 // State 1 in two bytes
		"\x01\x00\x00\x01\x01\x00\x02\x00\x00\x00\x00\x00",                                     // Firm 2
		"\x01\x00\x00\x01\x01\x00\x00\x02\x00\x00\x00\x00",                                     // Wounded 2
		"\x01\x00\x00\x01\x01\x00\x01\x01\x00\x00\x00\x00",                                     // firm and wounded
		"\x01\x00\x00\x00\x01\x01\x00\x02\x00\x00",                                             // Commit 2
		"\x01\x00\x01\x01a\x01\x00\x02\x01\x01\x00\x00\x00\x00\x00\x00\x00",                    // Write 2
		"\x01\x00\x01\x01a\x01\x00\x01\x00\x00\x00\x00",                                        // a hold of nobody
		"\x01\x02\x01b\x00\x00\x01a\x00\x00\x00\x00\x00\x00\x00",                               // Rows not in order
		"\x02\x00\x01\x01\x01\x0f\x00\x00\x00\x00",                                             // Err 15
		"\x02\x00\x01\x01\x01\x00\x00\x00\x02\x00", "\x02\x00\x01\x01\x01\x00\x00\x00\x00\x02", // Found 2, Commit 2
		"\x02\x00\x01\x00\x01\x00\x00\x00\x00\x00", "\x02\x00\x01\x01\x00\x00\x00\x00\x00\x00", // Client 0, Seq 0
		"\x02\x00\x02\x02\x01\x00\x00\x00\x00\x00\x01\x01\x00\x00\x00\x00\x00", // sessions not in order
	} {
		if m, e := mach.Take(s); e != api.ErrForm || !zeroMachine(m) {
			t.Errorf("Take(%x) = %+v, %d, want ErrForm", s, m, e)
		}
		heldTake(t, "written out", s)
	}
}

// P15.1: Take of what claims much, and of long texts.
func TestTakeLong(t *testing.T) {
	for _, n := range []uint64{17, 65, 4096, 1 << 14, 1 << 20, 1 << 32, 1 << 61, most} {
		claimed := inForm(n, sizeOf(n))
		for _, head := range []string{"\x01", "\x01\x00", "\x01\x00\x00", "\x01\x00\x00\x00", "\x01\x00\x00\x00\x00\x00", "\x02", "\x02\x00", "\x02\x01\x01\x00", "\x01\x00\x01", "\x01\x00\x00\x01\x01\x00\x01\x00"} {
			for _, tail := range []string{"", "\x00", strings.Repeat("\x00", 4000), strings.Repeat("\x01", 4000), strings.Repeat("\x00", 1<<20)} {
				if m, e := mach.Take(head + claimed + tail); e != api.ErrForm || !zeroMachine(m) {
					t.Errorf("Take of %x, %d claimed and %d bytes = %+v, %d, want ErrForm", head, n, len(tail), m, e)
				}
			}
		}
	}
	for _, b := range []string{"\x00", "\x01", "\x02", "\x3f", "\xff"} {
		for _, n := range []int{1, 10, 4095, 4096, 4097, 1 << 22} {
			if m, e := mach.Take(strings.Repeat(b, n)); e != api.ErrForm || !zeroMachine(m) {
				t.Errorf("Take of %d times %x = %+v, %d, want ErrForm", n, b, m, e)
			}
		}
	}
}

// greatTx is the i-th of many transactions whose numbers have eight bytes.
func greatTx(i int) api.Tx { return api.Tx{Age: api.MaxNum, Id: api.MaxNum - uint64(i)} }

// greatKey is the i-th of many keys of MaxKey bytes.
func greatKey(i int) string {
	return strings.Repeat("k", api.MaxKey-2) + string([]byte{byte(i >> 8), byte(i)})
}

// great is a shard that is right, and whose encoding has so many bytes, from 3000 on.
func great(size int) api.Machine {
	m := at("shard")
	for i := range api.MaxRows {
		m.S.Rows = append(m.S.Rows, api.Row{Key: greatKey(i), Val: strings.Repeat("v", api.MaxVal), Ver: api.MaxNum})
	}
	for i := range api.MaxClients {
		m.Sessions = append(m.Sessions, api.Session{Client: api.MaxNum - 100 + uint64(i), Seq: api.MaxNum, A: api.Answer{Err: api.ErrStale, Ver: api.MaxNum, Found: true, Commit: true}})
	}
	for i := range 3 {
		m.S.Open = append(m.S.Open, api.Open{T: greatTx(i)})
	}
	m.S.Ver = api.MaxNum
	// A hold has 34 bytes, and the number of more than 63 of them one byte more.
	for i := range (size - len(machineBytes(m)) - 1) / 34 {
		m.S.Holds = append(m.S.Holds, api.Hold{Key: greatKey(i), T: greatTx(i % 3), Write: true})
	}
	// What is left is made up by the Vals of sessions.
	left := size - len(machineBytes(m))
	for i := range m.Sessions {
		n := min(api.MaxVal, left)
		m.Sessions[i].A.Val = strings.Repeat("x", n)
		left -= n
	}
	return m
}

// P15.1: Bytes and Take of machines whose encoding has MaxText bytes, and about as many.
func TestMaxText(t *testing.T) {
	for size := api.MaxText - 70; size <= api.MaxText+140; size++ {
		m := great(size)
		why := strconv.Itoa(size) + " bytes"
		s := machineBytes(m)
		if len(s) != size || !plainRight(m) {
			t.Fatalf("%s: %d, %v", why, len(s), plainRight(m))
		}
		heldMachine(t, why, m)
		_, e := mach.Bytes(m)
		_, e2 := mach.Take(s)
		if size <= api.MaxText && (e != api.OK || e2 != api.OK) || size > api.MaxText && (e != api.ErrBig || e2 != api.ErrForm) {
			t.Errorf("%s: Bytes %d, Take %d", why, e, e2)
		}
		// ErrArg comes ahead of ErrBig.
		m.S.Open[0].Wounded = true
		if s, e := mach.Bytes(m); e != api.ErrArg || s != "" {
			t.Errorf("%s, not right: Bytes = %x, %d", why, s, e)
		}
	}
	for _, size := range []int{5000, 1 << 14, 1 << 15} {
		heldMachine(t, strconv.Itoa(size)+" bytes", great(size))
	}
}

// P15.1: mixed machines, right or not, and what is near their encodings.
func TestMixedMachines(t *testing.T) {
	r := rand.New(rand.NewSource(15))
	rights, taken := 0, 0
	for range 400 {
		m := mixedMachine(r)
		if heldMachine(t, "mixed", m) {
			rights++
		}
		all := changes(m)
		for range 20 {
			x := all[r.Intn(len(all))]
			if heldMachine(t, x.why, x.m) {
				rights++
			}
		}
		s := machineBytes(m)
		for range 20 {
			b := []byte(s)
			for range 1 + r.Intn(3) {
				b[r.Intn(len(b))] = byte(r.Intn(256) >> r.Intn(8))
			}
			if heldTake(t, "mixed bytes", string(b)) {
				taken++
			}
		}
	}
	if rights < 1500 || taken < 200 {
		t.Errorf("%d machines are right only, %d taken", rights, taken)
	}
}

// mixedMachine is one that mixed jobs lead to.
func mixedMachine(r *rand.Rand) api.Machine {
	m, _ := mach.New(1 + r.Intn(2))
	for range r.Intn(40) {
		m, _ = mach.Do(m, jobBytes(mixedJob(r, m)))
	}
	return m
}

// oneOf is one of a list.
func oneOf[T any](r *rand.Rand, l []T) T { return l[r.Intn(len(l))] }

// mixedTx is one of few transactions, or of more.
func mixedTx(r *rand.Rand) api.Tx {
	if r.Intn(40) == 0 {
		return api.Tx{Age: api.MaxNum, Id: uint64(r.Intn(2)) * api.MaxNum}
	}
	if r.Intn(3) == 0 {
		return api.Tx{Age: uint64(r.Intn(100)), Id: uint64(r.Intn(4))}
	}
	return api.Tx{Age: uint64(1 + r.Intn(6))}
}

// mixedPuts are Puts, most of which fit; of keys that T holds, most often.
func mixedPuts(r *rand.Rand, m api.Machine, t api.Tx) []api.Put {
	var keys []string
	for _, h := range m.S.Holds {
		if h.T == t && h.Write {
			keys = append(keys, h.Key)
		}
	}
	if r.Intn(15) == 0 {
		keys = append(keys, mixedKey(r))
	}
	var l []api.Put
	for _, key := range keys[:min(len(keys), api.MaxPuts)] {
		p := api.Put{Key: key, Val: strings.Repeat("v", r.Intn(r.Intn(api.MaxVal+1)+1))}
		if r.Intn(3) == 0 {
			p = api.Put{Key: key, Gone: true}
		}
		l = append(l, p)
	}
	return l
}

// mixedKey is one of few keys, most often.
func mixedKey(r *rand.Rand) string {
	if r.Intn(30) == 0 {
		return strings.Repeat("z", r.Intn(api.MaxKey+1))
	}
	if r.Intn(4) == 0 {
		return strings.Repeat(string([]byte{byte('a' + r.Intn(26))}), 9)
	}
	return string([]byte{byte('a' + r.Intn(6))})
}

// mixedOrder is one that suits the machine, most often.
func mixedOrder(r *rand.Rand, m api.Machine) api.Order {
	kinds := []int{api.ORead, api.ORead, api.OLock, api.OLock, api.OPrepare, api.OFinish}
	if m.Kind == api.MachCoord {
		kinds = []int{api.OBegin, api.OBegin, api.ODecide, api.OStatus}
	}
	o := api.Order{Kind: oneOf(r, kinds), T: mixedTx(r)}
	if r.Intn(30) == 0 {
		o.Kind = 1 + r.Intn(7)
	}
	switch o.Kind {
	case api.ORead, api.OLock:
		o.Key = mixedKey(r)
	case api.OPrepare:
		o.Puts = mixedPuts(r, m, o.T)
	case api.OFinish, api.ODecide:
		o.Commit = r.Intn(3) > 0
	case api.OBegin:
		for part := range uint64(3) {
			if r.Intn(2) > 0 {
				o.Parts = append(o.Parts, part+uint64(r.Intn(2)))
			}
		}
		slices.Sort(o.Parts)
	}
	return o
}

// mixedJob is one of few clients, or of more; most often the next of its client.
func mixedJob(r *rand.Rand, m api.Machine) api.Job {
	j := api.Job{Client: uint64(1 + r.Intn(6)), Seq: 1, O: mixedOrder(r, m)}
	if r.Intn(5) == 0 {
		j.Client = oneOf(r, []uint64{7, 64, 1 << 14, 1 << 30, api.MaxNum - 1, api.MaxNum, uint64(8 + r.Intn(40))})
	}
	for _, x := range m.Sessions {
		if x.Client == j.Client {
			j.Seq = max(1, x.Seq+oneOf(r, []uint64{1, 1, 1, 1, 2, 50, 0, 1<<64 - 1}))
		}
	}
	if j.Seq > api.MaxNum {
		j.Seq = 1
	}
	return j
}
