package mach_test

import (
	"math"
	"slices"
	"strconv"
	"strings"
	"testing"

	"ferrule/api"
	"ferrule/mach"
)

// someJobs are valid ones of all kinds, with something in each field that the kind uses, and with nothing.
func someJobs() []api.Job {
	all := jobs("1 1: read 1 a, 2 3: lock 1.max key, 63 64: prepare max.1 a=1 b- c=, 3 max: finish 2 yes, max 1: finish 2 no, 1 2: begin 1 1 2 63, 1 16384: decide 1 yes, 64 2: decide 0 no, 5 5: status 7.70")
	all = append(all, jobs("1 1: read 1 , 1 1: lock 1 , 1 1: prepare 1, 1 1: begin 1")...)
	return append(all, greatJob(), api.Job{Client: 1, Seq: 1, O: api.Order{Kind: api.ORead, T: tx("1"), Key: "\x00\xff\x80", Puts: []api.Put{}, Parts: []uint64{}}})
}

// greatJob is a valid one that has the most bytes.
func greatJob() api.Job {
	j := job("max max: prepare max.max")
	for range api.MaxPuts {
		j.O.Puts = append(j.O.Puts, api.Put{Key: strings.Repeat("k", api.MaxKey), Val: strings.Repeat("v", api.MaxVal), Gone: true})
	}
	return j
}

// P15.1: the chapter's example, and jobs of all kinds, written out.
func TestJob(t *testing.T) {
	for _, x := range []struct{ job, s string }{
		{"1 1: read 1 a", "\x01\x01\x01\x01\x00\x01a\x00\x00\x00"},
		{"2 3: lock 4.5 ab", "\x02\x03\x02\x04\x05\x02ab\x00\x00\x00"},
		{"63 64: prepare 1 a=12 b-", "\x3f\x40\x40\x03\x01\x00\x00\x02\x01a\x0212\x00\x01b\x00\x01\x00\x00"},
		{"1 1: prepare 1", "\x01\x01\x03\x01\x00\x00\x00\x00\x00"},
		{"1 1: finish 1 yes", "\x01\x01\x04\x01\x00\x00\x00\x01\x00"},
		{"1 1: finish 1 no", "\x01\x01\x04\x01\x00\x00\x00\x00\x00"},
		{"max 16384: begin 1 1 2 70", "\xff\xff\xff\xff\xff\xff\xff\xff\x80\x00\x40\x00\x05\x01\x00\x00\x00\x00\x03\x01\x02\x40\x46"},
		{"1 1: decide 1 yes", "\x01\x01\x06\x01\x00\x00\x00\x01\x00"},
		{"1 1: decide 1 no", "\x01\x01\x06\x01\x00\x00\x00\x00\x00"},
		{"1 1: status 0.max", "\x01\x01\x07\x00\xff\xff\xff\xff\xff\xff\xff\xff\x00\x00\x00\x00"},
		{"1 1: read 1 ", "\x01\x01\x01\x01\x00\x00\x00\x00\x00"},
	} {
		if s, e := mach.Job(job(x.job)); e != api.OK || s != x.s {
			t.Errorf("Job(%s) = %x, %d, want %x", x.job, s, e, x.s)
		}
		if j, e := mach.TakeJob(x.s); e != api.OK || !sameJob(j, job(x.job)) {
			t.Errorf("TakeJob(%x) = %+v, %d, want %s", x.s, j, e, x.job)
		}
	}
	for _, j := range someJobs() {
		if !heldJob(t, "a valid one", j) {
			t.Fatalf("%+v is not valid", j)
		}
	}
}

// edge is a field's value, and whether it may be.
type edge[T any] struct {
	v  T
	ok bool
}

// fromOne are edges of numbers from 1 to MaxNum, fromZero of such from 0.
var (
	fromOne  = []edge[uint64]{{0, false}, {1, true}, {2, true}, {1 << 32, true}, {api.MaxNum - 1, true}, {api.MaxNum, true}, {api.MaxNum + 1, false}, {1<<62 + 1, false}, {1 << 63, false}, {math.MaxUint64, false}}
	fromZero = append([]edge[uint64]{{0, true}}, fromOne[1:]...)
)

// textsUpTo are edges of texts of at most so many bytes.
func textsUpTo(n int) []edge[string] {
	var l []edge[string]
	for _, x := range []edge[int]{{0, true}, {1, true}, {n - 1, true}, {n, true}, {n + 1, false}, {2 * n, false}, {64, n >= 64}, {256, false}, {256 + n, false}, {api.MaxText, false}, {api.MaxText + 1, false}} {
		l = append(l, edge[string]{strings.Repeat("\xff", x.v), x.ok})
	}
	return l
}

// edgesOf holds a job in which put has put each of the values to whether it may be.
func edgesOf[T any](t *testing.T, why string, told string, edges []edge[T], put func(*api.Job, T)) {
	t.Helper()
	for i, x := range edges {
		j := job(told)
		put(&j, x.v)
		if heldJob(t, why, j) != x.ok {
			t.Fatalf("%s, the edge %d: Job(%+v) is valid: %v", why, i, j, !x.ok)
		}
	}
}

// P15.1: Client, Seq and T at their edges, for each kind.
func TestJobNumbers(t *testing.T) {
	for _, told := range []string{"1 1: read 1 a", "1 1: lock 1 a", "1 1: prepare 1 a=1", "1 1: finish 1 yes", "1 1: begin 1 1 2", "1 1: decide 1 yes", "1 1: status 1"} {
		edgesOf(t, "Client", told, fromOne, func(j *api.Job, v uint64) { j.Client = v })
		edgesOf(t, "Seq", told, fromOne, func(j *api.Job, v uint64) { j.Seq = v })
		edgesOf(t, "Age", told, fromZero, func(j *api.Job, v uint64) { j.O.T.Age = v })
		edgesOf(t, "Id", told, fromZero, func(j *api.Job, v uint64) { j.O.T.Id = v })
	}
}

// P15.1: each Kind, and others.
func TestJobKinds(t *testing.T) {
	edges := []edge[int]{{math.MinInt, false}, {math.MinInt + 1, false}, {-1, false}, {0, false}, {1, true}, {2, true}, {3, true}, {4, true}, {5, true}, {6, true}, {7, true}, {8, false}, {9, false}, {64, false}, {1<<8 + 1, false}, {1<<32 + 1, false}, {1<<62 - 1, false}, {math.MaxInt, false}}
	edgesOf(t, "Kind", "1 1: status 1", edges, func(j *api.Job, kind int) { j.O.Kind = kind })
}

// P15.1: Key, Puts, Val and Parts at their limits, and one above.
func TestJobLimits(t *testing.T) {
	for _, told := range []string{"1 1: read 1 ", "1 1: lock 1 "} {
		edgesOf(t, "Key", told, textsUpTo(api.MaxKey), func(j *api.Job, s string) { j.O.Key = s })
	}
	for _, i := range []int{0, 3, api.MaxPuts - 1} {
		many := "1 1: prepare 1" + strings.Repeat(" a=1", api.MaxPuts)
		edgesOf(t, "the Key of a put", many, textsUpTo(api.MaxKey), func(j *api.Job, s string) { j.O.Puts[i].Key = s })
		edgesOf(t, "the Val of a put", many, textsUpTo(api.MaxVal), func(j *api.Job, s string) { j.O.Puts[i].Val = s })
		edgesOf(t, "Gone", many, []edge[bool]{{false, true}, {true, true}}, func(j *api.Job, gone bool) { j.O.Puts[i].Gone = gone })
		parts := "1 1: begin 1" + strings.Repeat(" 1", api.MaxPart)
		edgesOf(t, "a part", parts, fromZero, func(j *api.Job, v uint64) { j.O.Parts[i] = v })
	}
	numbers := []edge[int]{{0, true}, {1, true}, {7, true}, {8, true}, {9, false}, {16, false}, {63, false}, {64, false}, {256, false}, {3000, false}}
	edgesOf(t, "Puts", "1 1: prepare 1", numbers, func(j *api.Job, n int) { j.O.Puts = make([]api.Put, n) })
	edgesOf(t, "Puts of a key", "1 1: prepare 1", numbers, func(j *api.Job, n int) { j.O.Puts = slices.Repeat([]api.Put{{Key: "a", Val: "1"}}, n) })
	edgesOf(t, "Parts", "1 1: begin 1", numbers, func(j *api.Job, n int) { j.O.Parts = make([]uint64, n) })
	edgesOf(t, "Parts of a number", "1 1: begin 1", numbers, func(j *api.Job, n int) { j.O.Parts = slices.Repeat([]uint64{api.MaxNum}, n) })
	if s, _ := mach.Job(greatJob()); len(s) != 8+8+1+16+1+1+8*(1+16+1+32+1)+1+1 {
		t.Errorf("the greatest job has %d bytes", len(s))
	}
}

// P15.1: each field that a Kind does not use, alone not empty or true.
func TestJobUnused(t *testing.T) {
	fields := []struct {
		why  string
		uses []int
		put  func(*api.Order)
	}{
		{"Key", []int{api.ORead, api.OLock}, func(o *api.Order) { o.Key = "a" }},
		{"a Key of a zero", []int{api.ORead, api.OLock}, func(o *api.Order) { o.Key = "\x00" }},
		{"Puts", []int{api.OPrepare}, func(o *api.Order) { o.Puts = putsOf([]string{"a=1"}) }},
		{"an empty put", []int{api.OPrepare}, func(o *api.Order) { o.Puts = make([]api.Put, 1) }},
		{"Commit", []int{api.OFinish, api.ODecide}, func(o *api.Order) { o.Commit = true }},
		{"Parts", []int{api.OBegin}, func(o *api.Order) { o.Parts = []uint64{1} }},
		{"a part 0", []int{api.OBegin}, func(o *api.Order) { o.Parts = make([]uint64, 1) }},
	}
	for kind := api.ORead; kind <= api.OStatus; kind++ {
		for _, x := range fields {
			j := job("1 1: status 1")
			j.O.Kind = kind
			if !heldJob(t, "alone", j) {
				t.Errorf("kind %d without anything is not valid", kind)
			}
			j.O.Puts, j.O.Parts = []api.Put{}, []uint64{}
			if !heldJob(t, "lists without elements", j) {
				t.Errorf("kind %d with lists without elements is not valid", kind)
			}
			x.put(&j.O)
			if heldJob(t, x.why, j) != slices.Contains(x.uses, kind) {
				t.Errorf("%s of kind %d is wrong", x.why, kind)
			}
		}
	}
}

// mangled are texts near that of an encoding: its beginnings, with a byte more, with one less or changed, with numbers in other forms, truth values and other numbers that are not theirs.
func mangled(l []token) []string {
	s := bytesOf(l)
	all := []string{s + "\x00", s + "\x01", s + "\xff", s + s, "\x00" + s, s + strings.Repeat("\x00", api.MaxText-len(s)), s + strings.Repeat("\x00", api.MaxText)}
	for i := range len(s) {
		all = append(all, s[:i], s[i+1:], s[:i]+s[i+1:], s[:i]+"\x00"+s[i:])
		for _, mask := range []byte{1, 2, 3, 4, 7, 8, 16, 32, 0x40, 0x80, 0xc0, 0xff} {
			all = append(all, s[:i]+string([]byte{s[i] ^ mask})+s[i+1:])
		}
	}
	for i, x := range l {
		head, tail := bytesOf(l[:i]), x.text+bytesOf(l[i+1:])
		for _, size := range []int{1, 2, 4, 8} {
			if size > sizeOf(x.v) {
				all = append(all, head+inForm(x.v, size)+tail)
			}
		}
		for _, v := range []uint64{0, 1, 2, 3, x.v + 1, x.v - 1, 1 << 8, 1<<8 + x.v, 1<<32 + x.v, 1 << 32, 1<<32 + 1, 1 << 61, most} {
			if v <= most {
				all = append(all, head+inForm(v, sizeOf(v))+tail)
			}
		}
	}
	return all
}

// P15.1: TakeJob of what is near an encoding.
func TestTakeJobMangled(t *testing.T) {
	for _, j := range someJobs() {
		s := jobBytes(j)
		for i := range len(s) {
			if heldTakeJob(t, "a beginning", s[:i]) {
				t.Errorf("the beginning of %d bytes of %x is a job", i, s)
			}
		}
		for b := range 256 {
			if heldTakeJob(t, "a byte more", s+string([]byte{byte(b)})) {
				t.Errorf("%x with the byte %x more is a job", s, b)
			}
		}
		for _, x := range mangled(jobTokens(j)) {
			heldTakeJob(t, "mangled", x)
		}
	}
}

// P15.1: TakeJob of a job in which one byte is any other one.
func TestTakeJobBytes(t *testing.T) {
	for _, told := range []string{"1 1: read 1 a", "2 70: prepare 3 a=1 b-", "1 1: begin 1 1 2", "1 2: decide 1 yes"} {
		s := jobBytes(job(told))
		taken := 0
		for i := range len(s) {
			for b := range 256 {
				if heldTakeJob(t, "a byte changed", s[:i]+string([]byte{byte(b)})+s[i+1:]) {
					taken++
				}
			}
		}
		if taken <= len(s) || taken > 128*len(s) {
			t.Errorf("%s: %d of them are jobs", told, taken)
		}
	}
}

// P15.1: numbers and truth values in forms that are not theirs, written out.
func TestTakeJobForms(t *testing.T) {
	for _, s := range []string{
		"\x40\x01\x01\x01\x01\x00\x01a\x00\x00\x00",                         // Client in two bytes
		"\x01\x80\x00\x00\x01\x01\x01\x00\x01a\x00\x00\x00",                 // Seq in four
		"\x01\x01\xc0\x00\x00\x00\x00\x00\x00\x01\x01\x00\x01a\x00\x00\x00", // Kind in eight
		"\x01\x01\x01\x40\x01\x00\x01a\x00\x00\x00",                         // Age
		"\x01\x01\x01\x01\x40\x00\x01a\x00\x00\x00",                         // Id
		"\x01\x01\x01\x01\x00\x40\x01a\x00\x00\x00",                         // the length of Key
		"\x01\x01\x01\x01\x00\x01a\x40\x00\x00\x00",                         // the number of Puts
		"\x01\x01\x01\x01\x00\x01a\x00\x40\x00\x00",                         // Commit
		"\x01\x01\x01\x01\x00\x01a\x00\x00\x40\x00",                         // the number of Parts
		"\x01\x01\x04\x01\x00\x00\x00\x02\x00",                              // Commit 2
		"\x01\x01\x04\x01\x00\x00\x00\x40\x01\x00",                          // Commit 1, in two bytes
		"\x01\x01\x04\x01\x00\x00\x00\x3f\x00",                              // Commit 63
		"\x01\x01\x04\x01\x00\x00\x00\xc0\x00\x00\x01\x00\x00\x00\x01\x00",  // Commit 2^32 + 1
		"\x01\x01\x03\x01\x00\x00\x01\x01a\x00\x02\x00\x00",                 // Gone 2
		"\x01\x01\xc0\x00\x00\x01\x00\x00\x00\x01\x01\x00\x01a\x00\x00\x00", // Kind 2^32 + 1
		"\x01\x01\x00\x01\x00\x00\x00\x00\x00", "\x01\x01\x08\x01\x00\x00\x00\x00\x00",
		"\x00\x01\x01\x01\x00\x01a\x00\x00\x00", "\x01\x00\x01\x01\x00\x01a\x00\x00\x00", // Client 0, Seq 0
		"\x01\x01\x01\x01\x00\x01a\x00\x01\x00", "\x01\x01\x01\x01\x00\x01a\x00\x00\x01\x01", // what ORead does not use
		"", "\x00", "a", "junk",
	} {
		if j, e := mach.TakeJob(s); e != api.ErrForm || !zeroJob(j) {
			t.Errorf("TakeJob(%x) = %+v, %d, want ErrForm", s, j, e)
		}
	}
}

// P15.1: TakeJob of long texts, and of such as claim much.
func TestTakeJobLong(t *testing.T) {
	head := "\x01\x01\x03\x01\x00\x00"
	for _, count := range []uint64{9, 1 << 13, 1 << 20, 1 << 32, 1 << 61, most} {
		for _, n := range []int{0, 1, 9, 1000, 1 << 20} {
			why := strconv.FormatUint(count, 10) + " claimed, " + strconv.Itoa(n) + " there"
			for _, s := range []string{
				head + inForm(count, 8) + strings.Repeat("\x00\x00\x00", n) + "\x00\x00",
				head + inForm(count, sizeOf(count)) + strings.Repeat("\x00\x00\x00", n) + "\x00\x00",
				"\x01\x01\x05\x01\x00\x00\x00\x00" + inForm(count, sizeOf(count)) + strings.Repeat("\x01", n),
				"\x01\x01\x01\x01\x00" + inForm(count, sizeOf(count)) + strings.Repeat("\x00", n),
			} {
				if j, e := mach.TakeJob(s); e != api.ErrForm || !zeroJob(j) {
					t.Errorf("%s: TakeJob = %+v, %d, want ErrForm", why, j, e)
				}
			}
		}
	}
	for _, b := range []string{"\x00", "\x01", "\x3f", "\xff", "a"} {
		for _, n := range []int{1, 10, 4095, 4096, 4097, 1 << 22} {
			if j, e := mach.TakeJob(strings.Repeat(b, n)); e != api.ErrForm || !zeroJob(j) {
				t.Errorf("TakeJob of %d times %x = %+v, %d, want ErrForm", n, b, j, e)
			}
		}
	}
}
