package mach_test

import (
	"fmt"
	"math"
	"strconv"
	"strings"
	"testing"

	"ferrule/api"
	"ferrule/mach"
)

// way is a change of a machine, and whether it is right then.
type way struct {
	why string
	ok  bool
	f   func(*api.Machine)
}

// checkWays holds the machine in each of the ways, alone, to the plain words, and to what is said of it.
func checkWays(t *testing.T, told string, ways []way) {
	t.Helper()
	if !heldMachine(t, "as it was", at(told)) {
		t.Fatalf("%s is not right", told)
	}
	for _, x := range ways {
		m := at(told)
		x.f(&m)
		if heldMachine(t, x.why, m) != x.ok {
			t.Errorf("%s: Right(%+v) = %v", x.why, m, !x.ok)
		}
	}
}

// numberWays are those of a number that put puts into the machine.
func numberWays(why string, edges []edge[uint64], put func(*api.Machine, uint64)) []way {
	var l []way
	for _, x := range edges {
		l = append(l, way{why + " " + strconv.FormatUint(x.v, 10), x.ok, func(m *api.Machine) { put(m, x.v) }})
	}
	return l
}

// textWays are those of a text that put puts into the machine.
func textWays(why string, edges []edge[string], put func(*api.Machine, string)) []way {
	var l []way
	for _, x := range edges {
		l = append(l, way{why + " of " + strconv.Itoa(len(x.v)) + " bytes", x.ok, func(m *api.Machine) { put(m, x.v) }})
	}
	return l
}

// P15.1: machines that are right, and not, written out.
func TestRight(t *testing.T) {
	for _, x := range []struct {
		told string
		want bool
	}{
		{"shard", true}, {"coord", true}, {richShard, true}, {richCoord, true}, {"other", false},
		{"shard; ver: 3", true}, {"shard; ver: max", true}, {"shard; ver: 4611686018427387904", false},
		{"coord; ver: 1", false}, {"coord; rows: a 1 1", false}, {"coord; holds: a 1 r", false}, {"coord; open: 1", false}, {"coord; done: 1 no", false},
		{"shard; deals: 1 abort", false}, {"shard; deals: 1 open 1", false},
		{"other; rows: a 1 1", false}, {"other; deals: 1 abort", false}, {"other; sessions: 1 1", false},
		{"shard; sessions: 1 1", true}, {"coord; sessions: 1 1", true}, {"shard; sessions: 1 9, 2 1, 7 5", true}, {"coord; sessions: 1 9, 2 1, 7 5", true},
		{"shard; sessions: 2 1, 1 1", false}, {"shard; sessions: 1 1, 1 1", false}, {"coord; sessions: 1 1, 3 1, 2 1", false}, {"coord; sessions: 1 1, 2 1, 2 2", false},
		{"shard; sessions: 0 1", false}, {"shard; sessions: 1 0", false}, {"coord; sessions: 1 1, 2 0", false},
		{"shard; open: 1, 2; holds: a 1 r, a 2 r", true}, {"shard; open: 1; holds:  1 r", true}, {"shard; open: 1; holds:  1 w", true},
	} {
		if got := heldMachine(t, x.told, at(x.told)); got != x.want {
			t.Errorf("%s: %v", x.told, got)
		}
	}
	heldMachine(t, "lists without elements", emptyLists(at("shard")))
	heldMachine(t, "lists without elements", emptyLists(at("coord")))
	heldMachine(t, "lists without elements", emptyLists(at(richShard)))
	if !mach.Right(emptyLists(at("coord"))) || !mach.Right(emptyLists(at("shard"))) {
		t.Errorf("with lists without elements it is not right")
	}
}

// P15.1: a machine of each Kind, made one of another Kind.
func TestRightKinds(t *testing.T) {
	for _, told := range []string{"shard", "coord", richShard, richCoord, "shard; sessions: 1 1"} {
		is := at(told)
		var ways []way
		for _, kind := range append(otherMachines, api.MachShard, api.MachCoord) {
			bare := len(is.S.Rows)+len(is.C.Deals) == 0 && (kind == api.MachShard || kind == api.MachCoord)
			ways = append(ways, way{"Kind " + strconv.Itoa(kind), bare || kind == is.Kind, func(m *api.Machine) { m.Kind = kind }})
		}
		checkWays(t, told, ways)
	}
}

// P15.1: a shard that is not right in each of the ways that layer 13 names.
func TestRightShard(t *testing.T) {
	checkWays(t, richShard, []way{
		{"Rows not in order", false, func(m *api.Machine) { m.S.Rows[0].Key = "x" }},
		{"Rows of one key", false, func(m *api.Machine) { m.S.Rows[0].Key = "b" }},
		{"a row's Key empty", false, func(m *api.Machine) { m.S.Rows[0].Key = "" }},
		{"a row's Key long", true, func(m *api.Machine) { m.S.Rows[1].Key = strings.Repeat("b", 16) }},
		{"a row's Key too long", false, func(m *api.Machine) { m.S.Rows[1].Key = strings.Repeat("b", 17) }},
		{"a row's Val long", true, func(m *api.Machine) { m.S.Rows[1].Val = strings.Repeat("b", 32) }},
		{"a row's Val too long", false, func(m *api.Machine) { m.S.Rows[1].Val = strings.Repeat("b", 33) }},
		{"a row's Ver great", true, func(m *api.Machine) { m.S.Rows[1].Ver = api.MaxNum }},
		{"a row's Ver too great", false, func(m *api.Machine) { m.S.Rows[1].Ver = api.MaxNum + 1 }},
		{"MaxRows", true, func(m *api.Machine) { m.S.Rows = rowsUpTo(30, "a", "c") }},
		{"a row more than firm Puts leave", false, func(m *api.Machine) { m.S.Rows = rowsUpTo(api.MaxRows) }},
		{"too many Rows", false, func(m *api.Machine) { *m = api.Machine{Kind: api.MachShard}; m.S.Rows = rowsUpTo(api.MaxRows + 1) }},
		{"a hold that conflicts", false, func(m *api.Machine) { m.S.Holds[2].Write = true }},
		{"a hold twice", false, func(m *api.Machine) { m.S.Holds = append(m.S.Holds, m.S.Holds[3]) }},
		{"a hold of nobody", false, func(m *api.Machine) { m.S.Holds[2].T.Id = 77 }},
		{"a hold of one who is wounded", false, func(m *api.Machine) { m.S.Holds[2].T = tx("2") }},
		{"a hold of one who is over", false, func(m *api.Machine) { m.S.Holds[2].T = tx("5") }},
		{"a T twice in Open", false, func(m *api.Machine) { m.S.Open[1].T = tx("1") }},
		{"a T twice in Done", false, func(m *api.Machine) { m.S.Done[1].T = tx("5") }},
		{"a T in Open and Done", false, func(m *api.Machine) { m.S.Done[1].T = tx("2") }},
		{"MaxTx", true, func(m *api.Machine) { m.S.Done = append(m.S.Done, doneUpTo(api.MaxTx-6)...) }},
		{"more than MaxTx", false, func(m *api.Machine) { m.S.Done = append(m.S.Done, doneUpTo(api.MaxTx-5)...) }},
		{"firm and wounded", false, func(m *api.Machine) { m.S.Open[2].Wounded = true }},
		{"Puts that don't fit: a key twice", false, func(m *api.Machine) { m.S.Open[2].Puts[0].Key = "c" }},
		{"Puts that don't fit: Gone with a Val", false, func(m *api.Machine) { m.S.Open[2].Puts[1].Val = "1" }},
		{"Puts that don't fit: a Val too long", false, func(m *api.Machine) { m.S.Open[2].Puts[0].Val = strings.Repeat("v", 33) }},
		{"a Val that is long", true, func(m *api.Machine) { m.S.Open[2].Puts[0].Val = strings.Repeat("v", 32) }},
		{"a put without a hold", false, func(m *api.Machine) { m.S.Open[2].Puts[0].Key = "z" }},
		{"a put with a hold to read", false, func(m *api.Machine) { m.S.Holds[0].Write = false }},
		{"firm without Puts", true, func(m *api.Machine) { m.S.Open[2].Puts = nil }},
		{"Puts, but not firm", false, func(m *api.Machine) { m.S.Open[2].Firm = false }},
		{"a deal", false, func(m *api.Machine) { m.C.Deals = dealsOf("1 abort") }},
	})
}

// rowsUpTo are so many rows: those of these keys first.
func rowsUpTo(n int, keys ...string) []api.Row {
	var l []api.Row
	for i := range n {
		if i < len(keys) {
			l = append(l, api.Row{Key: keys[i]})
			continue
		}
		l = append(l, api.Row{Key: fmt.Sprintf("k%04d", i)})
	}
	return l
}

// doneUpTo are so many elements of Done, of great ages.
func doneUpTo(n int) []api.Done {
	var l []api.Done
	for i := range n {
		l = append(l, api.Done{T: api.Tx{Age: uint64(1000 + i)}})
	}
	return l
}

// P15.1: the numbers of a shard, and the Keys of its Holds, at their edges.
func TestRightShardBounds(t *testing.T) {
	edges := func(why string, put func(*api.Machine, uint64)) {
		t.Helper()
		checkWays(t, richShard, numberWays(why, append([]edge[uint64]{{77, true}}, fromOne[3:]...), put))
	}
	edges("Age of who is open and has a hold", func(m *api.Machine, v uint64) { m.S.Open[0].T.Age, m.S.Holds[2].T.Age = v, v })
	edges("Id of who is open and has a hold", func(m *api.Machine, v uint64) { m.S.Open[0].T.Id, m.S.Holds[2].T.Id = v, v })
	edges("Age of who is firm", func(m *api.Machine, v uint64) { m.S.Open[2].T.Age, m.S.Holds[0].T.Age, m.S.Holds[1].T.Age = v, v, v })
	edges("Id of who is firm", func(m *api.Machine, v uint64) { m.S.Open[2].T.Id, m.S.Holds[0].T.Id, m.S.Holds[1].T.Id = v, v, v })
	edges("Age of who is wounded", func(m *api.Machine, v uint64) { m.S.Open[1].T.Age = v })
	edges("Id of who is wounded", func(m *api.Machine, v uint64) { m.S.Open[1].T.Id = v })
	edges("Age of the first one who is over", func(m *api.Machine, v uint64) { m.S.Done[0].T.Age = v })
	edges("Id of the last one who is over", func(m *api.Machine, v uint64) { m.S.Done[1].T.Id = v })
	checkWays(t, richShard, numberWays("Ver", fromZero, func(m *api.Machine, v uint64) { m.S.Ver = v }))
	for _, i := range []int{2, 3} {
		checkWays(t, richShard, textWays("a hold's Key", textsUpTo(api.MaxKey), func(m *api.Machine, s string) { m.S.Holds[i].Key = s }))
	}
}

// P15.1: a coordinator that is not right in each of the ways that layer 14 names, or is beside a shard.
func TestRightCoord(t *testing.T) {
	checkWays(t, richCoord, []way{
		{"a T twice", false, func(m *api.Machine) { m.C.Deals[0].T = tx("1") }},
		{"a State below", false, func(m *api.Machine) { m.C.Deals[0].State = -1 }},
		{"a State above", false, func(m *api.Machine) { m.C.Deals[0].State = 3 }},
		{"a State by much", false, func(m *api.Machine) { m.C.Deals[0].State = 1 << 32 }},
		{"a State by 2^62", false, func(m *api.Machine) { m.C.Deals[0].State = 1 << 62 }},
		{"no Parts of one that is open", false, func(m *api.Machine) { m.C.Deals[0].Parts = nil }},
		{"no Parts of one that is committed", false, func(m *api.Machine) { m.C.Deals[1].Parts = nil }},
		{"no Parts of one that is aborted", true, func(m *api.Machine) { m.C.Deals[4].Parts = nil }},
		{"Parts not in order", false, func(m *api.Machine) { m.C.Deals[0].Parts = nums([]string{"2", "1"}) }},
		{"a part twice", false, func(m *api.Machine) { m.C.Deals[0].Parts = nums([]string{"2", "2"}) }},
		{"a part 0", false, func(m *api.Machine) { m.C.Deals[0].Parts = nums([]string{"0", "2"}) }},
		{"a part 63", true, func(m *api.Machine) { m.C.Deals[0].Parts = nums([]string{"2", "63"}) }},
		{"a part 64", false, func(m *api.Machine) { m.C.Deals[0].Parts = nums([]string{"2", "64"}) }},
		{"MaxPart", true, func(m *api.Machine) { m.C.Deals[0].Parts = m.C.Deals[4].Parts }},
		{"more than MaxPart", false, func(m *api.Machine) { m.C.Deals[4].Parts = append(m.C.Deals[4].Parts, 9) }},
		{"MaxTx", true, func(m *api.Machine) { m.C.Deals = append(m.C.Deals, dealsUpTo(api.MaxTx-5)...) }},
		{"more than MaxTx", false, func(m *api.Machine) { m.C.Deals = append(m.C.Deals, dealsUpTo(api.MaxTx-4)...) }},
		{"a row", false, func(m *api.Machine) { m.S.Rows = rowsOf("a 1 1") }},
		{"a hold", false, func(m *api.Machine) { m.S.Holds = holdsOf("a 1 r") }},
		{"one who is open", false, func(m *api.Machine) { m.S.Open = openOf("1") }},
		{"one who is over", false, func(m *api.Machine) { m.S.Done = doneOf("1 yes") }},
		{"a hold of one who is open", false, func(m *api.Machine) { m.S = at("shard; holds: a 1 r; open: 1").S }},
		{"a shard", false, func(m *api.Machine) { m.S = at(richShard).S }},
		{"a shard's Ver", false, func(m *api.Machine) { m.S.Ver = 1 }},
		{"a shard's Ver, great", false, func(m *api.Machine) { m.S.Ver = math.MaxUint64 }},
	})
	for _, i := range []int{0, 2, 4} {
		checkWays(t, richCoord, numberWays("Age", append([]edge[uint64]{{77, true}}, fromOne[3:]...), func(m *api.Machine, v uint64) { m.C.Deals[i].T.Age = v }))
		checkWays(t, richCoord, numberWays("Id", append([]edge[uint64]{{77, true}}, fromOne[3:]...), func(m *api.Machine, v uint64) { m.C.Deals[i].T.Id = v }))
	}
}

// dealsUpTo are so many deals, of great ages.
func dealsUpTo(n int) []api.Deal {
	var l []api.Deal
	for i := range n {
		l = append(l, api.Deal{T: api.Tx{Age: uint64(1000 + i)}, State: api.DealAbort})
	}
	return l
}

// P15.1: sessions that are not right in each of the ways that the chapter names, in machines of both kinds.
func TestRightSessions(t *testing.T) {
	for _, told := range []string{richShard, richCoord, "shard; sessions: 5 1, 7 1, 9 1", "coord; sessions: 5 1, 7 1, 9 1"} {
		for i := range 3 {
			number := func(why string, edges []edge[uint64], put func(*api.Session, uint64)) {
				t.Helper()
				checkWays(t, told, numberWays(why, edges, func(m *api.Machine, v uint64) { put(&m.Sessions[i], v) }))
			}
			number("Seq", fromOne, func(x *api.Session, v uint64) { x.Seq = v })
			number("Ver", fromZero, func(x *api.Session, v uint64) { x.A.Ver = v })
			checkWays(t, told, textWays("Val", textsUpTo(api.MaxVal), func(m *api.Machine, s string) { m.Sessions[i].A.Val = s }))
			for _, x := range []edge[int]{{math.MinInt, false}, {-1 << 32, false}, {-1, false}, {0, true}, {1, true}, {13, true}, {14, true}, {15, false}, {16, false}, {256, false}, {1 << 32, false}, {1<<62 - 1, false}, {math.MaxInt, false}} {
				checkWays(t, told, []way{{"Err " + strconv.Itoa(x.v), x.ok, func(m *api.Machine) { m.Sessions[i].A.Err = api.Errno(x.v) }}})
			}
			checkWays(t, told, []way{
				{"Found", true, func(m *api.Machine) { m.Sessions[i].A.Found = true }},
				{"Commit", true, func(m *api.Machine) { m.Sessions[i].A.Commit = true }},
				{"a session twice", false, func(m *api.Machine) { m.Sessions = append(m.Sessions[:i+1], m.Sessions[i:]...) }},
				{"a Client as that of the one ahead", i == 0, func(m *api.Machine) { m.Sessions[i].Client = m.Sessions[max(i-1, 0)].Client }},
				{"a Client one above that of the one ahead", true, func(m *api.Machine) { m.Sessions[i].Client = m.Sessions[max(i-1, 0)].Client + uint64(min(i, 1)) }},
			})
		}
		checkWays(t, told, numberWays("the first Client", []edge[uint64]{{0, false}, {1, true}, {39, false}, {api.MaxNum, false}, {math.MaxUint64, false}}, func(m *api.Machine, v uint64) { m.Sessions[0].Client = v }))
		checkWays(t, told, numberWays("the last Client", append([]edge[uint64]{{0, false}, {1, false}}, fromOne[3:]...), func(m *api.Machine, v uint64) { m.Sessions[2].Client = v }))
		for _, n := range []int{0, 1, 15, 16, 17, 18, 63, 64, 100, 300} {
			checkWays(t, told, []way{{strconv.Itoa(n) + " sessions", n <= 16, func(m *api.Machine) { m.Sessions = sessionsUpTo(n) }}})
		}
	}
}

// sessionsUpTo are so many sessions, of the clients 10, 20, ..
func sessionsUpTo(n int) []api.Session {
	var l []api.Session
	for i := range n {
		l = append(l, api.Session{Client: uint64(10 * (i + 1)), Seq: uint64(5 + i), A: api.Answer{Ver: uint64(i)}})
	}
	return l
}
