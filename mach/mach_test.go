package mach_test

import (
	"math"
	"reflect"
	"slices"
	"strconv"
	"strings"
	"testing"

	"ferrule/api"
	"ferrule/mach"
)

// words are what commas separate.
func words(told string) []string {
	if told == "" {
		return nil
	}
	return strings.Split(told, ", ")
}

// num is a number; "max" is MaxNum.
func num(told string) uint64 {
	if told == "max" {
		return api.MaxNum
	}
	n, err := strconv.ParseUint(told, 10, 64)
	if err != nil {
		panic(err)
	}
	return n
}

// nums are several.
func nums(told []string) []uint64 {
	var l []uint64
	for _, x := range told {
		l = append(l, num(x))
	}
	return l
}

// tx is a transaction: "2" of the age 2, "2.1" with the Id 1.
func tx(told string) api.Tx {
	age, id, ok := strings.Cut(told, ".")
	if !ok {
		id = "0"
	}
	return api.Tx{Age: num(age), Id: num(id)}
}

// putsOf are puts: "a=1" writes, "b-" is Gone.
func putsOf(told []string) []api.Put {
	var l []api.Put
	for _, x := range told {
		if key, gone := strings.CutSuffix(x, "-"); gone {
			l = append(l, api.Put{Key: key, Gone: true})
			continue
		}
		key, val, ok := strings.Cut(x, "=")
		if !ok {
			panic(told)
		}
		l = append(l, api.Put{Key: key, Val: val})
	}
	return l
}

// holdsOf are holds: "a 2 r, b 2.1 w".
func holdsOf(told string) []api.Hold {
	var l []api.Hold
	for _, x := range words(told) {
		part := strings.Split(x, " ")
		l = append(l, api.Hold{Key: part[0], T: tx(part[1]), Write: part[2] == "w"})
	}
	return l
}

// rowsOf are rows: "a 2 7, b 1 7".
func rowsOf(told string) []api.Row {
	var l []api.Row
	for _, x := range words(told) {
		part := strings.Split(x, " ")
		l = append(l, api.Row{Key: part[0], Val: part[1], Ver: num(part[2])})
	}
	return l
}

// openOf are elements of Open: "1, 2 wounded, 3 firm a=1 b-".
func openOf(told string) []api.Open {
	var l []api.Open
	for _, x := range words(told) {
		part := strings.Split(x, " ")
		o := api.Open{T: tx(part[0])}
		for i, y := range part[1:] {
			if y == "wounded" {
				o.Wounded = true
				continue
			}
			if y == "firm" {
				o.Firm = true
				continue
			}
			o.Puts = putsOf(part[1+i:])
			break
		}
		l = append(l, o)
	}
	return l
}

// doneOf are elements of Done: "1 yes, 2 no".
func doneOf(told string) []api.Done {
	var l []api.Done
	for _, x := range words(told) {
		part := strings.Split(x, " ")
		l = append(l, api.Done{T: tx(part[0]), Commit: part[1] == "yes"})
	}
	return l
}

// dealsOf are deals: "1 open 1 2, 2.1 commit 3, 4 abort".
func dealsOf(told string) []api.Deal {
	states := map[string]int{"open": api.DealOpen, "commit": api.DealCommit, "abort": api.DealAbort}
	var l []api.Deal
	for _, x := range words(told) {
		part := strings.Split(x, " ")
		l = append(l, api.Deal{T: tx(part[0]), State: states[part[1]], Parts: nums(part[2:])})
	}
	return l
}

// sessionsOf are sessions: the client, the Seq and what was answered: "1 2, 3 9 err 13 commit, 5 1 val x ver 7 found".
func sessionsOf(told string) []api.Session {
	var l []api.Session
	for _, x := range words(told) {
		part := strings.Split(x, " ")
		s := api.Session{Client: num(part[0]), Seq: num(part[1])}
		for i, y := range part {
			switch y {
			case "err":
				s.A.Err = api.Errno(num(part[i+1]))
			case "val":
				s.A.Val = part[i+1]
			case "ver":
				s.A.Ver = num(part[i+1])
			case "found":
				s.A.Found = true
			case "commit":
				s.A.Commit = true
			}
		}
		l = append(l, s)
	}
	return l
}

// at is a machine: "shard; rows: a 2 7; ver: 7; sessions: 1 2", or "coord; deals: 1 open 1 2", each part if it is not empty.
func at(told string) api.Machine {
	kind, parts, _ := strings.Cut(told, "; ")
	m := api.Machine{Kind: map[string]int{"shard": api.MachShard, "coord": api.MachCoord}[kind]}
	for _, x := range strings.Split(parts, "; ") {
		what, is, _ := strings.Cut(x, ": ")
		switch what {
		case "rows":
			m.S.Rows = rowsOf(is)
		case "holds":
			m.S.Holds = holdsOf(is)
		case "open":
			m.S.Open = openOf(is)
		case "done":
			m.S.Done = doneOf(is)
		case "ver":
			m.S.Ver = num(is)
		case "deals":
			m.C.Deals = dealsOf(is)
		case "sessions":
			m.Sessions = sessionsOf(is)
		case "":
		default:
			panic(told)
		}
	}
	return m
}

// Machines that are right and have something of each kind.
const (
	richShard = "shard; rows: a 2 7, b  0; holds: a 3.1 w, c 3.1 w, d 1 r, d 4 r; open: 1, 2 wounded, 3.1 firm a=9 c-, 4; done: 5 yes, 6.max no; ver: 7; sessions: 1 1 val 2 ver 7 found, 3 9 err 13 commit, max max err 14"
	richCoord = "coord; deals: 4 open 1 2, 2 commit 3 63, 1 abort, 2.1 open 2, max.max abort 1 2 3 4 5 6 7 8; sessions: 1 1, 2 70 commit, 40 2 err 13 commit"
)

// order is one: "read 1 a", "lock 1 a", "prepare 1 a=1 b-", "finish 1 yes", "begin 1 1 2", "decide 1 no", "status 1".
func order(told string) api.Order {
	part := strings.Split(told, " ")
	o := api.Order{T: tx(part[1])}
	switch part[0] {
	case "read":
		o.Kind, o.Key = api.ORead, part[2]
	case "lock":
		o.Kind, o.Key = api.OLock, part[2]
	case "prepare":
		o.Kind, o.Puts = api.OPrepare, putsOf(part[2:])
	case "finish":
		o.Kind, o.Commit = api.OFinish, part[2] == "yes"
	case "begin":
		o.Kind, o.Parts = api.OBegin, nums(part[2:])
	case "decide":
		o.Kind, o.Commit = api.ODecide, part[2] == "yes"
	case "status":
		o.Kind = api.OStatus
	default:
		panic(told)
	}
	return o
}

// job is one: "2 3: lock 1 a" is the third of client 2.
func job(told string) api.Job {
	who, what, ok := strings.Cut(told, ": ")
	client, seq, _ := strings.Cut(who, " ")
	if !ok {
		panic(told)
	}
	return api.Job{Client: num(client), Seq: num(seq), O: order(what)}
}

// jobs are several.
func jobs(told string) []api.Job {
	var l []api.Job
	for _, x := range words(told) {
		l = append(l, job(x))
	}
	return l
}

// no is an error alone.
func no(e api.Errno) api.Answer { return api.Answer{Err: e} }

// trimmed is a copy of a machine in which no list is empty and not nil.
func trimmed(m api.Machine) api.Machine {
	m.S.Rows, m.S.Holds, m.S.Done = plainList(m.S.Rows), plainList(m.S.Holds), plainList(m.S.Done)
	m.S.Open, m.C.Deals, m.Sessions = plainList(m.S.Open), plainList(m.C.Deals), plainList(m.Sessions)
	for i := range m.S.Open {
		m.S.Open[i].Puts = plainList(m.S.Open[i].Puts)
	}
	for i := range m.C.Deals {
		m.C.Deals[i].Parts = plainList(m.C.Deals[i].Parts)
	}
	return m
}

// plainList is a copy of a list that is nil if it has nothing.
func plainList[T any](l []T) []T {
	if len(l) == 0 {
		return nil
	}
	return slices.Clone(l)
}

// trimmedJob is a copy of a job in which no list is empty and not nil.
func trimmedJob(j api.Job) api.Job {
	j.O.Puts, j.O.Parts = plainList(j.O.Puts), plainList(j.O.Parts)
	return j
}

// plainSame: are two machines the same, element by element?
func plainSame(a, b api.Machine) bool { return reflect.DeepEqual(trimmed(a), trimmed(b)) }

// P15.1: New of both kinds, and of others.
func TestNew(t *testing.T) {
	for _, kind := range []int{api.MachShard, api.MachCoord} {
		m, e := mach.New(kind)
		if e != api.OK || !plainSame(m, api.Machine{Kind: kind}) || !mach.Right(m) {
			t.Errorf("New(%d) = %+v, %d", kind, m, e)
		}
	}
	for _, kind := range otherMachines {
		if m, e := mach.New(kind); e != api.ErrArg || !reflect.DeepEqual(m, api.Machine{}) {
			t.Errorf("New(%d) = %+v, %d, want ErrArg", kind, m, e)
		}
	}
}

// otherMachines are kinds of which there is no machine.
var otherMachines = []int{0, 3, 4, -1, -2, 1<<8 + 1, 1<<32 + 1, 1<<32 + 2, 1<<62 + 1, math.MinInt, math.MinInt + 1, math.MinInt + 2, math.MaxInt}

// P15.1: Same of a machine and of one that differs in one element alone.
func TestSame(t *testing.T) {
	for _, told := range []string{"shard", "coord", richShard, richCoord, "other; ver: 7; deals: 1 open; sessions: 1 2, 1 2"} {
		a, b := at(told), at(told)
		checkSame(t, "twice the same", a, b, true)
		for _, x := range changes(a) {
			checkSame(t, x.why, x.m, b, false)
			checkSame(t, x.why+", and itself", x.m, x.m, true)
		}
	}
}

// checkSame holds Same to what it is to answer, both ways round.
func checkSame(t *testing.T, why string, a, b api.Machine, want bool) {
	t.Helper()
	if mach.Same(a, b) != want || mach.Same(b, a) != want {
		t.Errorf("%s: Same(%+v, %+v) = %v, %v", why, a, b, mach.Same(a, b), mach.Same(b, a))
	}
	if plainSame(a, b) != want {
		t.Fatalf("%s: the test is wrong", why)
	}
}

// changed is a machine, and what was changed of it.
type changed struct {
	why string
	m   api.Machine
}

// changes are copies of the machine, each of which has one number, text or truth value changed, or one element of a list more, less or elsewhere.
func changes(m api.Machine) []changed {
	var all []changed
	// A place is asked for by its number: walk does with the place of that number what it is to do, and tells whether there is one.
	for i := 0; ; i++ {
		for way := range 4 {
			x := trimmed(m)
			left := i
			why, done := walk(reflect.ValueOf(&x).Elem(), "m", way, &left)
			if left >= 0 {
				return all
			}
			if done {
				all = append(all, changed{why, x})
			}
		}
	}
}

// walk changes the place of the number left, in one of four ways, if it can be changed so; left is below 0 then, whether it could or not.
func walk(v reflect.Value, name string, way int, left *int) (string, bool) {
	switch v.Kind() {
	case reflect.Struct:
		for i := range v.NumField() {
			if why, done := walk(v.Field(i), name+"."+v.Type().Field(i).Name, way, left); *left < 0 {
				return why, done
			}
		}
		return "", false
	case reflect.Slice:
		for i := range v.Len() {
			if why, done := walk(v.Index(i), name+"["+strconv.Itoa(i)+"]", way, left); *left < 0 {
				return why, done
			}
		}
	}
	if *left--; *left >= 0 {
		return "", false
	}
	return name + ", changed in the way " + strconv.Itoa(way), changePlace(v, way)
}

// changePlace changes a place in one of four ways, if it can be changed so.
func changePlace(v reflect.Value, way int) bool {
	switch v.Kind() {
	case reflect.Int:
		v.SetInt(v.Int() + []int64{1, -1, 1 << 32, math.MinInt64}[way])
	case reflect.Uint64:
		v.SetUint(v.Uint() + []uint64{1, math.MaxUint64, 1 << 32, 1 << 63}[way])
	case reflect.Bool:
		v.SetBool(!v.Bool())
	case reflect.String:
		s := v.String()
		if s == "" && way > 1 {
			return false
		}
		v.SetString([]string{s + "x", "\x00" + s, s[:max(len(s)-1, 0)], strings.ToUpper(s) + " "}[way])
	case reflect.Slice:
		return changeList(v, way)
	}
	return true
}

// changeList changes a list in one of four ways, if it can be changed so.
func changeList(v reflect.Value, way int) bool {
	n := v.Len()
	switch {
	case way == 0:
		v.Set(reflect.Append(v, reflect.Zero(v.Type().Elem())))
		return true
	case way == 1 && n > 0:
		v.Set(v.Slice(0, n-1))
		return true
	case way == 2 && n > 0:
		v.Set(v.Slice(1, n))
		return true
	case way == 3 && n > 1:
		a, b := v.Index(0).Interface(), v.Index(n-1).Interface()
		v.Index(0).Set(reflect.ValueOf(b))
		v.Index(n - 1).Set(reflect.ValueOf(a))
		return !reflect.DeepEqual(a, b)
	}
	return false
}

// P15.1: Same: a list that is nil is one without elements, and what stands behind a list is nothing to it.
func TestSameOfEmptyLists(t *testing.T) {
	for _, kind := range []string{"shard", "coord"} {
		checkSame(t, "no elements", emptyLists(at(kind)), at(kind), true)
	}
	a, b := at(richShard), emptyLists(at(richShard))
	checkSame(t, "Puts without elements", a, b, true)
	b.Sessions = append(b.Sessions, api.Session{Client: 9})[:3]
	b.S.Rows = append(b.S.Rows, api.Row{Key: "z"})[:2]
	checkSame(t, "room behind", a, b, true)
	checkSame(t, "Parts without elements", at(richCoord), emptyLists(at(richCoord)), true)
}

// emptyLists is a copy of a machine in which each list that is nil is one without elements, but with room.
func emptyLists(m api.Machine) api.Machine {
	m = trimmed(m)
	empty(reflect.ValueOf(&m).Elem())
	return m
}

// empty does so with all that v has.
func empty(v reflect.Value) {
	switch v.Kind() {
	case reflect.Struct:
		for i := range v.NumField() {
			empty(v.Field(i))
		}
	case reflect.Slice:
		for i := range v.Len() {
			empty(v.Index(i))
		}
		if v.IsNil() {
			v.Set(reflect.MakeSlice(v.Type(), 0, 3))
		}
	}
}

// zeroMachine: is there nothing in a machine?
func zeroMachine(m api.Machine) bool { return plainSame(m, api.Machine{}) }

// zeroJob: is there nothing in a job?
func zeroJob(j api.Job) bool { return sameJob(j, api.Job{}) }

// sameJob: are two jobs the same, element by element?
func sameJob(a, b api.Job) bool { return reflect.DeepEqual(trimmedJob(a), trimmedJob(b)) }
