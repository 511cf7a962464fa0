package mach_test

import (
	"reflect"
	"strings"
	"testing"

	"ferrule/api"
	"ferrule/mach"
)

// odd is what stands in the room behind lists, and what is written into them.
func odd(v reflect.Value) {
	switch v.Kind() {
	case reflect.Struct:
		for i := range v.NumField() {
			odd(v.Field(i))
		}
	case reflect.Int:
		v.SetInt(77)
	case reflect.Uint64:
		v.SetUint(77)
	case reflect.Bool:
		v.SetBool(true)
	case reflect.String:
		v.SetString("odd")
	}
}

// roomy gives each list that v has a copy of it, with room behind it that something odd stands in.
func roomy(v reflect.Value) {
	switch v.Kind() {
	case reflect.Struct:
		for i := range v.NumField() {
			roomy(v.Field(i))
		}
	case reflect.Slice:
		n := v.Len()
		l := reflect.MakeSlice(v.Type(), n+3, n+3)
		reflect.Copy(l, v)
		for i := range n + 3 {
			if i < n {
				roomy(l.Index(i))
			} else {
				odd(l.Index(i))
			}
		}
		v.Set(l.Slice(0, n))
	}
}

// whole gives each list that v has a copy of it, and of what stands in the room behind it.
func whole(v reflect.Value) {
	switch v.Kind() {
	case reflect.Struct:
		for i := range v.NumField() {
			whole(v.Field(i))
		}
	case reflect.Slice:
		if v.IsNil() {
			return
		}
		n := v.Cap()
		l := reflect.MakeSlice(v.Type(), n, n)
		reflect.Copy(l, v.Slice(0, n))
		for i := range n {
			whole(l.Index(i))
		}
		v.Set(l)
	}
}

// spoil writes something odd into each list that v has, and into the room behind it.
func spoil(v reflect.Value) {
	switch v.Kind() {
	case reflect.Struct:
		for i := range v.NumField() {
			spoil(v.Field(i))
		}
	case reflect.Slice:
		l := v.Slice(0, v.Cap())
		for i := range l.Len() {
			spoil(l.Index(i))
			odd(l.Index(i))
		}
	}
}

// roomyOf, wholeOf and spoilOf do so with a value, of which the first two answer a copy.
func roomyOf[T any](x T) T {
	roomy(reflect.ValueOf(&x).Elem())
	return x
}

func wholeOf[T any](x T) T {
	whole(reflect.ValueOf(&x).Elem())
	return x
}

func spoilOf[T any](x T) { spoil(reflect.ValueOf(&x).Elem()) }

// kept are what was passed or answered, and copies of it.
type kept[T any] struct{ all, were []T }

// keep keeps one more.
func (k *kept[T]) keep(x T) {
	k.all, k.were = append(k.all, x), append(k.were, wholeOf(x))
}

// hold holds all that was kept to the copies.
func (k *kept[T]) hold(t *testing.T) {
	t.Helper()
	for i, x := range k.all {
		if !reflect.DeepEqual(wholeOf(x), k.were[i]) {
			t.Fatalf("it is written to: %+v, was %+v", wholeOf(x), k.were[i])
		}
	}
}

// memoryMachines are machines of all kinds, with room behind their lists.
func memoryMachines() []api.Machine {
	var all []api.Machine
	for _, m := range variousMachines() {
		all = append(all, roomyOf(m))
	}
	return append(all, at("shard"), at(richShard), at("coord"))
}

// memoryJobs are the bytes of jobs of all kinds, and such as are none.
func memoryJobs() []string {
	all := []string{"", "junk"}
	for _, j := range append(someJobs(), jobs("7 1: lock 1 z, 7 1: lock 0 d, 2 2: prepare 1 d=1, 2 2: prepare 3.1 a=9 c-, 2 2: finish 3.1 yes, 2 2: finish 1 no, 2 2: read 9 d, 8 1: begin 9 1 2, 8 1: decide 4 yes, 8 1: status 7, 1 9: status 4, 330 1: status 4")...) {
		all = append(all, jobBytes(j))
	}
	return all
}

// R3: nothing that is passed is written to, nor the room behind it, nor what was answered earlier.
func TestArguments(t *testing.T) {
	for _, m := range memoryMachines() {
		var k kept[api.Machine]
		k.keep(m)
		var after []api.Machine
		for _, s := range memoryJobs() {
			x, _ := mach.Do(m, s)
			k.keep(x)
			after = append(after, x)
		}
		// Later calls of the same machine, and of what was answered, must not meet in the room behind the lists.
		for _, x := range after {
			for _, s := range memoryJobs() {
				y, _ := mach.Do(x, s)
				k.keep(y)
				mach.Do(m, s)
			}
			mach.Right(x)
			mach.Bytes(x)
			mach.Same(x, m)
			mach.Same(m, x)
		}
		mach.Right(m)
		mach.Bytes(m)
		k.hold(t)
	}
	var k kept[api.Job]
	for _, j := range append(someJobs(), api.Job{O: api.Order{Puts: []api.Put{{Key: "a"}}, Parts: []uint64{1}}}) {
		j = roomyOf(j)
		k.keep(j)
		mach.Job(j)
		k.hold(t)
	}
}

// R3, R4: the same call answers the same again, and whoever writes into an answer changes neither what was passed nor another answer.
func TestAnswersAreNew(t *testing.T) {
	for _, m := range memoryMachines() {
		for _, s := range memoryJobs() {
			var k kept[api.Machine]
			k.keep(m)
			x, a := mach.Do(m, s)
			y, b := mach.Do(m, s)
			if a != b || !plainSame(x, y) {
				t.Fatalf("Do(%+v, %x) = %+v, %+v, then %+v, %+v", m, s, x, a, y, b)
			}
			k.keep(y)
			z, _ := mach.Do(y, s)
			k.keep(z)
			spoilOf(x)
			k.hold(t)
		}
	}
	for _, told := range []string{richShard, richCoord} {
		var k kept[api.Machine]
		s := machineBytes(at(told))
		x, _ := mach.Take(s)
		y, _ := mach.Take(s)
		k.keep(y)
		spoilOf(x)
		k.hold(t)
		if z, e := mach.Take(s); e != api.OK || !plainSame(z, at(told)) {
			t.Errorf("Take(%x) = %+v, %d", s, z, e)
		}
	}
	for _, j := range someJobs() {
		var k kept[api.Job]
		x, _ := mach.TakeJob(jobBytes(j))
		y, _ := mach.TakeJob(jobBytes(j))
		k.keep(y)
		spoilOf(x)
		k.hold(t)
	}
	x, _ := mach.New(api.MachShard)
	spoilOf(x)
	if y, _ := mach.New(api.MachShard); !plainSame(y, at("shard")) {
		t.Errorf("New = %+v", y)
	}
}

// R3: whoever writes into what was passed, behind the call, doesn't change what was answered.
func TestArgumentsAreNotKept(t *testing.T) {
	for i := range memoryMachines() {
		for _, s := range memoryJobs() {
			m := memoryMachines()[i]
			after, _ := mach.Do(m, s)
			was := trimmed(after)
			spoilOf(m)
			if !plainSame(after, was) {
				t.Fatalf("an answer shares memory with what was passed: %+v, was %+v", after, was)
			}
		}
	}
}

// No two lists of one answer share memory, though those of the argument do.
func TestListsOfOneAnswer(t *testing.T) {
	parts, puts := []uint64{1, 2}, putsOf([]string{"a=1"})
	for _, s := range memoryJobs() {
		m := at("shard; open: 1, 2, 4; deals: 1 open, 2 open, 4 open; sessions: 9 1")
		for i := range m.S.Open {
			m.S.Open[i].Puts, m.C.Deals[i].Parts = puts, parts
		}
		for _, m.Kind = range []int{api.MachShard, api.MachCoord, 3} {
			after, _ := mach.Do(m, s)
			apart(t, after)
		}
	}
	for _, told := range []string{"shard; holds: a 1 w, b 2 w; open: 1 firm a=1, 2 firm b=1", "coord; deals: 1 open 1 2, 2 open 1 2, 3 commit 1 2"} {
		m, e := mach.Take(machineBytes(at(told)))
		if e != api.OK {
			t.Fatalf("%s: %d", told, e)
		}
		apart(t, m)
	}
}

// apart holds that whoever writes into one list of Puts or Parts, or into the room behind it, doesn't change another one.
func apart(t *testing.T, m api.Machine) {
	t.Helper()
	for i := range m.S.Open {
		was := trimmed(m)
		spoilOf(m.S.Open[i].Puts)
		for k, x := range m.S.Open {
			if k != i && !reflect.DeepEqual(plainList(x.Puts), was.S.Open[k].Puts) {
				t.Fatalf("two lists of Puts share memory: %+v", m)
			}
		}
	}
	for i := range m.C.Deals {
		was := trimmed(m)
		spoilOf(m.C.Deals[i].Parts)
		for k, x := range m.C.Deals {
			if k != i && !reflect.DeepEqual(plainList(x.Parts), was.C.Deals[k].Parts) {
				t.Fatalf("two lists of Parts share memory: %+v", m)
			}
		}
	}
}

// R2: beside an error there is nothing else.
func TestErrorsAlone(t *testing.T) {
	if s, e := mach.Job(api.Job{}); s != "" || e != api.ErrArg {
		t.Errorf("Job of nothing = %x, %d", s, e)
	}
	if s, e := mach.Bytes(api.Machine{}); s != "" || e != api.ErrArg {
		t.Errorf("Bytes of nothing = %x, %d", s, e)
	}
	// What comes ahead of the fault is well-formed.
	for _, s := range []string{jobBytes(greatJob()) + "\x00", strings.TrimSuffix(jobBytes(greatJob()), "\x00")} {
		if j, e := mach.TakeJob(s); e != api.ErrForm || !reflect.DeepEqual(j, api.Job{}) {
			t.Errorf("TakeJob(%x) = %+v, %d", s, j, e)
		}
	}
	for _, told := range []string{richShard, richCoord} {
		s := machineBytes(at(told))
		for _, x := range []string{s + "\x00", s[:len(s)-1]} {
			if m, e := mach.Take(x); e != api.ErrForm || !reflect.DeepEqual(m, api.Machine{}) {
				t.Errorf("Take(%x) = %+v, %d", x, m, e)
			}
		}
	}
}
