package mach_test

import (
	"math/rand"
	"slices"
	"testing"

	"ferrule/api"
	"ferrule/mach"
)

// step holds P15.3 for one job in a machine that is right, and answers the one that results.
func step(t *testing.T, m api.Machine, j api.Job) (api.Machine, api.Answer) {
	t.Helper()
	s, e := mach.Job(j)
	if e != api.OK {
		t.Fatalf("Job(%+v): error %d", j, e)
	}
	if back, e := mach.TakeJob(s); e != api.OK || !sameJob(back, j) {
		t.Fatalf("TakeJob of %+v = %+v, %d", j, back, e)
	}
	after, a := heldDo(t, m, s)
	if !heldMachine(t, "behind a job", after) {
		t.Fatalf("Do(%+v, %+v) = %+v: not right", m, j, after)
	}
	if again, b := mach.Do(after, s); b != a || !mach.Same(again, after) || !plainSame(again, after) {
		t.Fatalf("Do(%+v, %+v) = %+v, %+v; again %+v, %+v", m, j, after, a, again, b)
	}
	if a.Err == api.ErrStale || a.Err == api.ErrFull && !has(after, j.Client) {
		if !plainSame(m, after) {
			t.Fatalf("Do(%+v, %+v) = %+v, %+v: it changed", m, j, after, a)
		}
	}
	return after, a
}

// has: has a client a session?
func has(m api.Machine, client uint64) bool {
	return slices.ContainsFunc(m.Sessions, func(x api.Session) bool { return x.Client == client })
}

// P15.3: many runs of mixed jobs, from both empty machines.
func TestRunsFollow(t *testing.T) {
	r := rand.New(rand.NewSource(153))
	told := map[int]map[api.Errno]int{api.MachShard: {}, api.MachCoord: {}}
	great, full := 0, 0
	for i := range 60 {
		m, e := mach.New(1 + i%2)
		if e != api.OK {
			t.Fatal(e)
		}
		last := map[uint64]api.Job{}
		said := map[uint64]api.Answer{}
		for range 20 + r.Intn(300) {
			j := mixedJob(r, m)
			var a api.Answer
			stale := last[j.Client].Seq > j.Seq
			again := last[j.Client].Seq == j.Seq
			if again {
				j = last[j.Client]
			}
			m, a = step(t, m, j)
			told[m.Kind][a.Err]++
			switch {
			case stale != (a.Err == api.ErrStale), again && a != said[j.Client]:
				t.Fatalf("%+v: %+v, and before %+v", j, a, said[j.Client])
			case !stale && has(m, j.Client):
				last[j.Client], said[j.Client] = j, a
			}
			if len(m.Sessions) == api.MaxClients {
				full++
			}
			great = max(great, len(machineBytes(m)))
		}
		everybodyHears(t, m, last, said)
	}
	for kind, all := range map[int][]api.Errno{
		api.MachShard: {api.OK, api.ErrArg, api.ErrNone, api.ErrOrder, api.ErrBusy, api.ErrWound, api.ErrOver, api.ErrStale, api.ErrFull},
		api.MachCoord: {api.OK, api.ErrArg, api.ErrNone, api.ErrThere, api.ErrOver, api.ErrStale, api.ErrFull},
	} {
		for _, e := range all {
			if told[kind][e] < 5 {
				t.Errorf("kind %d, the error %d: only %d times", kind, e, told[kind][e])
			}
		}
	}
	if great < 500 || full < 50 {
		t.Errorf("at most %d bytes; %d times full", great, full)
	}
}

// everybodyHears holds that each client that repeats its last job is told what it was told, whatever happened since, also by the machine that was encoded and decoded.
func everybodyHears(t *testing.T, m api.Machine, last map[uint64]api.Job, said map[uint64]api.Answer) {
	t.Helper()
	all := []api.Machine{m}
	if s, e := mach.Bytes(m); e == api.OK {
		back, e := mach.Take(s)
		if e != api.OK {
			t.Fatalf("Take of %+v: error %d", m, e)
		}
		all = append(all, back)
	}
	for client, j := range last {
		for _, x := range all {
			after, a := mach.Do(x, jobBytes(j))
			if a != said[client] || !plainSame(after, m) {
				t.Fatalf("Do(%+v, %+v) = %+v, was told %+v", x, j, a, said[client])
			}
		}
	}
}

// P15.3: a machine that was encoded and decoded goes on as the original does.
func TestDecodedGoesOn(t *testing.T) {
	r := rand.New(rand.NewSource(154))
	for i := range 40 {
		m, _ := mach.New(1 + i%2)
		x := m
		for range 60 {
			j := mixedJob(r, m)
			var a, b api.Answer
			m, a = step(t, m, j)
			x, b = mach.Do(x, jobBytes(j))
			if a != b || !mach.Same(m, x) {
				t.Fatalf("%+v: %+v and %+v; %+v and %+v", j, a, b, m, x)
			}
			s, e := mach.Bytes(x)
			if e != api.OK {
				t.Fatalf("Bytes(%+v): error %d", x, e)
			}
			if x, e = mach.Take(s); e != api.OK {
				t.Fatalf("Take(%x): error %d", s, e)
			}
		}
	}
}

// P15.3: a transaction that is driven to its end is committed once, however often each job comes.
func TestOnceOnly(t *testing.T) {
	m, _ := mach.New(api.MachShard)
	for n := range uint64(20) {
		// Each transaction of its own age, so that it is another one.
		t1 := api.Tx{Age: n}
		for i, o := range []api.Order{
			{Kind: api.OLock, T: t1, Key: "a"},
			{Kind: api.OPrepare, T: t1, Puts: []api.Put{{Key: "a", Val: string([]byte{byte('a' + n)})}}},
			{Kind: api.OFinish, T: t1, Commit: true},
		} {
			for range 3 {
				var a api.Answer
				if m, a = step(t, m, api.Job{Client: 1 + n%3, Seq: 1 + 10*n + uint64(i), O: o}); a.Err != api.OK {
					t.Fatalf("%+v: %+v", o, a)
				}
			}
		}
		if m.S.Ver != n+1 || len(m.S.Rows) != 1 || m.S.Rows[0].Ver != n+1 || len(m.S.Done) != int(n+1) {
			t.Fatalf("behind %d: %+v", n+1, m)
		}
	}
}

// P15.3: every machine that few jobs of two clients lead to, in any order.
func TestAllRunsOfFew(t *testing.T) {
	for kind, told := range map[int]string{
		api.MachShard: "1 1: lock 1 a, 1 2: prepare 1 a=1, 2 1: read 2 a, 2 2: finish 1 yes, 1 3: finish 1 no, 2 1: lock 0 a",
		api.MachCoord: "1 1: begin 1 1 2, 1 2: decide 1 yes, 2 1: status 1, 2 2: begin 1 1 2, 1 3: decide 1 no, 2 1: begin 2 1",
	} {
		all := jobs(told)
		var from []api.Machine
		m, _ := mach.New(kind)
		from = append(from, m)
		for range 4 {
			var next []api.Machine
			for _, m := range from {
				for _, j := range all {
					after, _ := step(t, m, j)
					if !slices.ContainsFunc(next, func(x api.Machine) bool { return plainSame(x, after) }) {
						next = append(next, after)
					}
				}
			}
			from = next
		}
		if len(from) < 10 {
			t.Errorf("kind %d: only %d machines", kind, len(from))
		}
	}
}
