package mach_test

import (
	"math"
	"strconv"
	"strings"
	"testing"

	"ferrule/api"
	"ferrule/coord"
	"ferrule/mach"
	"ferrule/shard"
)

// did is a job, what it is answered, and the machine that results, as at tells it, or "=": as it was.
type did struct {
	why, job, after string
	a               api.Answer
}

// checkRun holds Do to what it is to answer, one job behind the other.
func checkRun(t *testing.T, from string, all []did) {
	t.Helper()
	m := at(from)
	for _, x := range all {
		want := m
		if x.after != "=" {
			want = at(x.after)
		}
		m = checkDo(t, x.why, m, jobBytes(job(x.job)), want, x.a)
	}
}

// checkDo holds one call of Do to what it is to answer, and to the plain words.
func checkDo(t *testing.T, why string, m api.Machine, data string, want api.Machine, a api.Answer) api.Machine {
	t.Helper()
	after, said := heldDo(t, m, data)
	if !plainSame(after, want) {
		t.Errorf("%s: Do(%+v, %x):\n got %+v\nwant %+v", why, m, data, after, want)
	}
	if said != a {
		t.Errorf("%s: Do(%+v, %x) answers %+v, want %+v", why, m, data, said, a)
	}
	return after
}

// P15.2: jobs of two clients in a shard, new ones, repeated ones and stale ones.
func TestDoShard(t *testing.T) {
	checkRun(t, "shard", []did{
		{"it locks", "2 3: lock 1 a", "shard; holds: a 1 w; open: 1; sessions: 2 3", no(api.OK)},
		{"it prepares", "1 1: prepare 1 a=x", "shard; holds: a 1 w; open: 1 firm a=x; sessions: 1 1, 2 3", no(api.OK)},
		{"it is committed", "1 2: finish 1 yes", "shard; rows: a x 1; done: 1 yes; ver: 1; sessions: 1 2 commit, 2 3", api.Answer{Commit: true}},
		{"it is repeated", "1 2: finish 1 yes", "=", api.Answer{Commit: true}},
		{"it is repeated with another order", "1 2: read 2 a", "=", api.Answer{Commit: true}},
		{"the other client repeats its own", "2 3: lock 1 a", "=", no(api.OK)},
		{"it is stale", "1 1: prepare 1 a=x", "=", no(api.ErrStale)},
		{"the other one is stale", "2 2: read 9 a", "=", no(api.ErrStale)},
		{"it reads", "2 4: read 2 a", "shard; rows: a x 1; holds: a 2 r; open: 2; done: 1 yes; ver: 1; sessions: 1 2 commit, 2 4 val x ver 1 found", api.Answer{Val: "x", Ver: 1, Found: true}},
		{"it is told that it is over", "1 7: lock 1 b", "shard; rows: a x 1; holds: a 2 r; open: 2; done: 1 yes; ver: 1; sessions: 1 7 err 13 commit, 2 4 val x ver 1 found", api.Answer{Err: api.ErrOver, Commit: true}},
		{"again", "1 7: lock 1 b", "=", api.Answer{Err: api.ErrOver, Commit: true}},
		{"an order that is none of a shard", "1 8: begin 3 1", "shard; rows: a x 1; holds: a 2 r; open: 2; done: 1 yes; ver: 1; sessions: 1 8 err 1, 2 4 val x ver 1 found", no(api.ErrArg)},
		{"again", "1 8: begin 3 1", "=", no(api.ErrArg)},
		{"no row", "max max: lock 3.1 c", "shard; rows: a x 1; holds: a 2 r, c 3.1 w; open: 2, 3.1; done: 1 yes; ver: 1; sessions: 1 8 err 1, 2 4 val x ver 1 found, max max ver 1", api.Answer{Ver: 1}},
		{"busy, and tried with the next Seq", "1 9: read 4 c", "shard; rows: a x 1; holds: a 2 r, c 3.1 w; open: 2, 3.1; done: 1 yes; ver: 1; sessions: 1 9 err 11, 2 4 val x ver 1 found, max max ver 1", no(api.ErrBusy)},
		{"it is given up", "2 5: finish 3.1 no", "shard; rows: a x 1; holds: a 2 r; open: 2; done: 1 yes, 3.1 no; ver: 1; sessions: 1 9 err 11, 2 5, max max ver 1", no(api.OK)},
		{"the answer is that of then", "1 9: read 4 c", "=", no(api.ErrBusy)},
		{"tried anew", "1 10: read 4 c", "shard; rows: a x 1; holds: a 2 r, c 4 r; open: 2, 4; done: 1 yes, 3.1 no; ver: 1; sessions: 1 10 ver 1, 2 5, max max ver 1", api.Answer{Ver: 1}},
	})
}

// P15.2: jobs in the coordinator.
func TestDoCoord(t *testing.T) {
	checkRun(t, "coord", []did{
		{"it begins", "5 1: begin 1 1 2", "coord; deals: 1 open 1 2; sessions: 5 1", no(api.OK)},
		{"another one begins too", "4 9: begin 2 3", "coord; deals: 1 open 1 2, 2 open 3; sessions: 4 9, 5 1", no(api.OK)},
		{"somebody asks", "6 1: status 2", "coord; deals: 1 open 1 2, 2 abort 3; sessions: 4 9, 5 1, 6 1", no(api.OK)},
		{"it is committed", "5 2: decide 1 yes", "coord; deals: 1 commit 1 2, 2 abort 3; sessions: 4 9, 5 2 commit, 6 1", api.Answer{Commit: true}},
		{"again", "5 2: decide 1 yes", "=", api.Answer{Commit: true}},
		{"again, otherwise", "5 2: decide 1 no", "=", api.Answer{Commit: true}},
		{"stale", "5 1: begin 1 1 2", "=", no(api.ErrStale)},
		{"too late", "4 10: decide 2 yes", "coord; deals: 1 commit 1 2, 2 abort 3; sessions: 4 10, 5 2 commit, 6 1", no(api.OK)},
		{"not there", "4 11: decide 3 yes", "coord; deals: 1 commit 1 2, 2 abort 3; sessions: 4 11 err 7, 5 2 commit, 6 1", no(api.ErrNone)},
		{"Parts that are not valid", "6 2: begin 3 2 1", "coord; deals: 1 commit 1 2, 2 abort 3; sessions: 4 11 err 7, 5 2 commit, 6 2 err 1", no(api.ErrArg)},
		{"an order that is none of the coordinator", "1 1: read 1 a", "coord; deals: 1 commit 1 2, 2 abort 3; sessions: 1 1 err 1, 4 11 err 7, 5 2 commit, 6 2 err 1", no(api.ErrArg)},
		{"it begins too late", "1 2: begin 1 1 2", "coord; deals: 1 commit 1 2, 2 abort 3; sessions: 1 2 err 13 commit, 4 11 err 7, 5 2 commit, 6 2 err 1", api.Answer{Err: api.ErrOver, Commit: true}},
	})
}

// variousMachines are machines of all kinds, right or not.
func variousMachines() []api.Machine {
	var all []api.Machine
	for _, told := range []string{"shard", "coord", "other", richShard, richCoord, "shard; ver: 18446744073709551615", "other; rows: a 1 1; deals: 1 open 1; sessions: 1 5 err 99 val x",
		"shard; deals: 1 open 1, 1 open 1; sessions: 1 1", "coord; rows: b 1 1, a 2 2; holds: a 1 w, a 2 w; open: 1, 1; ver: 9; sessions: 1 1", "shard; holds: a 1 w, a 2 w; open: 1, 1 firm a=1, 3 firm wounded z=1; sessions: 3 1, 1 4, 1 1, 2 2",
	} {
		all = append(all, at(told))
	}
	for _, kind := range otherMachines {
		m := at(richShard)
		m.Kind = kind
		all = append(all, m)
	}
	for _, n := range []int{1, 15, 16, 17, 40} {
		for _, told := range []string{richShard, richCoord, "other"} {
			m := at(told)
			m.Sessions = sessionsUpTo(n)
			all = append(all, m)
		}
	}
	return all
}

// P15.2: data that is not the encoding of a job, on any machine.
func TestDoNoJob(t *testing.T) {
	var all []string
	for _, told := range []string{"1 1: read 1 a", "1 9: status 1", "10 5: finish 1 yes", "10 99: begin 1 1 2", "77 1: prepare 1 a=1"} {
		s := jobBytes(job(told))
		all = append(all, s+"\x00", s[:len(s)-1], s[1:], "\x00"+s, s+s)
	}
	for _, told := range []string{"0 1: read 1 a", "10 0: read 1 a", "10 1: read 1 aaaaaaaaaaaaaaaaa"} {
		all = append(all, jobBytes(job(told)))
	}
	unused := job("10 6: finish 1 yes")
	unused.O.Key = "a"
	kind := job("10 6: status 1")
	kind.O.Kind = 8
	none := job("10 6: status 1")
	none.O.Kind = 0
	all = append(all, jobBytes(unused), jobBytes(kind), jobBytes(none), "", "junk", "\x00", strings.Repeat("\x01", 5000))
	for _, m := range variousMachines() {
		for _, s := range all {
			checkDo(t, "no job", m, s, m, no(api.ErrForm))
		}
	}
}

// P15.2: jobs of all kinds on machines of all kinds: what the layers below answer is answered and remembered.
func TestDoExecutes(t *testing.T) {
	for _, m := range variousMachines() {
		for _, j := range someJobs() {
			after, a := heldDo(t, m, jobBytes(j))
			known := false
			for _, x := range m.Sessions {
				known = known || x.Client == j.Client
			}
			if known || len(m.Sessions) >= api.MaxClients {
				continue
			}
			wantS, wantC, want := m.S, m.C, no(api.ErrArg)
			switch m.Kind {
			case api.MachShard:
				wantS, want = shard.Do(m.S, j.O)
			case api.MachCoord:
				wantC, want = coord.Do(m.C, j.O)
			default:
				if !plainSame(m, after) {
					t.Errorf("kind %d: %+v changed to %+v", m.Kind, m, after)
				}
			}
			if a != want || !shard.Same(after.S, wantS) || !coord.Same(after.C, wantC) {
				t.Errorf("Do(%+v, %+v) = %+v, %+v, want %+v", m, j, after, a, want)
			}
		}
	}
}

// P15.2: a job whose Seq is the session's, less, or greater, at the edges.
func TestDoSeq(t *testing.T) {
	for _, kind := range []string{"shard", "coord", "other"} {
		for _, own := range []uint64{1, 2, 70, 1 << 32, 1<<32 + 1, api.MaxNum - 1, api.MaxNum, 0, api.MaxNum + 1, 1 << 63, math.MaxUint64} {
			m := at(kind + "; sessions: 3 1, 5 1, 7 1")
			m.Sessions[1].Seq = own
			// An answer that no order has now, so that it is seen whence it comes.
			m.Sessions[1].A = api.Answer{Err: 99, Val: strings.Repeat("v", 40), Ver: math.MaxUint64, Found: true, Commit: true}
			for _, seq := range []uint64{1, 2, 3, 69, 70, 71, 1 << 32, 1<<32 + 1, api.MaxNum - 1, api.MaxNum} {
				j := job("5 1: status 1")
				j.Seq = seq
				after, a := heldDo(t, m, jobBytes(j))
				want := no(api.ErrArg)
				switch {
				case seq == own:
					want = m.Sessions[1].A
				case seq < own:
					want = no(api.ErrStale)
				case kind == "coord":
					want = no(api.OK)
				}
				if a != want {
					t.Errorf("%s, Seq %d behind %d: %+v, want %+v", kind, seq, own, a, want)
				}
				told := seq > own && kind != "other"
				if told != !plainSame(m, after) || told && after.Sessions[1] != (api.Session{Client: 5, Seq: seq, A: want}) {
					t.Errorf("%s, Seq %d behind %d: %+v", kind, seq, own, after)
				}
			}
		}
	}
}

// P15.2: a Client without a session, to be put first, between and last, where there are none, 15, 16 and more; a Client with one is served however many there are.
func TestDoClients(t *testing.T) {
	for _, kind := range []int{api.MachShard, api.MachCoord, 3} {
		for _, n := range []int{0, 1, 14, 15, 16, 17, 30} {
			m := api.Machine{Kind: kind, Sessions: sessionsUpTo(n)}
			for client := uint64(1); client <= 330; client++ {
				has := client%10 == 0 && int(client) <= 10*n
				j := job("1 99: status 1")
				j.Client = client
				after, a := heldDo(t, m, jobBytes(j))
				want := no(api.OK)
				switch {
				case !has && n >= api.MaxClients:
					want = no(api.ErrFull)
				case kind != api.MachCoord:
					want = no(api.ErrArg)
				}
				why := "client " + strconv.FormatUint(client, 10) + " beside " + strconv.Itoa(n)
				if a != want {
					t.Fatalf("%s: %+v, want %+v", why, a, want)
				}
				if kind == 3 || a.Err == api.ErrFull {
					if !plainSame(m, after) {
						t.Fatalf("%s: it changed: %+v", why, after)
					}
					continue
				}
				// Those that were there are 10, 20, ..: so many are ahead of it.
				place := min(int(client-1)/10, n)
				if after.Sessions[place] != (api.Session{Client: client, Seq: 99, A: want}) || !plainSessions(after.Sessions) {
					t.Fatalf("%s: %+v", why, after.Sessions)
				}
				if more := len(after.Sessions) - n; has != (more == 0) || !has != (more == 1) {
					t.Fatalf("%s: %+v", why, after.Sessions)
				}
			}
		}
	}
}

// P15.2: where a Client stands twice, the first one counts; a new one is put before the first one whose Client is greater, wherever that is.
func TestDoUnordered(t *testing.T) {
	ok := no(api.OK)
	for _, x := range []struct {
		why, from, job, after string
		a                     api.Answer
	}{
		{"the first one's Seq", "sessions: 5 3 val x, 5 7 val y", "5 3: status 1", "=", api.Answer{Val: "x"}},
		{"below the first one's", "sessions: 5 3 val x, 5 2 val y", "5 2: status 1", "=", no(api.ErrStale)},
		{"the last one's Seq", "sessions: 5 3 val x, 5 7 val y", "5 7: status 1", "deals: 1 abort; sessions: 5 7, 5 7 val y", ok},
		{"between", "sessions: 5 3 val x, 5 7 val y", "5 5: status 1", "deals: 1 abort; sessions: 5 5, 5 7 val y", ok},
		{"others between", "sessions: 9 1, 5 3 val x, 1 1, 5 7 val y, 5 4", "5 4: status 1", "deals: 1 abort; sessions: 9 1, 5 4, 1 1, 5 7 val y, 5 4", ok},
		{"ahead of the first greater one", "sessions: 9 1, 2 1, 5 1", "4 1: status 1", "deals: 1 abort; sessions: 4 1, 9 1, 2 1, 5 1", ok},
		{"the first greater one is between", "sessions: 2 1, 9 1, 1 1, 8 1", "4 1: status 1", "deals: 1 abort; sessions: 2 1, 4 1, 9 1, 1 1, 8 1", ok},
		{"the first greater one is last", "sessions: 3 1, 2 1, 1 1, 8 1", "4 1: status 1", "deals: 1 abort; sessions: 3 1, 2 1, 1 1, 4 1, 8 1", ok},
		{"none is greater", "sessions: 3 1, 2 1, 1 1", "4 1: status 1", "deals: 1 abort; sessions: 3 1, 2 1, 1 1, 4 1", ok},
		{"a Client 0", "sessions: 0 0", "1 1: status 1", "deals: 1 abort; sessions: 0 0, 1 1", ok},
		{"a great Client", "sessions: 18446744073709551615 5", "max 1: status 1", "deals: 1 abort; sessions: max 1, 18446744073709551615 5", ok},
	} {
		want := at("coord; " + x.from)
		if x.after != "=" {
			want = at("coord; " + x.after)
		}
		checkDo(t, x.why, at("coord; "+x.from), jobBytes(job(x.job)), want, x.a)
	}
}

// P15.2: a machine of another Kind executes nothing, but knows its sessions.
func TestDoOtherKinds(t *testing.T) {
	for _, kind := range otherMachines {
		m := at(richShard)
		m.Kind, m.C = kind, at(richCoord).C
		for _, x := range []struct {
			job string
			a   api.Answer
		}{
			{"1 1: read 1 a", m.Sessions[0].A}, {"3 9: status 1", m.Sessions[1].A}, {"max max: begin 1 1", m.Sessions[2].A},
			{"3 8: status 1", no(api.ErrStale)}, {"3 10: status 1", no(api.ErrArg)}, {"1 2: read 1 a", no(api.ErrArg)}, {"2 1: lock 4 a", no(api.ErrArg)}, {"2 1: begin 9 1", no(api.ErrArg)},
		} {
			checkDo(t, "Kind "+strconv.Itoa(kind), m, jobBytes(job(x.job)), m, x.a)
		}
		m.Sessions = sessionsUpTo(api.MaxClients)
		checkDo(t, "full", m, jobBytes(job("1 1: read 1 a")), m, no(api.ErrFull))
		checkDo(t, "full, its own", m, jobBytes(job("10 6: read 1 a")), m, no(api.ErrArg))
	}
}

// P15.2: what stands beside a machine's own part, and does not belong there, stays as it is.
func TestDoBeside(t *testing.T) {
	m := at(richShard)
	m.C = at(richCoord).C
	after, _ := mach.Do(m, jobBytes(job("2 1: lock 9 z")))
	if !coord.Same(after.C, m.C) || len(after.S.Open) != len(m.S.Open)+1 {
		t.Errorf("a shard with a coordinator: %+v", after)
	}
	m.Kind = api.MachCoord
	after, _ = mach.Do(m, jobBytes(job("2 1: begin 9 1")))
	if !shard.Same(after.S, m.S) || len(after.C.Deals) != len(m.C.Deals)+1 {
		t.Errorf("a coordinator with a shard: %+v", after)
	}
}
