package lease_test

import (
	"math/big"
	"math/rand"
	"testing"

	"ferrule/api"
	"ferrule/group"
	"ferrule/lease"
)

// P10.3: a slow leader and a fast node, at both ends of the drift: when the leader's clock has advanced by Bound, and not earlier, the node's has by the span.
func TestBothEnds(t *testing.T) {
	for _, d := range append(turning(), mixed(5, 60)...) {
		for _, m := range append(turning(), mixed(6, 60)...) {
			real, fast := times(exact(d), exact(m)), times(plus(exact(d), 1), exact(m))
			if d < 2 || m == 0 || !plus(fast, 1).IsUint64() {
				continue
			}
			r, span, slow := real.Uint64(), fast.Uint64(), (d-1)*m
			if !lease.Within(r, slow, d) || !lease.Within(r, span, d) || lease.Within(r, slow-1, d) || lease.Within(r, span+1, d) {
				t.Fatalf("%d, %d in a time of %d, d %d: not the ends of the drift", slow, span, r, d)
			}
			if before, at := lease.Bound(span-1, d), lease.Bound(span, d); at != slow || before >= slow {
				t.Fatalf("Bound(%d, %d) = %d, and %d for one less; a fast clock gets there when a slow one has advanced by %d", span, d, at, before, slow)
			}
		}
	}
}

// P10.3: no two clocks within the drift, fast or slow, are such that the leader's has advanced by less than Bound and the other one's by the span. Times are in parts of the clocks' units.
func TestWhileBelowBound(t *testing.T) {
	const parts = 3
	for d := uint64(2); d < 8; d++ {
		for span := range uint64(12) {
			bound := lease.Bound(span, d) * parts
			for real := range uint64(60) {
				below, there := false, false
				for local := range uint64(100) {
					if lease.Within(real, local, d) {
						below = below || local < bound
						there = there || local >= span*parts
					}
				}
				if below && there {
					t.Fatalf("d %d, span %d: in a time of %d one clock advances by less than %d, and another one by the span", d, span, real, bound)
				}
			}
		}
	}
}

// P10.3: the same with great numbers: the longest time that the leader's clock can take below Bound, and the furthest that another one gets in that.
func TestWhileBelowBoundGreat(t *testing.T) {
	for _, span := range append(turning(), mixed(7, 200)...) {
		for _, d := range append(turning(), mixed(8, 200)...) {
			bound := lease.Bound(span, d)
			if bound == 0 {
				continue
			}
			longest := new(big.Int).Quo(times(exact(bound-1), exact(d)), plus(exact(d), -1))
			furthest := new(big.Int).Quo(times(longest, plus(exact(d), 1)), exact(d))
			if furthest.Cmp(exact(span)) >= 0 {
				t.Fatalf("span %d, d %d: the leader's clock advances by %d while another one does by %d", span, d, bound-1, furthest)
			}
			real, local := longest.Uint64(), furthest.Uint64()
			if lease.Within(real+1, bound-1, d) || lease.Within(real, local+1, d) {
				t.Fatalf("span %d, d %d: it can take longer than %d, or get further than %d", span, d, real, local)
			}
		}
	}
}

// node is a voter: its clock, what that was when it was last asked, and whether it was.
type node struct {
	clock, from uint64
	promised    bool
}

// world is a group with a leader, whose clocks differ.
type world struct {
	c       api.Conf
	span, d uint64
	now     uint64 // the leader's clock
	nodes   []node // of the Voters; the leader's is the first one
	acks    []api.Mark
}

// newWorld is one of so many voters, whose clocks have nothing in common.
func newWorld(voters int, span, d, now uint64) *world {
	w := &world{span: span, d: d, now: now}
	for i := range voters {
		w.c.Voters = append(w.c.Voters, uint64(i)+1)
		w.nodes = append(w.nodes, node{clock: uint64(i) * (1<<63 - 7)})
	}
	return w
}

// pass lets a time of d pass, in which a clock advances by d, and so much more or less.
func (w *world) pass(t *testing.T, more func(i int) int) {
	t.Helper()
	for i := range w.nodes {
		advance := w.d + uint64(more(i))
		if !lease.Within(w.d, advance, w.d) {
			t.Fatalf("Within(%d, %d, %d) = false", w.d, advance, w.d)
		}
		w.nodes[i].clock += advance
		if i == 0 {
			w.now += advance
		}
	}
}

// apart has the leader's clock advance by as little as may be, and the others' by as much.
func apart(i int) int {
	if i == 0 {
		return -1
	}
	return 1
}

// ask has a node promise; the leader may not get to know of it.
func (w *world) ask(i int, heard bool) {
	w.nodes[i].from, w.nodes[i].promised = w.nodes[i].clock, true
	if heard {
		w.acks = group.Set(w.acks, w.c.Voters[i], w.now)
	}
}

// free is how many voters may vote for another one than the leader, who has its own vote.
func (w *world) free() int {
	n := 0
	for _, x := range w.nodes[1:] {
		if !x.promised || x.clock-x.from >= w.span {
			n++
		}
	}
	return n
}

// holds: does the lease hold? If so, too few may vote for another one.
func (w *world) holds(t *testing.T) bool {
	t.Helper()
	holds := lease.Holds(w.c, 1, w.now, w.acks, w.span, w.d)
	if holds && w.free() >= group.Need(w.c) {
		t.Fatalf("it holds, but %d of %d may elect another one: %+v", w.free(), len(w.nodes), w)
	}
	return holds
}

// P10.3: a leader whose clock is the slowest, asking voters whose clocks are the fastest: its lease holds till they are free, and no longer.
func TestSlowLeader(t *testing.T) {
	for _, d := range []uint64{2, 3, 10, 1 << 20} {
		for _, steps := range []uint64{1, 2, 5, 40} {
			for _, start := range []uint64{1, 1000, most - 200*d} {
				for voters := 2; voters <= api.MaxVoters; voters++ {
					w := newWorld(voters, steps*(d+1), d, start)
					for i := 1; i < group.Need(w.c); i++ {
						w.ask(i, true)
					}
					for step := range 2 * steps {
						if w.holds(t) != (step < steps) {
							t.Fatalf("step %d of %d: %+v", step, steps, w)
						}
						w.pass(t, apart)
					}
				}
			}
		}
	}
}

// P10.3: clocks that are now fast and now slow, voters asked now and then, acks that are lost: while the lease holds, nobody else is elected.
func TestAnyClocks(t *testing.T) {
	r := rand.New(rand.NewSource(9))
	held := 0
	for range 3000 {
		d := uint64(2 + r.Intn(8))
		w := newWorld(1+r.Intn(api.MaxVoters), uint64(r.Intn(100)), d, uint64(r.Intn(50)))
		fast := r.Intn(4)
		for range 60 {
			if i := r.Intn(len(w.nodes)); i > 0 && r.Intn(2) == 0 {
				w.ask(i, r.Intn(4) > 0)
			}
			if w.holds(t) {
				held++
			}
			w.pass(t, func(i int) int {
				if r.Intn(4) < fast {
					return apart(i)
				}
				return r.Intn(3) - 1
			})
		}
	}
	if held < 1000 {
		t.Errorf("only %d times it held", held)
	}
}
