package raft_test

import (
	"math/rand"
	"slices"
	"strconv"
	"testing"

	"ferrule/api"
	"ferrule/raft"
	"ferrule/rlog"
)

// world is nodes that send to one another, and what is known of all of them.
type world struct {
	t       *testing.T
	r       *rand.Rand
	nodes   []api.Node
	mail    []api.Message
	entries map[uint64]api.Entry // what was committed, by its index
	ruled   map[uint64]uint64    // who led, by the term
	offers  int
}

// newWorld has so many nodes, of which the first ones are the voters.
func newWorld(t *testing.T, seed int64, voting, nodes int) *world {
	w := &world{t: t, r: rand.New(rand.NewSource(seed)), entries: map[uint64]api.Entry{}, ruled: map[uint64]uint64{}}
	var c api.Conf
	for i := range voting {
		c.Voters = append(c.Voters, uint64(i)+1)
	}
	for i := range nodes {
		n, e := raft.New(uint64(i)+1, c, api.Stable{})
		if e != api.OK {
			t.Fatal(e)
		}
		w.nodes = append(w.nodes, n)
	}
	return w
}

// put lets a node become what a call answered, and its messages be in transit.
func (w *world) put(i int, n api.Node, sent []api.Message) {
	w.t.Helper()
	w.holdStep(w.nodes[i], n)
	w.holdMessages(n, sent)
	w.nodes[i] = n
	w.mail = append(w.mail, sent...)
	w.holdCommitted(n)
	w.holdLeader(n)
}

// holdStep holds a node to what no call may do to it.
func (w *world) holdStep(a, b api.Node) {
	w.t.Helper()
	switch {
	case b.S.Term < a.S.Term:
		w.t.Fatalf("the Term falls: %+v, %+v", a, b)
	case b.S.Term == a.S.Term && a.S.Vote != 0 && b.S.Vote != a.S.Vote:
		w.t.Fatalf("the Vote changes: %+v, %+v", a, b)
	case b.Commit < a.Commit:
		w.t.Fatalf("Commit falls: %+v, %+v", a, b)
	case !rlog.Right(b.S.Log):
		w.t.Fatalf("a log that is not right: %+v", b)
	}
	// Whoever leads ahead of a call still has all its entries behind it.
	kept := a.Commit
	if last, _ := rlog.Last(a.S.Log); a.Role == api.Leader {
		kept = last
	}
	for i := max(a.S.Log.Base, b.S.Log.Base) + 1; i <= kept; i++ {
		x, _ := rlog.From(a.S.Log, i, 1)
		y, _ := rlog.From(b.S.Log, i, 1)
		if !slices.Equal(x, y) {
			w.t.Fatalf("the entry %d of %d is replaced: %+v, %+v", i, a.Id, x, y)
		}
	}
}

// holdMessages holds messages to be the node's, and in its term, if they do not ask or tell of another one.
func (w *world) holdMessages(n api.Node, sent []api.Message) {
	w.t.Helper()
	for _, m := range sent {
		if m.From != n.Id || m.To == n.Id || m.Term != n.S.Term && m.Kind != api.MPreAsk && m.Kind != api.MPreVote && m.Kind != api.MAsk {
			w.t.Fatalf("a message %+v of %+v", m, n)
		}
		if len(m.Entries) > api.MaxSend {
			w.t.Fatalf("%d entries", len(m.Entries))
		}
	}
}

// holdCommitted holds a node to what others have committed.
func (w *world) holdCommitted(n api.Node) {
	w.t.Helper()
	for i := n.S.Log.Base + 1; i <= n.Commit; i++ {
		x, _ := rlog.From(n.S.Log, i, 1)
		if len(x) != 1 {
			w.t.Fatalf("%d has committed %d, but does not have it: %+v", n.Id, i, n)
		}
		if y, known := w.entries[i]; known && y != x[0] {
			w.t.Fatalf("%d was committed as %+v, and by %d as %+v", i, y, n.Id, x[0])
		}
		w.entries[i] = x[0]
	}
}

// holdLeader holds a term to one leader, and that one to have all that was committed in older terms.
func (w *world) holdLeader(n api.Node) {
	w.t.Helper()
	if n.Role != api.Leader {
		return
	}
	if id, ruled := w.ruled[n.S.Term]; ruled && id != n.Id {
		w.t.Fatalf("%d and %d lead in the term %d", id, n.Id, n.S.Term)
	}
	w.ruled[n.S.Term] = n.Id
	for i, x := range w.entries {
		if y, _ := rlog.From(n.S.Log, i, 1); i > n.S.Log.Base && x.Term < n.S.Term && !slices.Equal(y, []api.Entry{x}) {
			w.t.Fatalf("the leader %d of the term %d has %+v in the place of %d, %+v", n.Id, n.S.Term, y, i, x)
		}
	}
}

// deliver delivers a message, which stays in transit if it is doubled.
func (w *world) deliver(k int, doubled bool) {
	m := w.mail[k]
	if !doubled {
		w.mail = slices.Delete(w.mail, k, k+1)
	}
	i := int(m.To) - 1
	n, sent := raft.Hear(w.nodes[i], m)
	w.put(i, n, sent)
}

// offer offers something to a node, a change of the group among it.
func (w *world) offer(i int, change bool) {
	w.offers++
	n, index, sent, e := raft.Offer(w.nodes[i], strconv.Itoa(w.offers))
	if change {
		x := api.Change{Kind: 1 + w.r.Intn(3), Id: 1 + uint64(w.r.Intn(len(w.nodes)))}
		n, index, sent, e = raft.Change(w.nodes[i], x)
	}
	if e != api.OK {
		return
	}
	if last, term := rlog.Last(n.S.Log); last != index || term != n.S.Term {
		w.t.Fatalf("the index %d, the end is %d of %d", index, last, term)
	}
	w.put(i, n, sent)
}

// compact compacts a node's log somewhere.
func (w *world) compact(i int) {
	n := w.nodes[i]
	at := n.S.Log.Base + uint64(w.r.Intn(5))
	c := raft.Conf(n)
	n, e := raft.Compact(n, at, "state at "+strconv.FormatUint(at, 10))
	if e != api.OK {
		return
	}
	if d := raft.Conf(n); !slices.Equal(c.Voters, d.Voters) || !slices.Equal(c.Learners, d.Learners) {
		w.t.Fatalf("Conf was %+v, and is %+v", c, d)
	}
	w.put(i, n, nil)
}

// restart lets a node begin anew with what it has written down: only what it has committed is not known to it any more.
func (w *world) restart(i int) {
	old := w.nodes[i]
	n, e := raft.New(old.Id, old.Init, old.S)
	if e != api.OK {
		w.t.Fatalf("%d: %+v", e, old)
	}
	w.nodes[i] = n
}

// chaos is so many steps of everything that may happen: messages are late, lost and doubled.
func (w *world) chaos(steps int, changes bool) {
	for range steps {
		i := w.r.Intn(len(w.nodes))
		switch x := w.r.Intn(100); {
		case x < 30:
			n, sent := raft.Tick(w.nodes[i], w.r.Uint64())
			w.put(i, n, sent)
		case x < 36:
			w.offer(i, false)
		case x < 40:
			w.offer(i, changes)
		case x < 42:
			w.compact(i)
		case x < 43 && w.r.Intn(8) == 0:
			w.restart(i)
		case len(w.mail) == 0:
		case x < 50:
			k := w.r.Intn(len(w.mail))
			w.mail = slices.Delete(w.mail, k, k+1)
		case x < 55:
			w.deliver(w.r.Intn(len(w.mail)), true)
		case x < 75:
			w.deliver(w.r.Intn(len(w.mail)), false)
		default:
			w.deliver(0, false)
		}
	}
}

// calm is so many rounds in which each node ticks, and then all messages arrive that were in transit.
func (w *world) calm(rounds int) {
	for range rounds {
		for i := range w.nodes {
			n, sent := raft.Tick(w.nodes[i], uint64(i))
			w.put(i, n, sent)
		}
		for range len(w.mail) {
			w.deliver(0, false)
		}
	}
}

// leading is the leader of the greatest Term.
func (w *world) leading() (int, bool) {
	at := -1
	for i, n := range w.nodes {
		if n.Role == api.Leader && (at < 0 || n.S.Term > w.nodes[at].S.Term) {
			at = i
		}
	}
	return at, at >= 0
}

// P8.6: whatever happens to messages: Terms, Votes and Commits never go back, committed entries are never replaced, and a leader replaces none; if nothing fails any more, the group gets a leader, and all of it has the same.
func TestGroups(t *testing.T) {
	changed, snapped := 0, 0
	for seed := range 120 {
		nodes := 1 + seed%5
		w := newWorld(t, int64(seed), nodes, nodes+seed/5%3)
		w.chaos(3000, seed%2 == 0)
		w.calm(120)
		i, is := w.leading()
		if !is {
			t.Fatalf("seed %d: no leader: %+v", seed, w.nodes)
		}
		n := w.nodes[i]
		end, _ := rlog.Last(n.S.Log)
		if n.Commit != end || end == 0 {
			t.Fatalf("seed %d: %d of %d are committed", seed, n.Commit, end)
		}
		c := raft.Conf(n)
		for _, id := range slices.Concat(c.Voters, c.Learners) {
			if m := w.nodes[id-1]; m.S.Term != n.S.Term || m.Lead != n.Id || m.Commit != end || rlog.Shared(m.S.Log, n.S.Log) != end {
				t.Fatalf("seed %d: %d is not as far as the leader: %+v, %+v", seed, id, m, n)
			}
		}
		if !slices.Equal(c.Voters, n.Init.Voters) || c.Learners != nil {
			changed++
		}
		if n.S.Log.Base > 0 {
			snapped++
		}
	}
	// Else the choices above are not what this test is for.
	if changed < 20 || snapped < 60 {
		t.Errorf("%d groups were changed, %d logs compacted", changed, snapped)
	}
}

// P8.6, with messages of any content: no call panics, and whatever a node is given, its Term, its Vote in a term and its Commit never go back.
func TestHostile(t *testing.T) {
	r := rand.New(rand.NewSource(8))
	few := []uint64{0, 1, 2, 3, 4, 5, 6, 7, 9, 10, 63, 64, api.MaxIndex, api.MaxNum - 1, api.MaxNum, api.MaxNum + 1, most}
	number := func() uint64 { return few[r.Intn(r.Intn(len(few))+1)] }
	snaps := []string{"", "x", snap(voters(1, 2, 3), "app"), snap(voters(2), ""), "\x00"}
	for range 400 {
		n := []api.Node{follower(voters(1, 2, 3)), asking(voters(1, 2)), candidate(voters(1, 2, 3)), leader(learning(3, 1, 2)), begun(voters(1), api.Stable{})}[r.Intn(5)]
		for range 60 {
			before := n
			switch r.Intn(8) {
			case 0:
				n, _ = raft.Tick(n, number())
			case 1:
				if m, _, _, e := raft.Offer(n, "x"); e == api.OK {
					n = m
				}
			case 2:
				if m, _, _, e := raft.Change(n, api.Change{Kind: r.Intn(5), Id: number()}); e == api.OK {
					n = m
				}
			case 3:
				if m, e := raft.Compact(n, number(), "app"); e == api.OK {
					n = m
				}
			default:
				m := api.Message{Kind: r.Intn(9), From: number(), To: 1, Term: n.S.Term + uint64(r.Intn(3)) - 1, Index: number(), LogTerm: number(), Commit: number(), Ok: r.Intn(2) == 0, Snap: snaps[r.Intn(len(snaps))]}
				for range r.Intn(12) {
					m.Entries = append(m.Entries, api.Entry{Term: number()})
				}
				n, _ = raft.Hear(n, m)
			}
			if n.S.Term < before.S.Term || n.S.Term == before.S.Term && before.S.Vote != 0 && n.S.Vote != before.S.Vote || n.Commit < before.Commit {
				t.Fatalf("it goes back: %+v, %+v", before, n)
			}
		}
	}
}

// R1: no call panics or goes on for ever for nodes of any content, of which nothing else is promised.
func TestAnyNode(t *testing.T) {
	few := []uint64{0, 1, 2, api.MaxNum, api.MaxNum + 1, most - 3, most - 1, most}
	for _, base := range few {
		for _, commit := range few {
			for role := -1; role < 5; role++ {
				for _, c := range []api.Conf{{}, voters(1), voters(0, most), voters(2, 1, 1), learning(1, 1)} {
					n := api.Node{Id: 1, Init: c, S: api.Stable{Term: commit, Log: log(base, 3, 1, 9, 2)}, Role: role, Commit: commit, Wait: 1, Beat: 1}
					n.Next = []api.Mark{{Id: 2, N: base}, {Id: 2, N: commit}, {Id: 1, N: commit}}
					n.Match = []api.Mark{{Id: 2, N: commit}, {Id: 1, N: base}}
					n.S.Log.Snap = snap(voters(1, 2), "x")
					callAll(n, commit, base)
					n.S.Log.Snap = ""
					callAll(n, commit, base)
				}
			}
		}
	}
}

// callAll calls each function with the node, and with these numbers.
func callAll(n api.Node, a, b uint64) {
	raft.Tick(n, a)
	raft.Offer(n, "x")
	raft.Conf(n)
	raft.Same(n, n)
	for kind := range 5 {
		raft.Change(n, api.Change{Kind: kind, Id: a})
		raft.Change(n, api.Change{Kind: kind, Id: 2})
	}
	for _, i := range []uint64{a, b, b + 1, b + 3} {
		raft.Compact(n, i, "x")
	}
	raft.New(a, n.Init, n.S)
	for kind := range 9 {
		for _, ok := range []bool{false, true} {
			m := api.Message{Kind: kind, From: 2, To: 1, Term: min(n.S.Term, api.MaxNum), Index: b, LogTerm: 3, Commit: a, Ok: ok, Entries: log(0, 0, 1, 9, 3, 4).Entries, Snap: snap(voters(1), "")}
			raft.Hear(n, m)
			m.Index = a
			raft.Hear(n, m)
		}
	}
}

// roomy is the list with room behind it that something stands in.
func roomy[T any](l []T, x T) []T {
	return append(append(make([]T, 0, len(l)+3), l...), x, x, x)[:len(l)]
}

// copied is the node with lists of its own, and what stands in the room behind them.
func copied(n api.Node) api.Node {
	n.Init.Voters = slices.Clone(n.Init.Voters[:cap(n.Init.Voters)])
	n.Init.Learners = slices.Clone(n.Init.Learners[:cap(n.Init.Learners)])
	n.S.Log.Entries = slices.Clone(n.S.Log.Entries[:cap(n.S.Log.Entries)])
	n.Voices = slices.Clone(n.Voices[:cap(n.Voices)])
	n.Next = slices.Clone(n.Next[:cap(n.Next)])
	n.Match = slices.Clone(n.Match[:cap(n.Match)])
	return n
}

// R3: nothing that is passed is written to, nor the room behind it, nor what was answered earlier.
func TestArguments(t *testing.T) {
	for role, n := range everyRole(api.Conf{Voters: []uint64{1, 2, 3}, Learners: []uint64{5}}) {
		n.Init.Voters, n.Init.Learners = roomy(n.Init.Voters, 77), roomy(n.Init.Learners, 77)
		n.S.Log.Entries = roomy(n.S.Log.Entries, api.Entry{Term: 77, Data: "y"})
		n.Voices = roomy(n.Voices, api.Voice{Id: 77})
		n.Next, n.Match = roomy(n.Next, api.Mark{Id: 77}), roomy(n.Match, api.Mark{Id: 77})
		n.Wait, n.Beat = 1, 1
		end := uint64(len(n.S.Log.Entries))
		before := copied(n)
		var made, kept []api.Node
		var sent, keptSent []api.Message
		keep := func(x api.Node, l []api.Message) {
			made, kept = append(made, x), append(kept, copied(x))
			for _, m := range l {
				sent = append(sent, m)
				m.Entries = slices.Clone(m.Entries)
				keptSent = append(keptSent, m)
			}
		}
		all := func(n api.Node) {
			keep(raft.Tick(n, 4))
			x, _, l, _ := raft.Offer(n, "x")
			keep(x, l)
			for kind := range 4 {
				for _, id := range []uint64{2, 5, 9} {
					x, _, l, _ = raft.Change(n, api.Change{Kind: kind, Id: id})
					keep(x, l)
				}
			}
			x, _ = raft.Compact(n, 1, "x")
			keep(x, nil)
			for kind := range 9 {
				for _, ok := range []bool{false, true} {
					m := mail(kind, 5, at(end-1, n.S.Log.Entries[end-2].Term), having(9, 5, 5))
					m.Ok, m.Entries = ok, roomy(m.Entries, api.Entry{Term: 77})
					keep(raft.Hear(n, m))
					m.Index, m.LogTerm, m.Snap = end, n.S.Log.Entries[end-1].Term, snap(voters(2, 3), "")
					keep(raft.Hear(n, m))
					m.Term++
					keep(raft.Hear(n, m))
					if x := m.Entries[:5]; !slices.Equal(x[2:], []api.Entry{{Term: 77}, {Term: 77}, {Term: 77}}) || x[0].Term != 5 || x[1].Term != 5 {
						t.Errorf("%s: a message is written to: %+v", role, x)
					}
				}
			}
		}
		all(n)
		for _, x := range slices.Clone(made) {
			if uint64(len(x.S.Log.Entries)) >= end {
				all(x)
			}
		}
		if !raft.Same(copied(n), before) {
			t.Errorf("%s: it is written to: %+v, was %+v", role, copied(n), before)
		}
		for i, x := range made {
			if !raft.Same(copied(x), kept[i]) {
				t.Fatalf("%s: what was answered is written to: %+v, was %+v", role, copied(x), kept[i])
			}
		}
		if !sameMessages(sent, keptSent) {
			t.Errorf("%s: messages are written to", role)
		}
	}
}

// R3: the lists of an answer's messages are lists of their own.
func TestMessagesApart(t *testing.T) {
	n := leader(voters(1, 2, 3))
	n, _, sent, _ := raft.Offer(n, "x")
	sent[0].Entries[0].Data = "y"
	if sent[1].Entries[0].Data != "" || n.S.Log.Entries[5].Data != "" {
		t.Errorf("%+v, %+v", sent, n)
	}
}
