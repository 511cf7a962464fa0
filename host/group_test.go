package host_test

import (
	"math/rand"
	"slices"
	"strconv"
	"testing"

	"ferrule/api"
	"ferrule/host"
	"ferrule/note"
	"ferrule/raft"
	"ferrule/rlog"
	"ferrule/tape"
)

// witness knows what must be on a host's tape: the bytes that are safe and the state that they come to, and the notes behind them.
type witness struct {
	safe, rest string
	s          api.Stable
	notes      []api.Note
	ends       []int // where in rest each of the notes ends
}

// add adds notes that were written.
func (w *witness) add(t *testing.T, l []api.Note) {
	t.Helper()
	for _, n := range l {
		w.rest += written(t, n)
		w.notes, w.ends = append(w.notes, n), append(w.ends, len(w.rest))
	}
}

// settle makes bytes, which come to that state, all that is on the tape.
func (w *witness) settle(safe string, s api.Stable) { *w = witness{safe: safe, s: s} }

// left is the state that remains where so many bytes of rest do, and the bytes of it on the tape.
func (w *witness) left(t *testing.T, keep int) (api.Stable, string) {
	t.Helper()
	whole := 0
	for whole < len(w.ends) && w.ends[whole] <= keep {
		whole++
	}
	if whole == 0 {
		return w.s, w.safe
	}
	first, e := note.Least(w.s)
	if e != api.OK {
		t.Fatalf("the safe state %+v: error %d", w.s, e)
	}
	return note.Fold(slices.Concat(first, w.notes[:whole])), w.safe + w.rest[:w.ends[whole-1]]
}

// vote is a node's in a term.
type vote struct{ term, by uint64 }

// world is hosts that send to one another, and what is known of all of them.
type world struct {
	t       *testing.T
	r       *rand.Rand
	hosts   []api.Host
	known   []witness
	mail    []api.Message
	entries map[uint64]api.Entry // what was committed by hosts that were synced, by its index
	ruled   map[uint64]uint64    // who led when synced, by the term
	votes   map[vote]uint64      // who was told to have a vote
	offers  int
	firm    int // how seldom a host fails
	laid    int // how often a tape was laid anew
	lost    int // how many notes crashes have lost
	dead    int // how often power was gone
}

// newWorld has so many hosts, of which the first ones are the voters.
func newWorld(t *testing.T, seed int64, voting, nodes int) *world {
	w := &world{t: t, r: rand.New(rand.NewSource(seed)), entries: map[uint64]api.Entry{}, ruled: map[uint64]uint64{}, votes: map[vote]uint64{}}
	var c api.Conf
	for i := range voting {
		c.Voters = append(c.Voters, uint64(i)+1)
	}
	for i := range nodes {
		h, e := host.Start(uint64(i)+1, c, api.Tape{Power: -1})
		if e != api.OK {
			t.Fatal(e)
		}
		w.hosts, w.known = append(w.hosts, h), append(w.known, witness{})
	}
	return w
}

// put lets a host become what the call answers, and holds it to the call's own promise and to what must be on its tape.
func (w *world) put(i int, x call) {
	w.t.Helper()
	h := w.hosts[i]
	got, k, e := x.do(h)
	n, index, sent, wanted := x.plain(h.N)
	if h.Down {
		wanted = api.ErrDead
	}
	if wanted != api.OK {
		w.hold(i, x.why, got, e, h, wanted)
		return
	}
	if l := diff(h.N.S, n.S); len(l) > 0 {
		if h.T.Power == 0 {
			w.dead++
			h.T.Off, h.Down = true, true
			w.hold(i, x.why, got, e, h, api.ErrDead)
			return
		}
		h.T.Power = max(h.T.Power-1, -1)
		w.write(i, l, n.S)
	}
	h.N, h.Out = n, append(slices.Clone(h.Out), sent...)
	h.T.Safe, h.T.Rest = w.known[i].safe, w.known[i].rest
	w.hold(i, x.why, got, e, h, api.OK)
	if k != index {
		w.t.Fatalf("%s: index %d, want %d", x.why, k, index)
	}
}

// write lets the witness know what a host must have written.
func (w *world) write(i int, l []api.Note, s api.Stable) {
	k := &w.known[i]
	if len(k.safe)+len(k.rest)+len(written(w.t, l...)) <= api.HalfTape {
		k.add(w.t, l)
		return
	}
	w.laid++
	k.settle(least(w.t, s), s)
}

// hold holds a host to what it must be, and lets it become that.
func (w *world) hold(i int, why string, h api.Host, e api.Errno, want api.Host, wanted api.Errno) {
	w.t.Helper()
	if e != wanted || !sameHost(h, want) {
		w.t.Fatalf("%s: %d\n%.600v, want %d\n%.600v", why, e, h, wanted, want)
	}
	w.hosts[i] = h
	w.holdSynced(h)
}

// holdSynced holds a host whose tape has nothing that is not synced to what others have committed, and to be the only leader of its term.
func (w *world) holdSynced(h api.Host) {
	w.t.Helper()
	if h.Down || h.T.Rest != "" {
		return
	}
	n := h.N
	for i := n.S.Log.Base + 1; i <= n.Commit; i++ {
		x, _ := rlog.From(n.S.Log, i, 1)
		if len(x) != 1 {
			w.t.Fatalf("%d has committed %d, but does not have it", n.Id, i)
		}
		if y, known := w.entries[i]; known && y != x[0] {
			w.t.Fatalf("%d was committed as %.60v, and by %d as %.60v", i, y, n.Id, x[0])
		}
		w.entries[i] = x[0]
	}
	if n.Role != api.Leader {
		return
	}
	if id, ruled := w.ruled[n.S.Term]; ruled && id != n.Id {
		w.t.Fatalf("%d and %d lead in the term %d", id, n.Id, n.S.Term)
	}
	w.ruled[n.S.Term] = n.Id
}

// sync syncs a host: what it tells is in transit then.
func (w *world) sync(i int) {
	w.t.Helper()
	h := w.hosts[i]
	got, out, e := host.Sync(h)
	if h.Down || h.T.Power == 0 {
		h.T.Off, h.Down = h.T.Off || !h.Down, true
		w.hold(i, "Sync", got, e, h, api.ErrDead)
		if len(out) != 0 {
			w.t.Fatalf("messages without power: %v", out)
		}
		return
	}
	k := &w.known[i]
	if k.rest != "" {
		k.settle(k.safe+k.rest, h.N.S)
	}
	waited := h.Out
	h.T.Safe, h.T.Rest, h.T.Power, h.Out = k.safe, "", max(h.T.Power-1, -1), nil
	w.hold(i, "Sync", got, e, h, api.OK)
	if !sameMessages(out, waited) {
		w.t.Fatalf("messages %v, want %v", out, waited)
	}
	w.holdVotes(out)
	w.mail = append(w.mail, out...)
}

// holdVotes holds the votes that messages tell of to be each node's only ones in their terms.
func (w *world) holdVotes(l []api.Message) {
	w.t.Helper()
	for _, m := range l {
		chosen := m.To
		switch {
		case m.Kind == api.MAsk:
			chosen = m.From
		case m.Kind != api.MVote || !m.Ok:
			continue
		}
		v := vote{m.Term, m.From}
		if id, given := w.votes[v]; given && id != chosen {
			w.t.Fatalf("%d votes for %d and %d in the term %d", m.From, id, chosen, m.Term)
		}
		w.votes[v] = chosen
	}
}

// crash lets a host crash: it has what was synced, and a beginning of the notes behind that.
func (w *world) crash(i, keep int) {
	w.t.Helper()
	h, k := w.hosts[i], &w.known[i]
	s, safe := k.left(w.t, keep)
	if len(safe) < len(k.safe)+len(k.rest) {
		w.lost++
	}
	k.settle(safe, s)
	n := begun(h.N.Init, s)
	n.Id = h.N.Id
	got, e := host.Crash(h, keep)
	w.hold(i, "Crash", got, e, api.Host{N: n, T: api.Tape{Safe: safe, Power: -1}}, api.OK)
}

// deliver delivers a message, which stays in transit if it is doubled.
func (w *world) deliver(k int, doubled bool) {
	m := w.mail[k]
	if !doubled {
		w.mail = slices.Delete(w.mail, k, k+1)
	}
	w.put(int(m.To)-1, delivery(m))
}

// offer offers something to a host, of great size as long as its state is not.
func (w *world) offer(i int) {
	w.offers++
	data := strconv.Itoa(w.offers)
	size := 0
	for _, x := range w.hosts[i].N.S.Log.Entries {
		size += len(x.Data)
	}
	if size < api.HalfTape/4 {
		data += text(w.r.Intn(api.MaxText - 10))
	}
	w.put(i, offering("Offer", api.Node{}, data))
}

// act is one of the things that may happen to a host itself.
func (w *world) act(i int, changes bool) {
	n := w.hosts[i].N
	switch x := w.r.Intn(100); {
	case x < 55:
		w.put(i, ticking("Tick", n, w.r.Uint64()))
	case x < 80:
		w.offer(i)
	case x < 84 && changes:
		w.put(i, changing("Change", n, api.Change{Kind: 1 + w.r.Intn(3), Id: 1 + uint64(w.r.Intn(len(w.hosts)))}))
	case x < 88:
		w.put(i, squeezing("Squeeze", n, n.S.Log.Base+uint64(w.r.Intn(5)), "state"))
	case x < 92:
		w.put(i, squeezing("Squeeze", n, n.Commit, "all"))
	case w.hosts[i].Down, w.r.Intn(w.firm) == 0:
		w.fail(i)
	}
}

// fail lets a host fail: its power will end, or it crashes, and keeps nothing or a part of what was not synced.
func (w *world) fail(i int) {
	keep := w.r.Intn(len(w.hosts[i].T.Rest) + 2)
	switch x := w.r.Intn(4); {
	case x == 0 && !w.hosts[i].Down:
		w.hosts[i].T = tape.Powered(w.hosts[i].T, w.r.Intn(4))
	case x == 1:
		w.crash(i, 0)
	default:
		w.crash(i, keep)
	}
}

// chaos is so many steps of everything that may happen: messages are late, lost and doubled, power ends, and hosts crash.
func (w *world) chaos(steps int, changes bool) {
	for range steps {
		i := w.r.Intn(len(w.hosts))
		switch x := w.r.Intn(100); {
		case x < 40:
			w.act(i, changes)
		case x < 65:
			w.sync(i)
		case len(w.mail) == 0:
		case x < 68:
			k := w.r.Intn(len(w.mail))
			w.mail = slices.Delete(w.mail, k, k+1)
		case x < 71:
			w.deliver(w.r.Intn(len(w.mail)), true)
		case x < 80:
			w.deliver(w.r.Intn(len(w.mail)), false)
		default:
			w.deliver(0, false)
		}
	}
}

// calm is so many rounds in which each host ticks and is synced, and then all messages arrive that were in transit.
func (w *world) calm(rounds int) {
	for range rounds {
		for i, h := range w.hosts {
			w.put(i, ticking("Tick", h.N, uint64(i)))
			w.sync(i)
		}
		for range len(w.mail) {
			w.deliver(0, false)
		}
	}
}

// leading is the leader of the greatest Term.
func (w *world) leading() (api.Node, bool) {
	var best api.Node
	for _, h := range w.hosts {
		if h.N.Role == api.Leader && h.N.S.Term > best.S.Term {
			best = h.N
		}
	}
	return best, best.Role == api.Leader
}

// P9.5, and P9.3 and P9.4 at each step: groups whose messages are late, lost and doubled, and whose hosts crash and lose power: after each crash a host has what was synced and a beginning of the notes behind it, no vote that was told and nothing that was committed is taken back; if nothing fails any more, the group gets a leader, and all of it has the same.
func TestGroups(t *testing.T) {
	laid, lost, dead, changed := 0, 0, 0, 0
	for seed := range 90 {
		nodes := 1 + seed%5
		w := newWorld(t, int64(seed), nodes, nodes+seed/5%3)
		w.firm = []int{2, 10, 60}[seed%3]
		w.chaos(4000, seed%2 == 0)
		for i := range w.hosts {
			w.crash(i, w.r.Intn(len(w.hosts[i].T.Rest)+1))
		}
		w.calm(150)
		n, is := w.leading()
		if !is {
			t.Fatalf("seed %d: no leader", seed)
		}
		end, _ := rlog.Last(n.S.Log)
		if n.Commit != end || end == 0 {
			t.Fatalf("seed %d: %d of %d are committed", seed, n.Commit, end)
		}
		c := raft.Conf(n)
		for _, id := range slices.Concat(c.Voters, c.Learners) {
			if m := w.hosts[id-1].N; m.S.Term != n.S.Term || m.Lead != n.Id || m.Commit != end || rlog.Shared(m.S.Log, n.S.Log) != end {
				t.Fatalf("seed %d: %d is not as far as the leader", seed, id)
			}
		}
		if !slices.Equal(c.Voters, n.Init.Voters) || c.Learners != nil {
			changed++
		}
		laid, lost, dead = laid+w.laid, lost+w.lost, dead+w.dead
	}
	// Else the choices above are not what this test is for.
	if laid < 40 || lost < 100 || dead < 25 || changed < 10 {
		t.Errorf("tapes were laid anew %d times, %d crashes lost notes, power ended %d times, %d groups were changed", laid, lost, dead, changed)
	}
}

// P9.3 to P9.5: every script of up to six calls of a host that is alone: ticks, offers, changes, squeezes, syncs, an end of power and crashes.
func TestScripts(t *testing.T) {
	steps := []func(*world){
		func(w *world) { w.put(0, ticking("Tick", api.Node{}, 4)) },
		func(w *world) { w.put(0, offering("Offer", api.Node{}, "x")) },
		func(w *world) { w.put(0, changing("Change", api.Node{}, api.Change{Kind: api.ChangeLearn, Id: 2})) },
		func(w *world) { w.put(0, squeezing("Squeeze", api.Node{}, w.hosts[0].N.Commit, "s")) },
		func(w *world) { w.sync(0) },
		func(w *world) { w.hosts[0].T = tape.Powered(w.hosts[0].T, 1) },
		func(w *world) { w.crash(0, 0) },
		func(w *world) { w.crash(0, len(w.hosts[0].T.Rest)/2) },
		func(w *world) { w.crash(0, len(w.hosts[0].T.Rest)) },
	}
	var all func(w *world, left int)
	all = func(w *world, left int) {
		if left == 0 {
			return
		}
		for _, do := range steps {
			x := *w
			x.hosts, x.known, x.mail = slices.Clone(w.hosts), slices.Clone(w.known), nil
			x.entries, x.ruled, x.votes = map[uint64]api.Entry{}, map[uint64]uint64{}, map[vote]uint64{}
			// The hosts of all scripts share memory, which the witness's lists must not.
			x.known[0].notes, x.known[0].ends = slices.Clip(x.known[0].notes), slices.Clip(x.known[0].ends)
			do(&x)
			all(&x, left-1)
		}
	}
	w := newWorld(t, 9, 1, 1)
	all(w, 3)
	// At the next tick it leads.
	for range 19 {
		w.put(0, ticking("Tick", api.Node{}, 4))
	}
	all(w, 6)
}

// P9.5: what is told depends on nothing that may be lost: a host that is synced is the same behind any crash, but for what its node need not know.
func TestNothingLost(t *testing.T) {
	for _, x := range slices.Concat(noting(), quiet()) {
		h := on(x.n, api.Tape{Rest: least(t, x.n.S), Power: -1})
		h, _, e := x.do(h)
		if e != api.OK {
			t.Fatalf("%s: error %d", x.why, e)
		}
		after := h.N
		h, out, e := host.Sync(h)
		if e != api.OK || len(out) < 2 {
			t.Fatalf("%s: Sync answers %v, %d", x.why, out, e)
		}
		for _, keep := range []int{0, 1000} {
			if c, e := host.Crash(h, keep); e != api.OK || !sameState(c.N.S, after.S) {
				t.Errorf("%s: behind a Sync and a crash %+v, %d, want %+v", x.why, c.N.S, e, after.S)
			}
		}
	}
}

// P9.5: a call that lays the tape anew makes all safe at once, and nothing of it is lost.
func TestLaidAnew(t *testing.T) {
	for _, x := range noting() {
		n, _, _, _ := x.plain(x.n)
		h := on(x.n, api.Tape{Safe: least(t, x.n.S), Rest: text(api.HalfTape), Power: 1})
		h, _, e := x.do(h)
		if e != api.OK {
			t.Fatalf("%s: error %d", x.why, e)
		}
		c, e := host.Crash(h, 0)
		want := begun(x.n.Init, n.S)
		hold(t, x.why, c, e, api.Host{N: want, T: api.Tape{Safe: least(t, n.S), Power: -1}}, api.OK)
	}
}
