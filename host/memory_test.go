package host_test

import (
	"slices"
	"testing"

	"ferrule/api"
	"ferrule/host"
)

// roomy is the list with room behind it that something stands in.
func roomy[T any](l []T, x T) []T {
	return append(append(make([]T, 0, len(l)+3), l...), x, x, x)[:len(l)]
}

// whole is a copy of a list, and of what stands in the room behind it.
func whole[T any](l []T) []T { return slices.Clone(l[:cap(l)]) }

// copied is the host with lists of its own, and what stands in the room behind them.
func copied(h api.Host) api.Host {
	h.N.Init.Voters, h.N.Init.Learners = whole(h.N.Init.Voters), whole(h.N.Init.Learners)
	h.N.S.Log.Entries = whole(h.N.S.Log.Entries)
	h.N.Voices, h.N.Next, h.N.Match = whole(h.N.Voices), whole(h.N.Next), whole(h.N.Match)
	h.Out = letters(h.Out[:cap(h.Out)])
	return h
}

// letters are copies of messages, with lists of their own.
func letters(l []api.Message) []api.Message {
	l = slices.Clone(l)
	for i := range l {
		l[i].Entries = whole(l[i].Entries)
	}
	return l
}

// ward keeps what was passed and answered, and copies of it.
type ward struct {
	hosts, copies []api.Host
	sent, letters [][]api.Message
}

// keep keeps a host.
func (w *ward) keep(h api.Host) {
	w.hosts, w.copies = append(w.hosts, h), append(w.copies, copied(h))
}

// keepSent keeps messages.
func (w *ward) keepSent(l []api.Message) {
	w.sent, w.letters = append(w.sent, l), append(w.letters, letters(l[:cap(l)]))
}

// hold holds all that was kept to its copies.
func (w *ward) hold(t *testing.T, why string) {
	t.Helper()
	for i, h := range w.hosts {
		if x := copied(h); !sameHost(x, w.copies[i]) {
			t.Fatalf("%s: a host is written to:\n%+v, was\n%+v", why, x, w.copies[i])
		}
	}
	for i, l := range w.sent {
		if !sameMessages(letters(l[:cap(l)]), w.letters[i]) {
			t.Fatalf("%s: messages are written to: %v, were %v", why, l[:cap(l)], w.letters[i])
		}
	}
}

// spacious is the host with room behind each of its lists.
func spacious(h api.Host) api.Host {
	h.N.Init.Voters, h.N.Init.Learners = roomy(h.N.Init.Voters, 77), roomy(h.N.Init.Learners, 77)
	h.N.S.Log.Entries = roomy(h.N.S.Log.Entries, api.Entry{Term: 77, Data: "y"})
	h.N.Voices = roomy(h.N.Voices, api.Voice{Id: 77})
	h.N.Next, h.N.Match = roomy(h.N.Next, api.Mark{Id: 77}), roomy(h.N.Match, api.Mark{Id: 77})
	h.Out = roomy(h.Out, api.Message{Kind: 77})
	for i := range h.Out {
		h.Out[i].Entries = roomy(h.Out[i].Entries, api.Entry{Term: 77})
	}
	return h
}

// R3: nothing that is passed is written to, nor the room behind it, nor what was answered earlier.
func TestArguments(t *testing.T) {
	calls := slices.Concat(noting(), quiet(), ill())
	for _, l := range refused() {
		calls = append(calls, l...)
	}
	for _, first := range calls {
		w := &ward{}
		h := spacious(on(first.n, api.Tape{Rest: "rest", Power: -1}))
		w.keep(h)
		one, _, _ := first.do(h)
		w.keep(one)
		w.hold(t, first.why)
		// Two calls of the same host must not meet in the room behind its lists, nor in that of the host which the first one answered.
		for _, from := range []api.Host{h, one, one} {
			for _, x := range calls {
				y, _, _ := x.do(from)
				w.keep(y)
			}
			y, out, _ := host.Sync(from)
			w.keep(y)
			w.keepSent(out)
			y, _ = host.Crash(from, 2)
			w.keep(y)
			w.hold(t, first.why+", and all others")
		}
	}
}

// R3: what is appended to the messages that Sync has answered is seen by nobody else.
func TestAppended(t *testing.T) {
	h := spacious(on(leader(), api.Tape{Power: -1}))
	_, a, _ := host.Sync(h)
	_, b, _ := host.Sync(h)
	a, b = append(a, api.Message{Kind: 1}), append(b, api.Message{Kind: 2})
	if a[len(a)-1].Kind != 1 || b[len(b)-1].Kind != 2 || h.Out[:cap(h.Out)][len(h.Out)].Kind != 77 {
		t.Errorf("%v, %v", a, b)
	}
}

// R3: the entries of a message that was heard, and those that Diff was given, are written to by no later call.
func TestHeardEntries(t *testing.T) {
	l := roomy(entries("5x 5y"), api.Entry{Term: 77})
	m := api.Message{Kind: api.MAppend, From: 3, To: 1, Term: 5, Index: 4, LogTerm: 4, Entries: l}
	h, _ := host.Hear(on(follower(), api.Tape{Power: -1}), m)
	for _, more := range [][]api.Entry{entries("5z"), entries("6z 6z 6z")} {
		x := m
		x.Index, x.LogTerm, x.Term, x.Entries = 5, 5, 6, more
		host.Hear(h, x)
		x.Index = 6
		host.Hear(h, x)
	}
	if !slices.Equal(l[:cap(l)], []api.Entry{{Term: 5, Data: "x"}, {Term: 5, Data: "y"}, {Term: 77}, {Term: 77}, {Term: 77}}) {
		t.Errorf("a message that was heard is written to: %v", l[:cap(l)])
	}
	a, b := follower().S, leader().S
	a.Log.Entries, b.Log.Entries = roomy(a.Log.Entries, api.Entry{Term: 77}), roomy(b.Log.Entries, api.Entry{Term: 78})
	p, q := whole(a.Log.Entries), whole(b.Log.Entries)
	notes := host.Diff(a, b)
	host.Diff(b, a)
	b.Log.Base = 2
	host.Diff(a, b)
	if !slices.Equal(p, whole(a.Log.Entries)) || !slices.Equal(q, whole(b.Log.Entries)) || !slices.Equal(notes, []api.Note{hard(5, 1), entry(5, 5, ""), entry(6, 5, "dd")}) {
		t.Errorf("Diff writes to %v, %v, %v", whole(a.Log.Entries), whole(b.Log.Entries), notes)
	}
}

// R1: no call panics or goes on for ever for hosts and states of any content, of which nothing else is promised.
func TestAnyHost(t *testing.T) {
	few := []uint64{0, 1, 2, api.MaxNum, api.MaxNum + 1, most - 3, most}
	var states []api.Stable
	for _, base := range few {
		for _, term := range few {
			for _, words := range []string{"", "1", "2a 1b 9c 0d"} {
				states = append(states, state(term, base, base, term, snap(voters(1, 2), "x"), words))
			}
		}
	}
	for _, a := range states {
		for _, b := range states {
			host.Diff(a, b)
		}
		for role := -1; role < 5; role++ {
			for _, tp := range []api.Tape{{}, {Power: -5, Rest: "x"}, {Off: true}, {Safe: text(api.MaxTape), Rest: text(9), Power: 2}} {
				n := api.Node{Id: 1, Init: voters(0, most), S: a, Role: role, Commit: a.Log.Base + 2, Wait: 1, Beat: 1}
				n.Next, n.Match = []api.Mark{{Id: 2, N: a.Log.Base}}, []api.Mark{{Id: 1, N: a.Term}}
				callAll(on(n, tp))
			}
		}
	}
}

// callAll calls each function with the host.
func callAll(h api.Host) {
	host.Tick(h, most)
	for kind := range 9 {
		host.Hear(h, api.Message{Kind: kind, From: 2, To: 1, Term: min(h.N.S.Term, api.MaxNum), Index: h.N.S.Log.Base, LogTerm: h.N.S.Term, Commit: most, Ok: kind%2 == 0, Entries: entries("9 1"), Snap: snap(voters(1), "")})
	}
	host.Offer(h, "x")
	host.Change(h, api.Change{Kind: api.ChangeLearn, Id: 3})
	host.Squeeze(h, h.N.S.Log.Base+1, "x")
	host.Sync(h)
	host.Crash(h, -1)
	host.Start(h.N.S.Term, h.N.Init, h.T)
}
