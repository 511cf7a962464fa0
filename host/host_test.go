package host_test

import (
	"math"
	"slices"
	"strings"
	"testing"

	"ferrule/api"
	"ferrule/group"
	"ferrule/host"
	"ferrule/note"
	"ferrule/pack"
	"ferrule/raft"
	"ferrule/tape"
)

// most is the greatest number that there is.
const most = math.MaxUint64

// voters is a configuration of these Voters.
func voters(ids ...uint64) api.Conf { return api.Conf{Voters: ids} }

// text is a text of so many bytes.
func text(n int) string { return strings.Repeat("t", n) }

// snap is the snapshot of a configuration and of the application's state.
func snap(c api.Conf, app string) string {
	b, _ := group.Bytes(c)
	s, _ := pack.Text(b)
	return s + app
}

// hard, entry, cut and snapped are notes of the four kinds.
func hard(term, vote uint64) api.Note { return api.Note{Kind: api.NoteHard, Term: term, Vote: vote} }
func entry(i, term uint64, data string) api.Note {
	return api.Note{Kind: api.NoteEntry, Index: i, Term: term, Data: data}
}
func cut(i uint64) api.Note { return api.Note{Kind: api.NoteCut, Index: i} }
func snapped(i, term uint64, data string) api.Note {
	return api.Note{Kind: api.NoteSnap, Index: i, Term: term, Data: data}
}

// entries are one for each word: its term's digit, and its Data behind that.
func entries(words string) []api.Entry {
	var l []api.Entry
	for w := range strings.FieldsSeq(words) {
		l = append(l, api.Entry{Term: uint64(w[0] - '0'), Data: w[1:]})
	}
	return l
}

// state is one whose log has those entries.
func state(term, vote, base, baseTerm uint64, snap, words string) api.Stable {
	return api.Stable{Term: term, Vote: vote, Log: api.Log{Base: base, BaseTerm: baseTerm, Snap: snap, Entries: entries(words)}}
}

// written are the bytes of notes that may be, one behind another.
func written(t *testing.T, l ...api.Note) string {
	t.Helper()
	var all strings.Builder
	for _, n := range l {
		b, e := note.Bytes(n)
		if e != api.OK {
			t.Fatalf("Bytes(%.200v): error %d", n, e)
		}
		all.WriteString(b)
	}
	return all.String()
}

// least are the bytes of the fewest notes of a state.
func least(t *testing.T, s api.Stable) string {
	t.Helper()
	l, e := note.Least(s)
	if e != api.OK {
		t.Fatalf("Least(%.200v): error %d", s, e)
	}
	return written(t, l...)
}

// sameState: are two states equal? Lists are if their elements are.
func sameState(a, b api.Stable) bool {
	return raft.Same(api.Node{S: a}, api.Node{S: b})
}

// sameMessages: are two lists of messages the same, element by element?
func sameMessages(a, b []api.Message) bool {
	return slices.EqualFunc(a, b, func(x, y api.Message) bool {
		return x.Kind == y.Kind && x.From == y.From && x.To == y.To && x.Term == y.Term &&
			x.Index == y.Index && x.LogTerm == y.LogTerm && x.Commit == y.Commit && x.Ok == y.Ok &&
			slices.Equal(x.Entries, y.Entries) && x.Snap == y.Snap
	})
}

// sameHost: are two hosts the same?
func sameHost(a, b api.Host) bool {
	return raft.Same(a.N, b.N) && a.T == b.T && sameMessages(a.Out, b.Out) && a.Down == b.Down
}

// hold holds a host and an error to those that are wanted.
func hold(t *testing.T, why string, h api.Host, e api.Errno, want api.Host, wantError api.Errno) {
	t.Helper()
	if e != wantError {
		t.Errorf("%s: error %d, want %d", why, e, wantError)
	}
	if !sameHost(h, want) {
		t.Errorf("%s: host\n%.600v, want\n%.600v", why, h, want)
	}
}

// begun is the node 1 at its beginning.
func begun(c api.Conf, s api.Stable) api.Node {
	return api.Node{Id: 1, Init: c, S: s, Commit: s.Log.Base, Span: 20, Wait: 20}
}

// follower is the node 1 of three in the term 5, that has voted for 2.
func follower() api.Node {
	n := begun(voters(1, 2, 3), state(5, 2, 0, 0, "", "1 1da 2db 4dc"))
	n.Commit, n.Lead, n.Span, n.Wait = 2, 3, 14, 7
	return n
}

// leader is the node 1 of three as a leader in the term 5.
func leader() api.Node {
	n := begun(voters(1, 2, 3), state(5, 1, 0, 0, "", "1 1da 2db 4dc 5 5dd"))
	n.Role, n.Lead, n.Commit, n.Span, n.Wait, n.Beat = api.Leader, 1, 5, 14, 7, 2
	n.Next = []api.Mark{{Id: 2, N: 7}, {Id: 3, N: 6}}
	n.Match = []api.Mark{{Id: 1, N: 6}, {Id: 2, N: 6}, {Id: 3, N: 5}}
	return n
}

// alone is the node 1 as the only one, which leads at its next tick.
func alone() api.Node {
	n := begun(voters(1), state(5, 1, 0, 0, "", "1 1da"))
	n.Wait = 1
	return n
}

// waiting are messages that wait.
func waiting() []api.Message {
	return []api.Message{
		{Kind: api.MVote, From: 1, To: 2, Term: 5, Ok: true},
		{Kind: api.MAppend, From: 1, To: 3, Term: 5, Index: 3, LogTerm: 2, Entries: entries("4dc 5")},
	}
}

// on is a host of a node with a tape; messages wait.
func on(n api.Node, t api.Tape) api.Host { return api.Host{N: n, T: t, Out: waiting()} }

// call is one of a host's, of a node, with what the node's layer makes of it, and the notes that are to be written.
type call struct {
	why   string
	n     api.Node
	do    func(api.Host) (api.Host, uint64, api.Errno)
	plain func(api.Node) (api.Node, uint64, []api.Message, api.Errno)
	notes []api.Note
}

// ticking is a Tick.
func ticking(why string, n api.Node, draw uint64, notes ...api.Note) call {
	return call{why, n, func(h api.Host) (api.Host, uint64, api.Errno) {
		h, e := host.Tick(h, draw)
		return h, 0, e
	}, func(n api.Node) (api.Node, uint64, []api.Message, api.Errno) {
		n, sent := raft.Tick(n, draw)
		return n, 0, sent, api.OK
	}, notes}
}

// hearing is a Hear of a message to the node 1.
func hearing(why string, n api.Node, m api.Message, notes ...api.Note) call {
	m.To = 1
	x := delivery(m)
	x.why, x.n, x.notes = why, n, notes
	return x
}

// delivery is a Hear of a message by any node.
func delivery(m api.Message) call {
	return call{why: "Hear", do: func(h api.Host) (api.Host, uint64, api.Errno) {
		h, e := host.Hear(h, m)
		return h, 0, e
	}, plain: func(n api.Node) (api.Node, uint64, []api.Message, api.Errno) {
		n, sent := raft.Hear(n, m)
		return n, 0, sent, api.OK
	}}
}

// offering is an Offer.
func offering(why string, n api.Node, data string, notes ...api.Note) call {
	return call{why, n, func(h api.Host) (api.Host, uint64, api.Errno) { return host.Offer(h, data) },
		func(n api.Node) (api.Node, uint64, []api.Message, api.Errno) { return raft.Offer(n, data) }, notes}
}

// changing is a Change.
func changing(why string, n api.Node, x api.Change, notes ...api.Note) call {
	return call{why, n, func(h api.Host) (api.Host, uint64, api.Errno) { return host.Change(h, x) },
		func(n api.Node) (api.Node, uint64, []api.Message, api.Errno) { return raft.Change(n, x) }, notes}
}

// squeezing is a Squeeze.
func squeezing(why string, n api.Node, i uint64, app string, notes ...api.Note) call {
	return call{why, n, func(h api.Host) (api.Host, uint64, api.Errno) {
		h, e := host.Squeeze(h, i, app)
		return h, 0, e
	}, func(n api.Node) (api.Node, uint64, []api.Message, api.Errno) {
		n, e := raft.Compact(n, i, app)
		return n, 0, nil, e
	}, notes}
}

// noting are calls that come to notes, one of each kind and several among them.
func noting() []call {
	learner, _ := group.Bytes(api.Conf{Voters: []uint64{1, 2, 3}, Learners: []uint64{4}})
	return []call{
		ticking("Tick: one alone leads", alone(), 4, hard(6, 1), entry(3, 6, "")),
		hearing("Hear: a vote", follower(), api.Message{Kind: api.MAsk, From: 3, Term: 6, Index: 4, LogTerm: 4}, hard(6, 3)),
		hearing("Hear: a later term", follower(), api.Message{Kind: api.MReply, From: 3, Term: 7}, hard(7, 0)),
		hearing("Hear: an entry", follower(), api.Message{Kind: api.MAppend, From: 3, Term: 5, Index: 4, LogTerm: 4, Entries: entries("5x")}, entry(5, 5, "x")),
		hearing("Hear: other entries", follower(), api.Message{Kind: api.MAppend, From: 3, Term: 6, Index: 2, LogTerm: 1, Entries: entries("5x 6y")}, hard(6, 0), cut(3), entry(3, 5, "x"), entry(4, 6, "y")),
		hearing("Hear: a snapshot", follower(), api.Message{Kind: api.MSnap, From: 3, Term: 5, Index: 9, LogTerm: 4, Snap: snap(voters(1, 3), "s")}, snapped(9, 4, snap(voters(1, 3), "s"))),
		hearing("Hear: a snapshot of a part", follower(), api.Message{Kind: api.MSnap, From: 3, Term: 6, Index: 3, LogTerm: 2, Snap: snap(voters(1, 3), "s")}, hard(6, 0), snapped(3, 2, snap(voters(1, 3), "s"))),
		offering("Offer", leader(), "hello", entry(7, 5, "dhello")),
		offering("Offer of nothing", leader(), "", entry(7, 5, "d")),
		offering("Offer of the longest", leader(), text(api.MaxText-1), entry(7, 5, "d"+text(api.MaxText-1))),
		changing("Change", leader(), api.Change{Kind: api.ChangeLearn, Id: 4}, entry(7, 5, "c"+learner)),
		squeezing("Squeeze", leader(), 4, "app", snapped(4, 4, snap(voters(1, 2, 3), "app"))),
		squeezing("Squeeze of all that is committed", leader(), 5, "", snapped(5, 5, snap(voters(1, 2, 3), ""))),
	}
}

// quiet are calls that come to no notes.
func quiet() []call {
	beating := leader()
	beating.Beat = 1
	asking := follower()
	asking.Wait = 1
	return []call{
		ticking("Tick", follower(), 4),
		ticking("Tick: it asks", asking, 4),
		ticking("Tick: a leader", leader(), 4),
		ticking("Tick: a leader sends", beating, 4),
		hearing("Hear: a message to nobody", follower(), api.Message{Kind: 9, From: 3, Term: 9}),
		hearing("Hear: a vote that is refused", follower(), api.Message{Kind: api.MAsk, From: 3, Term: 5, Index: 9, LogTerm: 9}),
		hearing("Hear: a leader without entries", follower(), api.Message{Kind: api.MAppend, From: 3, Term: 5, Index: 4, LogTerm: 4, Commit: 3}),
		hearing("Hear: entries that it has", follower(), api.Message{Kind: api.MAppend, From: 3, Term: 5, Index: 2, LogTerm: 1, Entries: entries("2db 4dc")}),
		hearing("Hear: entries behind what it lacks", follower(), api.Message{Kind: api.MAppend, From: 3, Term: 5, Index: 9, LogTerm: 5, Entries: entries("5")}),
		hearing("Hear: a reply", leader(), api.Message{Kind: api.MReply, From: 3, Term: 5, Ok: true, Index: 6}),
	}
}

// refused are calls that the node's layer refuses, with its error.
func refused() map[api.Errno][]call {
	full := leader()
	full.S.Log.Entries = slices.Repeat([]api.Entry{{Term: 5}}, api.MaxEntries)
	young := leader()
	young.Commit = 4
	return map[api.Errno][]call{
		api.ErrLead: {offering("Offer to a follower", follower(), "x"), changing("Change by a follower", follower(), api.Change{Kind: api.ChangeLearn, Id: 4})},
		api.ErrBig:  {offering("Offer of too much", leader(), text(api.MaxText)), squeezing("Squeeze with too much", leader(), 4, text(api.MaxText))},
		api.ErrFull: {offering("Offer to a full log", full, "x"), changing("Change in a full log", full, api.Change{Kind: api.ChangeLearn, Id: 4})},
		api.ErrOrder: {
			changing("Change: the leader leaves", leader(), api.Change{Kind: api.ChangeLeave, Id: 1}),
		},
		api.ErrBusy:  {changing("Change without a commit of its own", young, api.Change{Kind: api.ChangeLearn, Id: 4})},
		api.ErrThere: {changing("Change: it is there", leader(), api.Change{Kind: api.ChangeLearn, Id: 2})},
		api.ErrNone:  {changing("Change: there is none", leader(), api.Change{Kind: api.ChangeLeave, Id: 4})},
		api.ErrArg: {
			changing("Change of no kind", leader(), api.Change{Kind: 4, Id: 4}),
			squeezing("Squeeze of what is not committed", leader(), 6, "x"),
			squeezing("Squeeze of nothing", leader(), 0, "x"),
		},
	}
}

// P9.1: Diff, written out.
func TestDiff(t *testing.T) {
	a := state(3, 1, 2, 1, "s", "1a 2b 3c")
	for _, x := range []struct {
		why  string
		a, b api.Stable
		want []api.Note
	}{
		{"two that are empty", api.Stable{}, api.Stable{}, nil},
		{"two that are the same", a, state(3, 1, 2, 1, "s", "1a 2b 3c"), nil},
		{"another Term alone", a, state(4, 1, 2, 1, "s", "1a 2b 3c"), []api.Note{hard(4, 1)}},
		{"a lesser Term alone", a, state(2, 1, 2, 1, "s", "1a 2b 3c"), []api.Note{hard(2, 1)}},
		{"another Vote alone", a, state(3, 2, 2, 1, "s", "1a 2b 3c"), []api.Note{hard(3, 2)}},
		{"no Vote any more", a, state(3, 0, 2, 1, "s", "1a 2b 3c"), []api.Note{hard(3, 0)}},
		{"both", a, state(4, 2, 2, 1, "s", "1a 2b 3c"), []api.Note{hard(4, 2)}},
		{"an entry more", a, state(3, 1, 2, 1, "s", "1a 2b 3c 3d"), []api.Note{entry(6, 3, "d")}},
		{"a Term and two entries more", a, state(5, 2, 2, 1, "s", "1a 2b 3c 3d 5"), []api.Note{hard(5, 2), entry(6, 3, "d"), entry(7, 5, "")}},
		{"all entries", state(3, 1, 2, 1, "s", ""), a, []api.Note{entry(3, 1, "a"), entry(4, 2, "b"), entry(5, 3, "c")}},
		{"an entry less", a, state(3, 1, 2, 1, "s", "1a 2b"), []api.Note{cut(5)}},
		{"no entries any more", a, state(3, 1, 2, 1, "s", ""), []api.Note{cut(3)}},
		{"the last entry in its Data alone", a, state(3, 1, 2, 1, "s", "1a 2b 3x"), []api.Note{cut(5), entry(5, 3, "x")}},
		{"the last entry in its Term alone", a, state(3, 1, 2, 1, "s", "1a 2b 2c"), []api.Note{cut(5), entry(5, 2, "c")}},
		{"an entry in the midst", a, state(3, 1, 2, 1, "s", "1a 2x 3c 3d"), []api.Note{cut(4), entry(4, 2, "x"), entry(5, 3, "c"), entry(6, 3, "d")}},
		{"the first entry", a, state(3, 1, 2, 1, "s", "1x 2b"), []api.Note{cut(3), entry(3, 1, "x"), entry(4, 2, "b")}},
		{"no entry in common", a, state(4, 1, 2, 1, "s", "3c 1a"), []api.Note{hard(4, 1), cut(3), entry(3, 3, "c"), entry(4, 1, "a")}},
		{"a Base that is an entry's", a, state(3, 1, 4, 2, "x", "3c"), []api.Note{snapped(4, 2, "x")}},
		{"a Base that is an entry's, and an entry more", a, state(3, 1, 4, 2, "x", "3c 3d"), []api.Note{snapped(4, 2, "x"), entry(6, 3, "d")}},
		{"a Base that is an entry's, and an entry less", a, state(3, 1, 4, 2, "x", ""), []api.Note{snapped(4, 2, "x"), cut(5)}},
		{"a Base that is an entry's, and another entry", a, state(3, 1, 4, 2, "x", "3y"), []api.Note{snapped(4, 2, "x"), cut(5), entry(5, 3, "y")}},
		{"a Base that is an entry's of another term", a, state(3, 1, 4, 1, "x", "3c"), []api.Note{snapped(4, 1, "x"), entry(5, 3, "c")}},
		{"a Base that is the last entry's", a, state(3, 1, 5, 3, "x", ""), []api.Note{snapped(5, 3, "x")}},
		{"a Base behind the log", a, state(4, 0, 6, 3, "x", "3d"), []api.Note{hard(4, 0), snapped(6, 3, "x"), entry(7, 3, "d")}},
		{"a first Base", state(3, 1, 0, 0, "", "1 1a"), state(3, 1, 1, 1, "x", "1a"), []api.Note{snapped(1, 1, "x")}},
		{"the same Base, of another term and with another snapshot", a, state(3, 1, 2, 2, "x", "1a 2b 3c"), nil},
		{"a Base that is below", a, state(3, 1, 1, 1, "x", "1a 2b 3x"), []api.Note{cut(5), entry(5, 3, "x")}},
		{"a Base that is below, without entries", a, state(3, 1, 0, 0, "", ""), []api.Note{cut(3)}},
		{"a Base that is below, of no entries", state(3, 1, 2, 1, "s", ""), state(3, 1, 0, 0, "", "1a"), []api.Note{entry(3, 1, "a")}},
		{"numbers that wrap around", state(most, most, most-1, 1, "", "1a"), state(most, most, most-1, 1, "", "1b 1c"), []api.Note{cut(most), entry(most, 1, "b"), entry(0, 1, "c")}},
	} {
		if l := host.Diff(x.a, x.b); !slices.Equal(l, x.want) {
			t.Errorf("%s: Diff = %v, want %v", x.why, l, x.want)
		}
	}
}

// diff is a plain model of Diff, which knows entries by their indexes.
func diff(a, b api.Stable) []api.Note {
	var l []api.Note
	if [2]uint64{a.Term, a.Vote} != [2]uint64{b.Term, b.Vote} {
		l = append(l, hard(b.Term, b.Vote))
	}
	base, had := a.Log.Base, map[uint64]api.Entry{}
	for k, x := range a.Log.Entries {
		had[base+uint64(k)+1] = x
	}
	if b.Log.Base > base {
		l = append(l, snapped(b.Log.Base, b.Log.BaseTerm, b.Log.Snap))
		base = b.Log.Base
		if x, ok := had[base]; !ok || x.Term != b.Log.BaseTerm {
			clear(had)
		}
	}
	wanted := b.Log.Entries
	next := base + 1
	for len(wanted) > 0 {
		if x, ok := had[next]; !ok || x != wanted[0] {
			break
		}
		wanted = wanted[1:]
		next++
	}
	if _, more := had[next]; more {
		l = append(l, cut(next))
	}
	for _, x := range wanted {
		l = append(l, entry(next, x.Term, x.Data))
		next++
	}
	return l
}

// smallLogs are all lists of at most so many entries, whose terms do not fall.
func smallLogs(most int) [][]api.Entry {
	all, longest := [][]api.Entry{nil}, [][]api.Entry{nil}
	for range most {
		var longer [][]api.Entry
		for _, l := range longest {
			for _, x := range entries("1 1a 2 2a") {
				if len(l) == 0 || l[len(l)-1].Term <= x.Term {
					longer = append(longer, append(slices.Clone(l), x))
				}
			}
		}
		all, longest = append(all, longer...), longer
	}
	return all
}

// smallStates are all states that may be with few and small parts.
func smallStates() []api.Stable {
	var all []api.Stable
	for _, l := range smallLogs(3) {
		for _, base := range []api.Log{{}, {Base: 1, BaseTerm: 1, Snap: "s"}, {Base: 1, BaseTerm: 2}, {Base: 2, BaseTerm: 1, Snap: "s"}, {Base: 2, BaseTerm: 2, Snap: "x"}, {Base: 4, BaseTerm: 2}} {
			base.Entries = l
			if s := (api.Stable{Term: 2, Vote: base.Base % 2, Log: base}); note.May(s) {
				all = append(all, s)
			}
		}
	}
	return all
}

// P9.1, P9.5: Diff of all pairs of small states is what the model says; behind the notes of the one it results in the other.
func TestDiffs(t *testing.T) {
	all := smallStates()
	for _, a := range all {
		first, e := note.Least(a)
		if e != api.OK {
			t.Fatalf("Least(%v): error %d", a, e)
		}
		for _, b := range all {
			l := host.Diff(a, b)
			if want := diff(a, b); !slices.Equal(l, want) {
				t.Fatalf("Diff(%v, %v) = %v, want %v", a, b, l, want)
			}
			x, y := a.Log, b.Log
			if y.Base < x.Base || y.Base == x.Base && (y.BaseTerm != x.BaseTerm || y.Snap != x.Snap) {
				continue
			}
			if s := note.Fold(slices.Concat(first, l)); !sameState(s, b) {
				t.Fatalf("Diff(%v, %v) = %v, which results in %v", a, b, l, s)
			}
		}
	}
}

// P9.1, P9.5: Diff of states as great as may be.
func TestDiffOfGreatStates(t *testing.T) {
	full := slices.Repeat([]api.Entry{{Term: api.MaxNum, Data: text(api.MaxText)}}, api.MaxEntries)
	other := slices.Clone(full)
	other[api.MaxEntries/2].Data = "x"
	a := api.Stable{Term: api.MaxNum, Vote: api.MaxNum, Log: api.Log{Entries: full}}
	for _, b := range []api.Stable{
		{Term: api.MaxNum, Vote: 0, Log: api.Log{Entries: other}},
		{Term: api.MaxNum, Vote: api.MaxNum, Log: api.Log{Base: api.MaxIndex - api.MaxEntries, BaseTerm: 7, Snap: text(api.MaxText), Entries: full}},
		{Term: api.MaxNum, Log: api.Log{Base: api.MaxIndex, BaseTerm: api.MaxNum, Snap: text(api.MaxText)}},
		{Term: api.MaxNum, Log: api.Log{Base: 1000, BaseTerm: api.MaxNum, Entries: full}},
	} {
		l := host.Diff(a, b)
		if !slices.Equal(l, diff(a, b)) {
			t.Errorf("Diff has %d notes, the model %d", len(l), len(diff(a, b)))
		}
		first, _ := note.Least(a)
		if !sameState(note.Fold(slices.Concat(first, l)), b) {
			t.Errorf("the %d notes of Diff result in another state", len(l))
		}
		// Valid notes alone lead to a valid state.
		written(t, l...)
	}
}

// P9.2: Start on tapes with notes, of which it has all that are whole.
func TestStart(t *testing.T) {
	c := voters(1, 2, 3)
	two := written(t, hard(3, 2), entry(1, 3, "a"))
	b := written(t, snapped(7, 3, snap(c, "app")), entry(8, 3, "b"))
	s, more := state(3, 2, 0, 0, "", "3a"), state(3, 2, 7, 3, snap(c, "app"), "3b")
	for _, x := range []struct {
		why         string
		tape, after api.Tape
		s           api.Stable
	}{
		{"an empty tape", api.Tape{Power: -1}, api.Tape{Power: -1}, api.Stable{}},
		{"an empty tape without power", api.Tape{}, api.Tape{}, api.Stable{}},
		{"whole notes", api.Tape{Safe: two, Power: -1}, api.Tape{Safe: two, Power: -1}, s},
		{"whole notes without power", api.Tape{Safe: two + b}, api.Tape{Safe: two + b}, more},
		{"notes that are not synced", api.Tape{Safe: two, Rest: b, Power: 3}, api.Tape{Safe: two, Rest: b, Power: 3}, more},
		{"a note on both sides", api.Tape{Safe: (two + b)[:20], Rest: (two + b)[20:]}, api.Tape{Safe: (two + b)[:20], Rest: (two + b)[20:]}, more},
		{"bytes that are no note", api.Tape{Safe: two + "x", Power: 1}, api.Tape{Safe: two}, s},
		{"bytes alone that are no note", api.Tape{Rest: "xyz", Power: -1}, api.Tape{Power: -1}, api.Stable{}},
		{"a torn note", api.Tape{Safe: two, Rest: b[:len(b)-1], Power: 2}, api.Tape{Safe: two + b[:len(b)-len(written(t, entry(8, 3, "b")))], Power: 1}, state(3, 2, 7, 3, snap(c, "app"), "")},
		{"a note behind bytes that are none", api.Tape{Safe: two + "xxxxxx" + b, Power: -1}, api.Tape{Safe: two, Power: -1}, s},
	} {
		h, e := host.Start(1, c, x.tape)
		hold(t, x.why, h, e, api.Host{N: begun(c, x.s), T: x.after}, api.OK)
	}
	h, e := host.Start(api.MaxId, api.Conf{Voters: []uint64{1}, Learners: []uint64{2}}, api.Tape{Safe: two})
	if n := h.N; e != api.OK || n.Id != api.MaxId || !slices.Equal(n.Init.Voters, []uint64{1}) || !slices.Equal(n.Init.Learners, []uint64{2}) || n.Wait != 20 {
		t.Errorf("Start = %+v, %d", h, e)
	}
}

// P9.2: the errors of Start: the tape's first, then those of the id and the configuration, then that of the state.
func TestStartRefused(t *testing.T) {
	c := voters(1, 2, 3)
	good := written(t, hard(3, 2), entry(1, 3, "a"))
	above := written(t, entry(1, 3, "a"))
	falling := written(t, hard(3, 2), entry(1, 3, "a"), entry(2, 2, "b"))
	long := strings.Repeat(written(t, entry(1, 3, text(api.MaxText))), 64)
	for _, x := range []struct {
		why  string
		id   uint64
		c    api.Conf
		t    api.Tape
		want api.Host
		e    api.Errno
	}{
		{"a tape that is off", 1, c, api.Tape{Safe: good, Rest: "x", Power: 3, Off: true}, api.Host{T: api.Tape{Safe: good, Rest: "x", Power: 3, Off: true}, Down: true}, api.ErrDead},
		{"a tape that is off, and an id", 0, c, api.Tape{Safe: good, Off: true}, api.Host{T: api.Tape{Safe: good, Off: true}, Down: true}, api.ErrDead},
		{"an empty tape that is off", 1, c, api.Tape{Off: true}, api.Host{T: api.Tape{Off: true}, Down: true}, api.ErrDead},
		{"a torn note without power", 1, c, api.Tape{Safe: good, Rest: "x"}, api.Host{T: api.Tape{Safe: good, Rest: "x", Off: true}, Down: true}, api.ErrDead},
		{"a torn note without power, and a configuration", 1, voters(), api.Tape{Rest: "x"}, api.Host{T: api.Tape{Rest: "x", Off: true}, Down: true}, api.ErrDead},
		{"a torn note behind too many", 1, c, api.Tape{Safe: long + "x", Power: 2}, api.Host{T: api.Tape{Safe: long + "x", Power: 2}, Down: true}, api.ErrFull},
		{"id 0", 0, c, api.Tape{Safe: good, Power: -1}, api.Host{}, api.ErrArg},
		{"an id above MaxId", api.MaxId + 1, c, api.Tape{Power: -1}, api.Host{}, api.ErrArg},
		{"no voters", 1, voters(), api.Tape{Safe: good, Power: -1}, api.Host{}, api.ErrArg},
		{"voters twice", 1, voters(1, 1), api.Tape{Power: -1}, api.Host{}, api.ErrArg},
		{"an id and a torn note", 0, c, api.Tape{Safe: good + "x", Power: -1}, api.Host{}, api.ErrArg},
		{"an id and a state", 64, c, api.Tape{Safe: above, Power: -1}, api.Host{}, api.ErrArg},
		{"a configuration and a state", 1, voters(0), api.Tape{Safe: falling, Power: -1}, api.Host{}, api.ErrArg},
		{"an entry of a later term", 1, c, api.Tape{Safe: above, Power: -1}, api.Host{}, api.ErrForm},
		{"terms that fall, and a torn note", 1, c, api.Tape{Safe: falling + "x", Power: -1}, api.Host{}, api.ErrForm},
		{"a snapshot of a later term", 1, c, api.Tape{Rest: written(t, hard(1, 1), snapped(3, 2, "s"))}, api.Host{}, api.ErrForm},
	} {
		h, e := host.Start(x.id, x.c, x.t)
		hold(t, x.why, h, e, x.want, x.e)
	}
}

// The chapter's example.
func TestExample(t *testing.T) {
	h, e := host.Start(1, voters(1), api.Tape{Power: -1})
	for range 20 {
		if e != api.OK {
			t.Fatalf("error %d", e)
		}
		h, e = host.Tick(h, 0)
	}
	if h.N.Role != api.Leader || h.N.Commit != 1 {
		t.Errorf("no leader: %+v", h)
	}
	x, e := host.Crash(h, 0)
	hold(t, "without a Sync", x, e, api.Host{N: begun(voters(1), api.Stable{}), T: api.Tape{Power: -1}}, api.OK)
	h, out, e := host.Sync(h)
	if len(out) != 0 || e != api.OK {
		t.Errorf("Sync: %v, %d", out, e)
	}
	x, e = host.Crash(h, 0)
	s := state(1, 1, 0, 0, "", "1")
	hold(t, "with a Sync", x, e, api.Host{N: begun(voters(1), s), T: api.Tape{Safe: written(t, hard(1, 1), entry(1, 1, "")), Power: -1}}, api.OK)
}

// P9.3: each call does what the node's layer does; the notes are written behind all, and the messages wait behind those that wait.
func TestCalls(t *testing.T) {
	for _, x := range slices.Concat(noting(), quiet()) {
		n, i, sent, e := x.plain(x.n)
		if e != api.OK {
			t.Fatalf("%s: error %d", x.why, e)
		}
		b := written(t, x.notes...)
		for _, power := range []int{-1, 1, 7} {
			h := on(x.n, api.Tape{Safe: "safe", Rest: "rest", Power: power})
			want := api.Host{N: n, T: api.Tape{Safe: "safe", Rest: "rest" + b, Power: power}, Out: append(waiting(), sent...)}
			if len(x.notes) > 0 && power > 0 {
				want.T.Power--
			}
			got, k, e := x.do(h)
			hold(t, x.why, got, e, want, api.OK)
			if k != i {
				t.Errorf("%s: index %d, want %d", x.why, k, i)
			}
		}
	}
}

// P9.3: what comes to no notes needs no tape: it may be off, without power, and as long as it likes.
func TestQuiet(t *testing.T) {
	for _, x := range quiet() {
		n, _, sent, _ := x.plain(x.n)
		for _, tp := range []api.Tape{{}, {Off: true, Power: -1}, {Safe: text(api.MaxTape), Rest: "x"}, {Safe: text(api.HalfTape + 1), Power: 2}} {
			got, k, e := x.do(on(x.n, tp))
			hold(t, x.why, got, e, api.Host{N: n, T: tp, Out: append(waiting(), sent...)}, api.OK)
			if k != 0 {
				t.Errorf("%s: index %d", x.why, k)
			}
		}
	}
}

// To record: up to HalfTape bytes notes are written; with one more the state alone is laid on the tape.
func TestHalfTape(t *testing.T) {
	for _, x := range noting() {
		n, i, sent, _ := x.plain(x.n)
		b := written(t, x.notes...)
		for _, safe := range []int{0, 1, api.HalfTape / 2, api.HalfTape - len(b)} {
			rest := api.HalfTape - len(b) - safe
			h := on(x.n, api.Tape{Safe: text(safe), Rest: text(rest), Power: 3})
			want := api.Host{N: n, T: api.Tape{Safe: text(safe), Rest: text(rest) + b, Power: 2}, Out: append(waiting(), sent...)}
			got, k, e := x.do(h)
			hold(t, x.why+" on half a tape", got, e, want, api.OK)
			if k != i {
				t.Errorf("%s: index %d, want %d", x.why, k, i)
			}
			for _, more := range []int{1, 2, api.HalfTape} {
				h.T.Rest = text(rest + more)
				want.T = api.Tape{Safe: least(t, n.S), Power: 2}
				got, k, e = x.do(h)
				hold(t, x.why+" on more", got, e, want, api.OK)
				if k != i {
					t.Errorf("%s on more: index %d, want %d", x.why, k, i)
				}
			}
		}
	}
}

// To record: a state that has more than HalfTape bytes itself is laid on the tape each time, until it has more than MaxTape.
func TestGreatState(t *testing.T) {
	n := leader()
	for len(least(t, n.S)) < api.MaxTape-5000 {
		n.S.Log.Entries = append(n.S.Log.Entries, api.Entry{Term: 5, Data: "d" + text(3000)})
	}
	h := on(n, api.Tape{Safe: "old", Rest: text(api.HalfTape), Power: -1})
	// The bytes of a note whose Data is longer by one byte are one more, where their number's encoding stays as long.
	one, _, _, _ := raft.Offer(n, text(1000))
	room := api.MaxTape - len(least(t, one.S)) + 1000
	if room >= api.MaxText {
		t.Fatalf("room for %d bytes", room)
	}
	x, i, e := host.Offer(h, text(room))
	after, k, sent, _ := raft.Offer(n, text(room))
	want := api.Host{N: after, T: api.Tape{Safe: least(t, after.S), Power: -1}, Out: append(waiting(), sent...)}
	hold(t, "MaxTape bytes", x, e, want, api.OK)
	if i != k || len(x.T.Safe) != api.MaxTape {
		t.Errorf("index %d, want %d; %d bytes", i, k, len(x.T.Safe))
	}
	y, i, e := host.Offer(h, text(room+1))
	h.Down = true
	hold(t, "one byte more than MaxTape", y, e, h, api.ErrFull)
	if i != 0 {
		t.Errorf("index %d", i)
	}
	x.Out = waiting()
	y, i, e = host.Offer(x, "")
	x.Down = true
	hold(t, "an entry more", y, e, x, api.ErrFull)
	if i != 0 {
		t.Errorf("index %d", i)
	}
	z, e := host.Crash(x, 0)
	hold(t, "a crash then", z, e, api.Host{N: begun(voters(1, 2, 3), x.N.S), T: x.T}, api.OK)
}

// To record: where Write or Compact has no power the host is Down, with the tape that is off, and all else as it was; the index is 0.
func TestWithoutPower(t *testing.T) {
	for _, x := range noting() {
		for _, tp := range []api.Tape{{Safe: "safe", Rest: "rest"}, {Safe: text(api.HalfTape)}, {Rest: text(api.HalfTape)}, {Safe: text(api.MaxTape), Rest: "x"}} {
			for _, off := range []bool{false, true} {
				h := on(x.n, tp)
				h.T.Off = off
				if off {
					h.T.Power = 5
				}
				want := h
				want.T.Off, want.Down = true, true
				got, k, e := x.do(h)
				hold(t, x.why+" without power", got, e, want, api.ErrDead)
				if k != 0 {
					t.Errorf("%s without power: index %d", x.why, k)
				}
			}
		}
	}
}

// ill are calls whose notes are not valid.
func ill() []call {
	appended := func(l ...api.Entry) api.Message {
		return api.Message{Kind: api.MAppend, From: 3, Term: 6, Index: 2, LogTerm: 1, Entries: l}
	}
	late := leader()
	late.S.Term = api.MaxNum + 1
	return []call{
		hearing("Data that is too long", follower(), appended(api.Entry{Term: 5, Data: text(api.MaxText + 1)})),
		hearing("Data that is too long, behind others", follower(), appended(append(entries("5a 5b"), api.Entry{Term: 5, Data: text(api.MaxText + 1)})...)),
		hearing("a Term that is too great", follower(), appended(api.Entry{Term: api.MaxNum + 1})),
		hearing("a Term that is too great, ahead of others", follower(), appended(append([]api.Entry{{Term: most}}, entries("5a 5b")...)...)),
		offering("an entry of the node's own Term", late, "x"),
	}
}

// To record: where a note is not valid the host is Down, with the tape as it was, whatever it is.
func TestIllNotes(t *testing.T) {
	for _, x := range ill() {
		for _, tp := range []api.Tape{{Safe: "safe", Rest: "rest", Power: -1}, {Safe: "safe", Power: 1}, {Rest: text(api.HalfTape), Power: 2}, {Rest: "rest"}, {Safe: "safe", Power: 1, Off: true}} {
			h := on(x.n, tp)
			want := h
			want.Down = true
			got, k, e := x.do(h)
			hold(t, x.why, got, e, want, api.ErrArg)
			if k != 0 {
				t.Errorf("%s: index %d", x.why, k)
			}
		}
	}
}

// To record: where the tape is too long for the notes, and Compact refuses the state, the host is Down, with the tape as it was: nothing on it is lost.
func TestIllStates(t *testing.T) {
	long, early, falling := leader(), leader(), leader()
	long.S.Log.Entries[2].Data = text(api.MaxText + 1)
	early.S.Log.Entries[5].Term = 6
	falling.S.Log.Entries[1].Term = 3
	for why, n := range map[string]api.Node{"Data that is too long": long, "terms that fall": falling} {
		x := offering(why, n, "x")
		_, i, _, _ := x.plain(n)
		h := on(n, api.Tape{Safe: "safe", Rest: text(api.HalfTape), Power: 4})
		want := h
		want.Down = true
		got, k, e := x.do(h)
		hold(t, why, got, e, want, api.ErrArg)
		if k != 0 {
			t.Errorf("%s: index %d", why, k)
		}
		// As long as there is room the notes are valid.
		h.T.Rest = "rest"
		got, k, e = x.do(h)
		if want := "rest" + written(t, entry(7, 5, "dx")); e != api.OK || k != i || got.Down || got.T.Rest != want {
			t.Errorf("%s with room: %.300v, %d, %d", why, got, k, e)
		}
	}
	h := on(early, api.Tape{Rest: text(api.HalfTape)})
	m := api.Message{Kind: api.MAsk, From: 3, To: 1, Term: 5, Index: 9, LogTerm: 9}
	got, e := host.Hear(h, m)
	if e != api.OK || got.Down || len(got.Out) != 3 {
		t.Errorf("a state that may not be, of which nothing is written: %.300v, %d", got, e)
	}
}

// P9.3: the errors of the node's layer leave all as it was, whatever the tape is.
func TestRefused(t *testing.T) {
	for wanted, l := range refused() {
		for _, x := range l {
			if _, _, _, e := x.plain(x.n); e != wanted {
				t.Fatalf("%s: the node's layer says %d, not %d", x.why, e, wanted)
			}
			for _, tp := range []api.Tape{{Safe: "safe", Rest: "rest", Power: 3}, {}, {Off: true}, {Rest: text(api.HalfTape), Power: -1}} {
				h := on(x.n, tp)
				got, k, e := x.do(h)
				hold(t, x.why, got, e, h, wanted)
				if k != 0 {
					t.Errorf("%s: index %d", x.why, k)
				}
			}
		}
	}
}

// P9.3, P9.4: a host that is Down does nothing, whatever is called, until it crashes.
func TestDown(t *testing.T) {
	calls := slices.Concat(noting(), quiet(), ill())
	for _, l := range refused() {
		calls = append(calls, l...)
	}
	for _, x := range calls {
		for _, tp := range []api.Tape{{Safe: "safe", Rest: "rest", Power: -1}, {Rest: "rest", Power: 3}, {Safe: "safe", Off: true}} {
			h := on(x.n, tp)
			h.Down = true
			got, k, e := x.do(h)
			hold(t, x.why+" when Down", got, e, h, api.ErrDead)
			if k != 0 {
				t.Errorf("%s when Down: index %d", x.why, k)
			}
			got, out, e := host.Sync(h)
			hold(t, "Sync when Down", got, e, h, api.ErrDead)
			if len(out) != 0 {
				t.Errorf("Sync when Down: %v", out)
			}
		}
	}
	h := on(leader(), api.Tape{Safe: written(t, hard(5, 1)), Rest: written(t, entry(1, 5, "")), Off: true})
	h.Down = true
	got, e := host.Crash(h, 100)
	hold(t, "Crash when Down", got, e, api.Host{N: begun(voters(1, 2, 3), state(5, 1, 0, 0, "", "5")), T: api.Tape{Safe: h.T.Safe + h.T.Rest, Power: -1}}, api.OK)
}

// P9.4: Sync makes all safe, and tells what waits; then nothing waits any more.
func TestSync(t *testing.T) {
	for _, out := range [][]api.Message{nil, waiting()[:1], waiting(), append(waiting(), waiting()...)} {
		for _, tp := range []api.Tape{{Power: -1}, {Rest: "rest", Power: -1}, {Safe: "safe", Rest: "rest", Power: 1}, {Safe: "safe", Power: 5}, {Safe: text(api.MaxTape), Rest: "rest", Power: 5}} {
			want := api.Host{N: leader(), T: api.Tape{Safe: tp.Safe + tp.Rest, Power: max(tp.Power-1, -1)}}
			h, l, e := host.Sync(api.Host{N: leader(), T: tp, Out: out})
			hold(t, "Sync", h, e, want, api.OK)
			if !sameMessages(l, out) {
				t.Errorf("Sync answers %v, want %v", l, out)
			}
			if _, l, _ = host.Sync(h); len(l) != 0 {
				t.Errorf("a second Sync answers %v", l)
			}
		}
	}
}

// P9.4: a Sync without power tells nothing: the host is Down, and all still waits.
func TestSyncWithoutPower(t *testing.T) {
	for _, tp := range []api.Tape{{}, {Safe: "safe", Rest: "rest"}, {Safe: "safe", Rest: "rest", Power: 3, Off: true}, {Power: -1, Off: true}} {
		want := on(leader(), tp)
		want.T.Off, want.Down = true, true
		h, l, e := host.Sync(on(leader(), tp))
		hold(t, "Sync without power", h, e, want, api.ErrDead)
		if len(l) != 0 {
			t.Errorf("Sync without power answers %v", l)
		}
	}
}

// P9.4: whatever part of what was not synced remains, a crash leaves the notes that were synced, and those of the others that are whole.
func TestCrash(t *testing.T) {
	synced := []api.Note{hard(5, 1), entry(1, 5, ""), entry(2, 5, "da")}
	later := []api.Note{hard(6, 3), cut(2), entry(2, 6, text(70)), snapped(1, 5, snap(voters(1, 2), "app")), entry(3, 6, "")}
	safe, rest := written(t, synced...), written(t, later...)
	for _, tp := range []api.Tape{{Safe: safe, Rest: rest, Power: -1}, {Safe: safe, Rest: rest, Power: 0, Off: true}} {
		for keep := -2; keep < len(rest)+3; keep++ {
			whole := 0
			for whole < len(later) && len(written(t, later[:whole+1]...)) <= keep {
				whole++
			}
			s := note.Fold(slices.Concat(synced, later[:whole]))
			want := api.Host{N: begun(voters(1, 2, 3), s), T: api.Tape{Safe: safe + written(t, later[:whole]...), Power: -1}}
			h := on(leader(), tp)
			h.Down = tp.Off
			got, e := host.Crash(h, keep)
			hold(t, "Crash", got, e, want, api.OK)
		}
	}
	h := on(leader(), api.Tape{Safe: safe, Rest: rest, Power: -1})
	for _, keep := range []int{math.MinInt, -1, 0, len(rest), math.MaxInt} {
		got, e := host.Crash(h, keep)
		want, _ := host.Start(1, voters(1, 2, 3), tape.Crash(h.T, keep))
		hold(t, "Crash", got, e, want, api.OK)
	}
}

// P9.4: Crash has the errors of Start.
func TestCrashRefused(t *testing.T) {
	h := on(leader(), api.Tape{Safe: written(t, hard(5, 1)), Rest: written(t, entry(1, 6, "")), Power: -1})
	got, e := host.Crash(h, len(h.T.Rest))
	hold(t, "a state that may not be", got, e, api.Host{}, api.ErrForm)
	got, e = host.Crash(h, len(h.T.Rest)-1)
	hold(t, "a state that may be", got, e, api.Host{N: begun(voters(1, 2, 3), state(5, 1, 0, 0, "", "")), T: api.Tape{Safe: h.T.Safe, Power: -1}}, api.OK)
	h.N.Id = 0
	got, e = host.Crash(h, 0)
	hold(t, "an id", got, e, api.Host{}, api.ErrArg)
	h.N.Id, h.N.Init = 1, voters(2, 1)
	got, e = host.Crash(h, 0)
	hold(t, "a configuration", got, e, api.Host{}, api.ErrArg)
	long := strings.Repeat(written(t, entry(1, 3, text(api.MaxText))), 64)
	full := on(leader(), api.Tape{Safe: long + "x", Rest: "y"})
	got, e = host.Crash(full, 0)
	hold(t, "a tape that is too long", got, e, api.Host{T: api.Tape{Safe: long + "x", Power: -1}, Down: true}, api.ErrFull)
}
