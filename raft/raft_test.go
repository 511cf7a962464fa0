package raft_test

import (
	"math"
	"slices"
	"strings"
	"testing"

	"ferrule/api"
	"ferrule/group"
	"ferrule/pack"
	"ferrule/raft"
)

// most is the greatest number that there is.
const most = math.MaxUint64

// voters is a configuration of these Voters.
func voters(ids ...uint64) api.Conf { return api.Conf{Voters: ids} }

// learning is a configuration of Voters and of one Learner.
func learning(learner uint64, ids ...uint64) api.Conf {
	return api.Conf{Voters: ids, Learners: []uint64{learner}}
}

// log is a log behind a Base, whose entries are of these Terms, without Data.
func log(base, term uint64, terms ...uint64) api.Log {
	l := api.Log{Base: base, BaseTerm: term}
	for _, x := range terms {
		l.Entries = append(l.Entries, api.Entry{Term: x})
	}
	return l
}

// many is so often that term.
func many(n int, term uint64) []uint64 { return slices.Repeat([]uint64{term}, n) }

// data is the log with that Data in the entry at a position.
func data(l api.Log, at int, d string) api.Log {
	l.Entries = slices.Clone(l.Entries)
	l.Entries[at].Data = d
	return l
}

// bytes are a configuration's.
func bytes(c api.Conf) string {
	b, _ := group.Bytes(c)
	return b
}

// snap is the snapshot of a configuration and of the application's state.
func snap(c api.Conf, app string) string {
	t, _ := pack.Text(bytes(c))
	return t + app
}

// begun is what New must answer for the node 1.
func begun(c api.Conf, s api.Stable) api.Node {
	return api.Node{Id: 1, Init: c, S: s, Commit: s.Log.Base, Span: 20, Wait: 20}
}

// but is the node when something is done to it.
func but(n api.Node, do ...func(*api.Node)) api.Node {
	for _, f := range do {
		f(&n)
	}
	return n
}

// follower is the node 1 of a group as a follower in the term 5 that voted for 2; its log has the indexes 1 to 4 of the terms 1, 1, 2 and 4; 2 are committed.
func follower(c api.Conf) api.Node {
	n := begun(c, api.Stable{Term: 5, Vote: 2, Log: log(0, 0, 1, 1, 2, 4)})
	n.Commit, n.Lead, n.Span, n.Wait, n.Beat = 2, 3, 14, 7, 2
	return n
}

// asking is the same node when it asks.
func asking(c api.Conf) api.Node {
	return but(follower(c), func(n *api.Node) {
		n.Role, n.Lead, n.Voices = api.Asking, 0, []api.Voice{{Id: 1, Yes: true}}
	})
}

// candidate is the same node when it stands.
func candidate(c api.Conf) api.Node {
	return but(asking(c), func(n *api.Node) { n.Role, n.S.Vote = api.Candidate, 1 })
}

// leader is the same node as a leader, whose log has the indexes 5 and 6 of the term 5 too; 5 are committed.
func leader(c api.Conf) api.Node {
	n := begun(c, api.Stable{Term: 5, Vote: 1, Log: log(0, 0, 1, 1, 2, 4, 5, 5)})
	n.Role, n.Lead, n.Commit, n.Span, n.Wait, n.Beat = api.Leader, 1, 5, 14, 7, 2
	n.Match = []api.Mark{{Id: 1, N: 6}}
	for _, id := range slices.Sorted(slices.Values(slices.Concat(c.Voters, c.Learners))) {
		if id != 1 {
			n.Next = append(n.Next, api.Mark{Id: id, N: 6})
			n.Match = append(n.Match, api.Mark{Id: id, N: 5})
		}
	}
	return n
}

// sameMessages: are two lists of messages the same, element by element?
func sameMessages(a, b []api.Message) bool {
	return slices.EqualFunc(a, b, func(x, y api.Message) bool {
		return x.Kind == y.Kind && x.From == y.From && x.To == y.To && x.Term == y.Term &&
			x.Index == y.Index && x.LogTerm == y.LogTerm && x.Commit == y.Commit && x.Ok == y.Ok &&
			slices.Equal(x.Entries, y.Entries) && x.Snap == y.Snap
	})
}

// hold holds a node and its messages to those that are wanted.
func hold(t *testing.T, why string, n api.Node, sent []api.Message, want api.Node, mail []api.Message) {
	t.Helper()
	if !raft.Same(n, want) {
		t.Errorf("%s: node\n%+v, want\n%+v", why, n, want)
	}
	if !sameMessages(sent, mail) {
		t.Errorf("%s: messages\n%+v, want\n%+v", why, sent, mail)
	}
}

// P8.1: New asks for an id from 1 to MaxId, a valid configuration and a valid state.
func TestNew(t *testing.T) {
	good := api.Stable{Term: 5, Vote: 2, Log: api.Log{Base: 3, BaseTerm: 1, Snap: "s", Entries: []api.Entry{{Term: 2, Data: "x"}}}}
	for _, x := range []struct {
		why string
		id  uint64
		c   api.Conf
		s   api.Stable
		e   api.Errno
	}{
		{"the least id", 1, voters(1, 2, 3), good, api.OK},
		{"the greatest id", api.MaxId, voters(1, 2, 3), good, api.OK},
		{"a node that is not in the group", 9, voters(1), api.Stable{}, api.OK},
		{"learners", 4, learning(4, 1), good, api.OK},
		{"the greatest Term", 1, voters(1), api.Stable{Term: api.MaxNum, Vote: api.MaxNum}, api.OK},
		{"the greatest Base", 1, voters(1), api.Stable{Log: log(api.MaxIndex, 0)}, api.OK},
		{"id 0", 0, voters(1, 2, 3), good, api.ErrArg},
		{"an id above MaxId", api.MaxId + 1, voters(1, 2, 3), good, api.ErrArg},
		{"a huge id", most, voters(1, 2, 3), good, api.ErrArg},
		{"no voters", 1, api.Conf{}, good, api.ErrArg},
		{"voters not ascending", 1, voters(2, 1), good, api.ErrArg},
		{"a voter who learns", 1, learning(1, 1), good, api.ErrArg},
		{"a voter 0", 1, voters(0, 1), good, api.ErrArg},
		{"eight voters", 1, voters(1, 2, 3, 4, 5, 6, 7, 8), good, api.ErrArg},
		{"a Term above MaxNum", 1, voters(1), api.Stable{Term: api.MaxNum + 1}, api.ErrArg},
		{"a Vote above MaxNum", 1, voters(1), api.Stable{Vote: api.MaxNum + 1}, api.ErrArg},
		{"an entry of a later term", 1, voters(1), api.Stable{Term: 1, Log: log(0, 0, 2)}, api.ErrArg},
		{"terms that fall", 1, voters(1), api.Stable{Term: 5, Log: log(0, 0, 2, 1)}, api.ErrArg},
		{"too many entries", 1, voters(1), api.Stable{Term: 5, Log: log(0, 0, many(api.MaxEntries+1, 1)...)}, api.ErrArg},
		{"a Base above MaxIndex", 1, voters(1), api.Stable{Log: log(api.MaxIndex+1, 0)}, api.ErrArg},
		{"a snapshot at Base 0", 1, voters(1), api.Stable{Log: api.Log{Snap: "s"}}, api.ErrArg},
	} {
		n, e := raft.New(x.id, x.c, x.s)
		want := api.Node{}
		if x.e == api.OK {
			want = begun(x.c, x.s)
			want.Id = x.id
		}
		if e != x.e || !raft.Same(n, want) {
			t.Errorf("%s: New = %+v, %d, want %+v, %d", x.why, n, e, want, x.e)
		}
	}
}

// P8.1: Conf is that of the last entry that has one, else that of the snapshot, else Init.
func TestConf(t *testing.T) {
	init, old, c, d := voters(1, 2), learning(9, 1, 2, 3), voters(1, 2, 3), voters(2)
	entry := func(c api.Conf) string { return "c" + bytes(c) }
	behind := func(base uint64, s string, all ...string) api.Log {
		l := api.Log{Base: base, Snap: s}
		for _, x := range all {
			l.Entries = append(l.Entries, api.Entry{Term: 1, Data: x})
		}
		return l
	}
	for _, x := range []struct {
		why  string
		l    api.Log
		want api.Conf
	}{
		{"no entries", behind(0, ""), init},
		{"entries of other things", behind(0, "", "", "d", "dx", "x"), init},
		{"one", behind(0, "", "", entry(c)), c},
		{"the last of two", behind(0, "", entry(c), "", entry(d), "dx"), d},
		{"the last of two, the other way round", behind(0, "", entry(d), entry(c)), c},
		{"one of learners", behind(0, "", entry(old)), old},
		{"offered bytes of one", behind(0, "", "d"+entry(c)), init},
		{"bytes without the letter", behind(0, "", bytes(c)), init},
		{"a letter without bytes", behind(0, "", entry(c), "c"), c},
		{"bytes with one too many", behind(0, "", entry(c), entry(d)+"x"), c},
		{"bytes with one too few", behind(0, "", entry(c)[:4]), init},
		{"bytes of one that is not valid", behind(0, "", entry(c), "c\x02\x02\x01\x00"), c},
		{"a snapshot", behind(3, snap(old, "app")), old},
		{"a snapshot without a state", behind(3, snap(old, "")), old},
		{"a snapshot and an entry", behind(3, snap(old, "app"), entry(c)), c},
		{"a snapshot and other entries", behind(3, snap(old, "app"), "d", "c"), old},
		{"a snapshot at Base 0", behind(0, snap(old, "app")), init},
		{"what is no snapshot", behind(3, "app"), init},
		{"the snapshot of no configuration", behind(3, snap(api.Conf{}, "app")), init},
	} {
		n := begun(init, api.Stable{Term: 1, Log: x.l})
		got := raft.Conf(n)
		if !slices.Equal(got.Voters, x.want.Voters) || !slices.Equal(got.Learners, x.want.Learners) {
			t.Errorf("%s: Conf = %+v, want %+v", x.why, got, x.want)
		}
	}
}

// P8.1: App has what a snapshot has, and false for anything else.
func TestApp(t *testing.T) {
	c := learning(9, 1, 2, 3)
	long := strings.Repeat("x", 2*api.MaxText)
	for _, x := range []struct {
		why, snap string
		c         api.Conf
		app       string
		is        bool
	}{
		{"one", snap(c, "app"), c, "app", true},
		{"without a state", snap(c, ""), c, "", true},
		{"a long state", snap(c, long), c, long, true},
		{"byte by byte", "\x03\x01\x01\x00z", voters(1), "z", true},
		{"nothing", "", api.Conf{}, "", false},
		{"a text that is cut off", snap(c, "")[:6], api.Conf{}, "", false},
		{"an empty text", "\x00app", api.Conf{}, "", false},
		{"bytes of no configuration", "\x03abcapp", api.Conf{}, "", false},
		{"a configuration that is not valid", "\x03\x01\x00\x00app", api.Conf{}, "", false},
		{"a configuration and more in the text", "\x04\x01\x01\x00\x00app", api.Conf{}, "", false},
		{"a length in a longer form than needed", "\x40\x03\x01\x01\x00", api.Conf{}, "", false},
	} {
		got, app, is := raft.App(x.snap)
		if is != x.is || app != x.app || !slices.Equal(got.Voters, x.c.Voters) || !slices.Equal(got.Learners, x.c.Learners) {
			t.Errorf("%s: App = %+v, %.20q, %v, want %+v, %.20q, %v", x.why, got, app, is, x.c, x.app, x.is)
		}
	}
}

// P8.1: Same holds against each other all fields, and lists element by element.
func TestSame(t *testing.T) {
	full := func() api.Node {
		n := leader(learning(9, 1, 2, 3))
		n.S.Log = data(log(2, 1, 1, 2, 5), 1, "x")
		n.S.Log.Snap = "s"
		n.Voices = []api.Voice{{Id: 1, Yes: true}, {Id: 2}}
		n.Heard = 4
		return n
	}
	if !raft.Same(full(), full()) || !raft.Same(api.Node{}, api.Node{}) {
		t.Error("a node is not the same as itself")
	}
	empty := api.Node{Init: api.Conf{Voters: []uint64{}, Learners: []uint64{}}, Voices: []api.Voice{}, Next: []api.Mark{}, Match: []api.Mark{}}
	empty.S.Log.Entries = []api.Entry{}
	if !raft.Same(api.Node{}, empty) {
		t.Error("lists without elements are not equal to none")
	}
	for i, differ := range []func(*api.Node){
		func(n *api.Node) { n.Id++ },
		func(n *api.Node) { n.Init.Voters[2]++ },
		func(n *api.Node) { n.Init.Voters = n.Init.Voters[:2] },
		func(n *api.Node) { n.Init.Learners[0]++ },
		func(n *api.Node) { n.Init.Learners = nil },
		func(n *api.Node) { n.S.Term++ },
		func(n *api.Node) { n.S.Vote++ },
		func(n *api.Node) { n.S.Log.Base++ },
		func(n *api.Node) { n.S.Log.BaseTerm++ },
		func(n *api.Node) { n.S.Log.Snap = "t" },
		func(n *api.Node) { n.S.Log.Entries[1].Term++ },
		func(n *api.Node) { n.S.Log.Entries[1].Data = "y" },
		func(n *api.Node) { n.S.Log.Entries = n.S.Log.Entries[:2] },
		func(n *api.Node) { n.Role = api.Candidate },
		func(n *api.Node) { n.Lead++ },
		func(n *api.Node) { n.Commit++ },
		func(n *api.Node) { n.Voices[0].Id++ },
		func(n *api.Node) { n.Voices[1].Yes = true },
		func(n *api.Node) { n.Voices = n.Voices[:1] },
		func(n *api.Node) { n.Next[0].Id++ },
		func(n *api.Node) { n.Next[1].N++ },
		func(n *api.Node) { n.Next = n.Next[1:] },
		func(n *api.Node) { n.Match[0].Id++ },
		func(n *api.Node) { n.Match[1].N++ },
		func(n *api.Node) { n.Match = nil },
		func(n *api.Node) { n.Next, n.Match = n.Match, n.Next },
		func(n *api.Node) { n.Match[1], n.Match[2] = n.Match[2], n.Match[1] },
		func(n *api.Node) { n.Span++ },
		func(n *api.Node) { n.Wait++ },
		func(n *api.Node) { n.Beat++ },
		func(n *api.Node) { n.Heard++ },
	} {
		if a := but(full(), differ); raft.Same(a, full()) || raft.Same(full(), a) {
			t.Errorf("nodes that differ (%d) are the same: %+v", i, a)
		}
	}
}

// ticked is one call of Tick, and what it must answer.
type ticked struct {
	why  string
	n    api.Node
	draw uint64
	want func(*api.Node)
	mail []api.Message
}

// checkTicks holds calls of Tick to what they must answer.
func checkTicks(t *testing.T, all []ticked) {
	t.Helper()
	for _, x := range all {
		n, sent := raft.Tick(x.n, x.draw)
		hold(t, x.why, n, sent, but(x.n, x.want), x.mail)
	}
}

// wait is the node with so many ticks to wait.
func wait(n api.Node, ticks int) api.Node {
	n.Wait = ticks
	return n
}

// P8.2: Heard decreases down to 0, whatever the node is.
func TestTickHeard(t *testing.T) {
	for _, n := range []api.Node{follower(voters(1, 2)), asking(voters(1, 2)), candidate(voters(1, 2)), leader(voters(1, 2))} {
		for _, x := range []struct{ before, after int }{{0, 0}, {1, 0}, {2, 1}, {10, 9}, {-1, -1}, {math.MaxInt, math.MaxInt - 1}, {math.MinInt, math.MinInt}} {
			n.Heard = x.before
			if got, _ := raft.Tick(n, 3); got.Heard != x.after || got.Role != n.Role {
				t.Errorf("Tick of Heard %d: %d, want %d", x.before, got.Heard, x.after)
			}
		}
	}
}

// P8.2: a leader sends to each of the others when Beat comes to its end, and does not wait.
func TestTickLeader(t *testing.T) {
	c := learning(2, 1, 3)
	n := leader(c)
	n.Next[1].N = 4
	beat := func(b int) api.Node { return but(n, func(n *api.Node) { n.Beat = b }) }
	mail := []api.Message{
		{Kind: api.MAppend, From: 1, To: 2, Term: 5, Index: 5, LogTerm: 5, Commit: 5, Entries: n.S.Log.Entries[5:]},
		{Kind: api.MAppend, From: 1, To: 3, Term: 5, Index: 3, LogTerm: 2, Commit: 5, Entries: n.S.Log.Entries[3:]},
	}
	anew := func(n *api.Node) { n.Beat = 3 }
	checkTicks(t, []ticked{
		{"far from the end", beat(3), 0, func(n *api.Node) { n.Beat = 2 }, nil},
		{"the tick ahead of the end", beat(2), 0, func(n *api.Node) { n.Beat = 1 }, nil},
		{"the end", beat(1), 7, anew, mail},
		{"behind the end", beat(0), 7, anew, mail},
		{"far behind the end", beat(-9), 7, anew, mail},
		{"the least that there is", beat(math.MinInt), 7, func(n *api.Node) { n.Beat = math.MaxInt }, nil},
		{"a leader does not wait", wait(beat(3), 1), 0, func(n *api.Node) { n.Beat = 2 }, nil},
		{"alone", but(leader(voters(1)), func(n *api.Node) { n.Beat = 1 }), 0, anew, nil},
	})
}

// preAsk is a request whether the node 1, of follower's log, would get the vote in the term 6.
func preAsk(to uint64) api.Message {
	return api.Message{Kind: api.MPreAsk, From: 1, To: to, Term: 6, Index: 4, LogTerm: 4}
}

// P8.2: any other node waits; at the end of that it draws a new span, and asks the voters.
func TestTickWait(t *testing.T) {
	c := learning(2, 1, 3, 5)
	mail := []api.Message{preAsk(3), preAsk(5)}
	asks := func(span int) func(*api.Node) {
		return func(n *api.Node) {
			n.Span, n.Wait, n.Role, n.Lead, n.Voices = span, span, api.Asking, 0, []api.Voice{{Id: 1, Yes: true}}
		}
	}
	voiced := but(asking(c), func(n *api.Node) { n.Voices = append(n.Voices, api.Voice{Id: 3}) })
	checkTicks(t, []ticked{
		{"far from the end", wait(follower(c), 7), 4, func(n *api.Node) { n.Wait = 6 }, nil},
		{"the tick ahead of the end", wait(follower(c), 2), 4, func(n *api.Node) { n.Wait = 1 }, nil},
		{"the end", wait(follower(c), 1), 4, asks(14), mail},
		{"behind the end", wait(follower(c), 0), 4, asks(14), mail},
		{"far behind the end", wait(follower(c), -8), 4, asks(14), mail},
		{"the least that there is", wait(follower(c), math.MinInt), 4, func(n *api.Node) { n.Wait = math.MaxInt }, nil},
		{"a draw of 0", wait(follower(c), 1), 0, asks(10), mail},
		{"a draw of 9", wait(follower(c), 1), 9, asks(19), mail},
		{"a draw of 10", wait(follower(c), 1), 10, asks(10), mail},
		{"a large draw", wait(follower(c), 1), most, asks(15), mail},
		{"an asking node waits", wait(asking(c), 3), 4, func(n *api.Node) { n.Wait = 2 }, nil},
		{"an asking node asks again", wait(voiced, 1), 4, asks(14), mail},
		{"a candidate waits", wait(candidate(c), 3), 4, func(n *api.Node) { n.Wait = 2 }, nil},
		{"a candidate asks again", wait(candidate(c), 1), 4, asks(14), mail},
		{"a node of no known role", wait(but(follower(c), func(n *api.Node) { n.Role = 7 }), 1), 4, asks(14), mail},
		{"a node that has heard of a leader", wait(but(follower(c), func(n *api.Node) { n.Heard = 5 }), 1), 4, func(n *api.Node) {
			asks(14)(n)
			n.Heard = 4
		}, mail},
	})
}

// P8.2: a node that is no voter, or has the greatest Term, only waits anew.
func TestTickNoVoter(t *testing.T) {
	anew := func(n *api.Node) { n.Span, n.Wait = 13, 13 }
	term := func(term uint64) func(*api.Node) { return func(n *api.Node) { n.S.Term = term } }
	left := but(follower(voters(1, 2)), func(n *api.Node) { n.S.Log = data(n.S.Log, 3, "c"+bytes(voters(2))) })
	joined := but(follower(learning(1, 2)), func(n *api.Node) { n.S.Log = data(n.S.Log, 3, "c"+bytes(voters(1, 2))) })
	asks := func(n *api.Node) {
		anew(n)
		n.Role, n.Lead, n.Voices = api.Asking, 0, []api.Voice{{Id: 1, Yes: true}}
	}
	high := preAsk(2)
	high.Term = api.MaxNum
	checkTicks(t, []ticked{
		{"a learner", wait(follower(learning(1, 2, 3)), 1), 3, anew, nil},
		{"a node of another group", wait(follower(voters(2, 3)), 1), 3, anew, nil},
		{"a node that has left", wait(left, 1), 3, anew, nil},
		{"a candidate that has left", wait(but(left, func(n *api.Node) { n.Role = api.Candidate }), 1), 3, anew, nil},
		{"a node that votes by now", wait(joined, 1), 3, asks, []api.Message{preAsk(2)}},
		{"the greatest Term", wait(but(follower(voters(1, 2)), term(api.MaxNum)), 1), 3, anew, nil},
		{"a Term above it", wait(but(follower(voters(1, 2)), term(most)), 1), 3, anew, nil},
		{"the greatest Term but one", wait(but(follower(voters(1, 2)), term(api.MaxNum-1)), 1), 3, asks, []api.Message{high}},
		{"not at the end", wait(follower(learning(1, 2, 3)), 2), 3, func(n *api.Node) { n.Wait = 1 }, nil},
	})
}

// P8.2: the only voter asks, stands and leads at one tick: its Term rises once, its first entry is committed, and sent to the learners.
func TestTickAlone(t *testing.T) {
	leads := func(n *api.Node) {
		n.Span, n.Wait, n.Beat = 12, 12, 3
		n.Role, n.Lead, n.S.Term, n.S.Vote = api.Leader, 1, 6, 1
		n.S.Log = log(0, 0, 1, 1, 2, 4, 6)
		n.Commit, n.Match = 5, []api.Mark{{Id: 1, N: 5}}
	}
	learned := func(n *api.Node) {
		leads(n)
		n.Next = []api.Mark{{Id: 3, N: 5}, {Id: 8, N: 5}}
		n.Match = append(n.Match, api.Mark{Id: 3}, api.Mark{Id: 8})
	}
	first := api.Message{Kind: api.MAppend, From: 1, To: 3, Term: 6, Index: 4, LogTerm: 4, Commit: 5, Entries: []api.Entry{{Term: 6}}}
	second := first
	second.To = 8
	high := func(n *api.Node) {
		leads(n)
		n.S.Term = api.MaxNum
		n.S.Log = log(0, 0, 1, 1, 2, 4, api.MaxNum)
	}
	checkTicks(t, []ticked{
		{"alone", wait(follower(voters(1)), 1), 2, leads, nil},
		{"with learners", wait(follower(api.Conf{Voters: []uint64{1}, Learners: []uint64{3, 8}}), 1), 2, learned, []api.Message{first, second}},
		{"the greatest Term", wait(but(follower(voters(1)), func(n *api.Node) { n.S.Term = api.MaxNum - 1 }), 1), 2, high, nil},
		{"marks of an older time", wait(but(follower(voters(1)), func(n *api.Node) {
			n.Next, n.Match = []api.Mark{{Id: 4, N: 4}}, []api.Mark{{Id: 4, N: 4}}
		}), 1), 2, func(n *api.Node) {
			leads(n)
			n.Next = nil
		}, nil},
	})
	n, _ := raft.New(1, voters(1), api.Stable{})
	for range 20 {
		n, _ = raft.Tick(n, 0)
	}
	if n.Role != api.Leader || n.S.Term != 1 || n.Commit != 1 || len(n.S.Log.Entries) != 1 {
		t.Errorf("the chapter's example: %+v", n)
	}
}

// P8.2: whose first entry is refused follows instead: where the log is full, where its indexes are at their end, where its terms are later ones.
func TestTickLeadRefused(t *testing.T) {
	for _, x := range []struct {
		why string
		l   api.Log
		is  bool
	}{
		{"a log with room for one", log(0, 0, many(api.MaxEntries-1, 1)...), true},
		{"a full log", log(0, 0, many(api.MaxEntries, 1)...), false},
		{"the last index but one", log(api.MaxIndex-1, 1), true},
		{"the last index", log(api.MaxIndex-1, 1, 1), false},
		{"an entry of the same term", log(0, 0, 6), true},
		{"an entry of a later term", log(0, 0, 7), false},
	} {
		n := but(follower(learning(2, 1)), func(n *api.Node) { n.S.Log, n.Wait = x.l, 1 })
		got, sent := raft.Tick(n, 0)
		if x.is {
			if got.Role != api.Leader || got.S.Term != 6 || len(got.S.Log.Entries) != len(x.l.Entries)+1 || len(sent) != 1 {
				t.Errorf("%s: %+v", x.why, got)
			}
			continue
		}
		hold(t, x.why, got, sent, but(n, func(n *api.Node) {
			n.Span, n.Wait, n.Beat = 10, 10, 3
			n.Lead, n.S.Term, n.S.Vote = 0, 6, 1
		}), nil)
	}
}

// offer is one call of Offer or Change, and what it must answer.
type offer struct {
	why  string
	n    api.Node
	want func(*api.Node)
	i    uint64
	mail []api.Message
	e    api.Errno
}

// check holds what a call answered to that.
func (x offer) check(t *testing.T, n api.Node, i uint64, sent []api.Message, e api.Errno) {
	t.Helper()
	want := api.Node{}
	if x.e == api.OK {
		want = but(x.n, x.want)
	}
	hold(t, x.why, n, sent, want, x.mail)
	if i != x.i || e != x.e {
		t.Errorf("%s: %d, %d, want %d, %d", x.why, i, e, x.i, x.e)
	}
}

// set is the list of marks of 1 and of the nodes behind it.
func set(own uint64, id ...uint64) []api.Mark {
	l := []api.Mark{{Id: 1, N: own}}
	for i := 0; i < len(id); i += 2 {
		l = append(l, api.Mark{Id: id[i], N: id[i+1]})
	}
	return l
}

// P8.4: who does not lead is offered nothing, and data of MaxText bytes or more are refused.
func TestOfferRefused(t *testing.T) {
	c := voters(1, 2, 3)
	long := strings.Repeat("x", api.MaxText)
	full := but(leader(c), func(n *api.Node) { n.S.Log = log(0, 0, many(api.MaxEntries, 5)...) })
	high := but(leader(c), func(n *api.Node) { n.S.Log = log(api.MaxIndex-1, 5, 5) })
	later := but(leader(c), func(n *api.Node) { n.S.Log = log(0, 0, 6) })
	for _, x := range []struct {
		offer
		data string
	}{
		{offer{why: "a follower", n: follower(c), e: api.ErrLead}, "x"},
		{offer{why: "an asking node", n: asking(c), e: api.ErrLead}, "x"},
		{offer{why: "a candidate", n: candidate(c), e: api.ErrLead}, "x"},
		{offer{why: "a follower, data that are too long", n: follower(c), e: api.ErrLead}, long},
		{offer{why: "MaxText bytes", n: leader(c), e: api.ErrBig}, long},
		{offer{why: "more bytes", n: leader(c), e: api.ErrBig}, long + "x"},
		{offer{why: "MaxText bytes, a full log", n: full, e: api.ErrBig}, long},
		{offer{why: "a full log", n: full, e: api.ErrFull}, "x"},
		{offer{why: "the last index", n: high, e: api.ErrFull}, "x"},
		{offer{why: "a log of later terms", n: later, e: api.ErrOrder}, "x"},
	} {
		n, i, sent, e := raft.Offer(x.n, x.data)
		x.check(t, n, i, sent, e)
	}
}

// P8.4: what is offered to a leader is added behind a d, counted as the leader's own, committed if that is enough, and sent.
func TestOffer(t *testing.T) {
	two := but(leader(voters(1, 2)), func(n *api.Node) { n.Next[0].N = 7 })
	unmarked := but(leader(voters(1, 2)), func(n *api.Node) { n.Next, n.Match = nil, nil })
	for _, d := range []string{"x", "", "dd", "c" + bytes(voters(2)), strings.Repeat("x", api.MaxText-1)} {
		added := api.Entry{Term: 5, Data: "d" + d}
		behind := api.Message{Kind: api.MAppend, From: 1, To: 2, Term: 5, Index: 6, LogTerm: 5, Commit: 5, Entries: []api.Entry{added}}
		third := api.Message{Kind: api.MAppend, From: 1, To: 3, Term: 5, Index: 5, LogTerm: 5, Commit: 5, Entries: []api.Entry{{Term: 5}, added}}
		all := api.Message{Kind: api.MAppend, From: 1, To: 2, Term: 5, Commit: 5, Entries: append(log(0, 0, 1, 1, 2, 4, 5, 5).Entries, added)}
		grown := func(n *api.Node) { n.S.Log.Entries = append(slices.Clone(n.S.Log.Entries), added) }
		wide := leader(voters(1, 2, 3))
		wide.Next[0].N = 7
		for _, x := range []offer{
			{"alone", leader(voters(1)), func(n *api.Node) {
				grown(n)
				n.Match, n.Commit = set(7), 7
			}, 7, nil, api.OK},
			{"one other", two, func(n *api.Node) {
				grown(n)
				n.Match = set(7, 2, 5)
			}, 7, []api.Message{behind}, api.OK},
			{"two others", wide, func(n *api.Node) {
				grown(n)
				n.Match = set(7, 2, 5, 3, 5)
			}, 7, []api.Message{behind, third}, api.OK},
			{"no marks", unmarked, func(n *api.Node) {
				grown(n)
				n.Match = set(7)
			}, 7, []api.Message{all}, api.OK},
		} {
			n, i, sent, e := raft.Offer(x.n, d)
			x.check(t, n, i, sent, e)
		}
	}
}

// P8.2, P8.4: of a log with more than MaxSend entries behind a Next mark only MaxSend are sent; a snapshot where the entries are gone; all where there is no mark; none behind the end.
func TestSend(t *testing.T) {
	n := but(leader(voters(1, 2)), func(n *api.Node) {
		n.S.Log = log(10, 3, many(20, 5)...)
		n.S.Log.Snap, n.Commit, n.Beat = "s", 15, 1
		for i := range n.S.Log.Entries {
			n.S.Log.Entries[i].Data = strings.Repeat("x", i)
		}
	})
	all := n.S.Log.Entries
	appended := func(index, term uint64, l []api.Entry) api.Message {
		return api.Message{Kind: api.MAppend, From: 1, To: 2, Term: 5, Index: index, LogTerm: term, Commit: 15, Entries: l}
	}
	snapped := api.Message{Kind: api.MSnap, From: 1, To: 2, Term: 5, Index: 10, LogTerm: 3, Snap: "s"}
	for _, x := range []struct {
		why  string
		next []api.Mark
		want api.Message
	}{
		{"the first entry", []api.Mark{{Id: 2, N: 11}}, appended(10, 3, all[:8])},
		{"the second", []api.Mark{{Id: 2, N: 12}}, appended(11, 5, all[1:9])},
		{"eight at the end", []api.Mark{{Id: 2, N: 23}}, appended(22, 5, all[12:])},
		{"seven at the end", []api.Mark{{Id: 2, N: 24}}, appended(23, 5, all[13:])},
		{"the end", []api.Mark{{Id: 2, N: 30}}, appended(29, 5, all[19:])},
		{"behind the end", []api.Mark{{Id: 2, N: 31}}, appended(30, 5, nil)},
		{"farther behind the end", []api.Mark{{Id: 2, N: 32}}, appended(31, 0, nil)},
		{"the greatest number", []api.Mark{{Id: 2, N: most}}, appended(most-1, 0, nil)},
		{"the Base", []api.Mark{{Id: 2, N: 10}}, snapped},
		{"0", []api.Mark{{Id: 2}}, snapped},
		{"no mark", []api.Mark{{Id: 3, N: 20}}, snapped},
		{"the first of two marks", []api.Mark{{Id: 2, N: 10}, {Id: 2, N: 12}}, snapped},
	} {
		n.Next = x.next
		if _, sent := raft.Tick(n, 0); !sameMessages(sent, []api.Message{x.want}) {
			t.Errorf("%s: %+v, want %+v", x.why, sent, x.want)
		}
	}
	n = but(leader(voters(1, 2)), func(n *api.Node) { n.Next, n.Beat = nil, 1 })
	want := api.Message{Kind: api.MAppend, From: 1, To: 2, Term: 5, Commit: 5, Entries: n.S.Log.Entries}
	if _, sent := raft.Tick(n, 0); !sameMessages(sent, []api.Message{want}) {
		t.Errorf("no mark, and no Base: %+v, want %+v", sent, want)
	}
	n.Next = []api.Mark{{Id: 2}}
	if _, sent := raft.Tick(n, 0); !sameMessages(sent, []api.Message{{Kind: api.MSnap, From: 1, To: 2, Term: 5}}) {
		t.Errorf("a mark of 0, and no Base: %+v", sent)
	}
}

// P8.4: a change is refused by who does not lead; then of the leader's own leaving; then while another one is not committed, or nothing of its term; then by Next and by Add.
func TestChangeRefused(t *testing.T) {
	c := voters(1, 2, 3)
	learn := func(id uint64) api.Change { return api.Change{Kind: api.ChangeLearn, Id: id} }
	leave := func(id uint64) api.Change { return api.Change{Kind: api.ChangeLeave, Id: id} }
	older := but(leader(c), func(n *api.Node) { n.Commit = 4 })
	changing := but(leader(c), func(n *api.Node) { n.S.Log = data(n.S.Log, 5, "c"+bytes(learning(9, 1, 2, 3))) })
	full := but(leader(c), func(n *api.Node) { n.S.Log = log(0, 0, many(api.MaxEntries, 5)...) })
	for _, x := range []struct {
		offer
		x api.Change
	}{
		{offer{why: "a follower", n: follower(c), e: api.ErrLead}, learn(4)},
		{offer{why: "an asking node", n: asking(c), e: api.ErrLead}, learn(4)},
		{offer{why: "a candidate that would leave", n: candidate(c), e: api.ErrLead}, leave(1)},
		{offer{why: "the leader would leave", n: leader(c), e: api.ErrOrder}, leave(1)},
		{offer{why: "the leader would leave, an older term", n: older, e: api.ErrOrder}, leave(1)},
		{offer{why: "the only voter would leave", n: leader(voters(1)), e: api.ErrOrder}, leave(1)},
		{offer{why: "an older term", n: older, e: api.ErrBusy}, learn(4)},
		{offer{why: "an older term, a wrong change", n: older, e: api.ErrBusy}, learn(0)},
		{offer{why: "nothing is committed", n: but(leader(c), func(n *api.Node) { n.Commit = 0 }), e: api.ErrBusy}, learn(4)},
		{offer{why: "Commit behind the end", n: but(leader(c), func(n *api.Node) { n.Commit = 7 }), e: api.ErrBusy}, learn(4)},
		{offer{why: "Commit far behind the end", n: but(leader(c), func(n *api.Node) { n.Commit = most }), e: api.ErrBusy}, learn(4)},
		{offer{why: "Commit ahead of Base", n: but(leader(c), func(n *api.Node) {
			n.S.Log = log(6, 5, 5)
			n.Commit = 5
		}), e: api.ErrBusy}, learn(4)},
		{offer{why: "no entry at all in the term 0", n: but(leader(c), func(n *api.Node) {
			n.S.Term, n.S.Log, n.Commit = 0, api.Log{}, 1
		}), e: api.ErrBusy}, learn(4)},
		{offer{why: "another one is open", n: changing, e: api.ErrBusy}, learn(4)},
		{offer{why: "another one is open, a wrong change", n: changing, e: api.ErrBusy}, leave(7)},
		{offer{why: "a node that is there", n: leader(c), e: api.ErrThere}, learn(2)},
		{offer{why: "a learner that is there", n: leader(learning(4, 1, 2)), e: api.ErrThere}, learn(4)},
		{offer{why: "the leader itself would learn", n: leader(c), e: api.ErrThere}, learn(1)},
		{offer{why: "a node that does not learn", n: leader(c), e: api.ErrNone}, api.Change{Kind: api.ChangeVote, Id: 4}},
		{offer{why: "the leader itself, which votes", n: leader(c), e: api.ErrNone}, api.Change{Kind: api.ChangeVote, Id: 1}},
		{offer{why: "a node that is not there", n: leader(c), e: api.ErrNone}, leave(4)},
		{offer{why: "the leader learns, and the only voter would leave", n: leader(learning(1, 2)), e: api.ErrFull}, leave(2)},
		{offer{why: "an id 0", n: leader(c), e: api.ErrArg}, learn(0)},
		{offer{why: "an id above MaxId", n: leader(c), e: api.ErrArg}, leave(64)},
		{offer{why: "an unknown kind", n: leader(c), e: api.ErrArg}, api.Change{Kind: 4, Id: 4}},
		{offer{why: "an unknown kind of its own Id", n: leader(c), e: api.ErrArg}, api.Change{Kind: 0, Id: 1}},
		{offer{why: "too many learners", n: leader(api.Conf{Voters: []uint64{1}, Learners: []uint64{2, 3, 4}}), e: api.ErrFull}, learn(5)},
		{offer{why: "a full log", n: full, e: api.ErrFull}, learn(4)},
		{offer{why: "a full log, a wrong change", n: full, e: api.ErrNone}, leave(4)},
		{offer{why: "a log of later terms", n: but(leader(c), func(n *api.Node) { n.S.Log.Entries[5].Term = 6 }), e: api.ErrOrder}, learn(4)},
	} {
		n, i, sent, e := raft.Change(x.n, x.x)
		x.check(t, n, i, sent, e)
	}
}

// P8.4: the configuration behind a change is added behind a c; marks of nodes that are gone are removed, those of new ones begin at the end; it is committed if that is enough, and sent to all the others.
func TestChange(t *testing.T) {
	entry := func(c api.Conf) api.Entry { return api.Entry{Term: 5, Data: "c" + bytes(c)} }
	sent := func(to, index uint64, c api.Conf) api.Message {
		return api.Message{Kind: api.MAppend, From: 1, To: to, Term: 5, Index: index, LogTerm: 5, Commit: 5, Entries: append(slices.Clone(log(0, 0, 5, 5).Entries[:6-index]), entry(c))}
	}
	becomes := func(c api.Conf, commit uint64, next, match []api.Mark) func(*api.Node) {
		return func(n *api.Node) {
			n.S.Log.Entries = append(slices.Clone(n.S.Log.Entries), entry(c))
			n.Commit, n.Next, n.Match = commit, next, match
		}
	}
	learned, voted, left := learning(2, 1, 3), voters(1, 2, 3), voters(1)
	one := leader(learning(3, 1))
	one.Commit, one.Match[1].N = 6, 6
	alone := sent(3, 5, voters(1, 3))
	alone.Commit = 6
	odd := but(leader(voters(1, 3)), func(n *api.Node) {
		n.Next = []api.Mark{{Id: 9, N: 2}, {Id: 1, N: 4}, {Id: 3, N: 6}, {Id: 9, N: 3}}
		n.Match = []api.Mark{{Id: 2, N: 5}, {Id: 9, N: 2}, {Id: 3, N: 5}}
	})
	unmarked := but(leader(voters(1, 3)), func(n *api.Node) { n.Next, n.Match = nil, nil })
	committed := sent(2, 6, learning(2, 1))
	committed.Commit = 7
	all := append(log(0, 0, 1, 1, 2, 4, 5, 5).Entries, entry(voters(1, 3)))
	for _, x := range []struct {
		offer
		x api.Change
	}{
		{offer{"one learns", leader(voters(1, 3)), becomes(learned, 5, []api.Mark{{Id: 3, N: 6}, {Id: 2, N: 7}}, set(7, 3, 5, 2, 0)), 7,
			[]api.Message{sent(2, 6, learned), sent(3, 5, learned)}, api.OK}, api.Change{Kind: api.ChangeLearn, Id: 2}},
		{offer{"the first learner of one alone", leader(voters(1)), becomes(learning(2, 1), 7, []api.Mark{{Id: 2, N: 7}}, set(7, 2, 0)), 7,
			[]api.Message{committed}, api.OK}, api.Change{Kind: api.ChangeLearn, Id: 2}},
		{offer{"one votes", leader(learned), becomes(voted, 5, []api.Mark{{Id: 2, N: 6}, {Id: 3, N: 6}}, set(7, 2, 5, 3, 5)), 7,
			[]api.Message{sent(2, 5, voted), sent(3, 5, voted)}, api.OK}, api.Change{Kind: api.ChangeVote, Id: 2}},
		{offer{"a second one votes: the entry waits for it", one, becomes(voters(1, 3), 6, []api.Mark{{Id: 3, N: 6}}, set(7, 3, 6)), 7,
			[]api.Message{alone}, api.OK}, api.Change{Kind: api.ChangeVote, Id: 3}},
		{offer{"a voter leaves: the leader is a majority", leader(voters(1, 3)), becomes(left, 7, nil, set(7)), 7, nil, api.OK}, api.Change{Kind: api.ChangeLeave, Id: 3}},
		{offer{"one of three leaves", leader(voted), becomes(voters(1, 3), 5, []api.Mark{{Id: 3, N: 6}}, set(7, 3, 5)), 7,
			[]api.Message{sent(3, 5, voters(1, 3))}, api.OK}, api.Change{Kind: api.ChangeLeave, Id: 2}},
		{offer{"a learner leaves", leader(learned), becomes(voters(1, 3), 5, []api.Mark{{Id: 3, N: 6}}, set(7, 3, 5)), 7,
			[]api.Message{sent(3, 5, voters(1, 3))}, api.OK}, api.Change{Kind: api.ChangeLeave, Id: 2}},
		{offer{"marks of nodes that were never there", odd, becomes(learned, 5, []api.Mark{{Id: 1, N: 4}, {Id: 3, N: 6}, {Id: 2, N: 7}}, []api.Mark{{Id: 2}, {Id: 3, N: 5}, {Id: 1, N: 7}}), 7,
			[]api.Message{sent(2, 6, learned), sent(3, 5, learned)}, api.OK}, api.Change{Kind: api.ChangeLearn, Id: 2}},
		{offer{"no marks", unmarked, becomes(learned, 5, []api.Mark{{Id: 2, N: 7}, {Id: 3, N: 7}}, set(7, 2, 0, 3, 0)), 7,
			[]api.Message{sent(2, 6, learned), sent(3, 6, learned)}, api.OK}, api.Change{Kind: api.ChangeLearn, Id: 2}},
		{offer{"no mark but of the node itself", but(leader(voters(1, 2, 3)), func(n *api.Node) { n.Next, n.Match = []api.Mark{{Id: 3, N: 1}}, nil }),
			becomes(voters(1, 3), 5, []api.Mark{{Id: 3, N: 1}}, set(7)), 7,
			[]api.Message{{Kind: api.MAppend, From: 1, To: 3, Term: 5, Commit: 5, Entries: all}}, api.OK}, api.Change{Kind: api.ChangeLeave, Id: 2}},
	} {
		n, i, mail, e := raft.Change(x.n, x.x)
		x.check(t, n, i, mail, e)
	}
}

// P8.4: an entry at Commit that has a configuration is committed, and one behind it that only looks like one is none.
func TestChangeAgain(t *testing.T) {
	committed := but(leader(voters(1, 2, 3)), func(n *api.Node) { n.S.Log = data(n.S.Log, 4, "c"+bytes(learning(9, 1, 2, 3))) })
	n, i, _, e := raft.Change(committed, api.Change{Kind: api.ChangeVote, Id: 9})
	if i != 7 || e != api.OK || !slices.Equal(raft.Conf(n).Voters, []uint64{1, 2, 3, 9}) {
		t.Errorf("behind a committed change: %d, %d, %+v", i, e, raft.Conf(n))
	}
	if _, _, _, e := raft.Change(n, api.Change{Kind: api.ChangeLeave, Id: 2}); e != api.ErrBusy {
		t.Errorf("ahead of the commit: %d", e)
	}
	n.Commit = 7
	if _, i, _, e := raft.Change(n, api.Change{Kind: api.ChangeLeave, Id: 2}); i != 8 || e != api.OK {
		t.Errorf("behind the commit: %d, %d", i, e)
	}
	for _, d := range []string{"c", "d" + bytes(voters(1)), "c\x00\x00", ""} {
		n := but(leader(voters(1, 2, 3)), func(n *api.Node) { n.S.Log = data(n.S.Log, 5, d) })
		if _, i, _, e := raft.Change(n, api.Change{Kind: api.ChangeLearn, Id: 9}); i != 7 || e != api.OK {
			t.Errorf("behind %q: %d, %d", d, i, e)
		}
	}
	base := but(leader(voters(1, 2)), func(n *api.Node) {
		n.S.Log, n.Commit = log(6, 5, 5), 6
		n.S.Log.Snap = snap(voters(1, 2), "")
	})
	if _, i, _, e := raft.Change(base, api.Change{Kind: api.ChangeLearn, Id: 9}); i != 8 || e != api.OK {
		t.Errorf("Commit at Base: %d, %d", i, e)
	}
}

// P8.5: an index is compacted if it is above Base, up to Commit, and there; the snapshot is at most MaxText bytes long.
func TestCompact(t *testing.T) {
	c := voters(1, 2, 3)
	n := but(leader(c), func(n *api.Node) {
		n.S.Log = data(data(log(4, 2, 2, 3, 3, 5, 5), 1, "dx"), 4, "dy")
		n.S.Log.Snap = snap(c, "old")
		n.Commit = 8
	})
	room := api.MaxText - len(snap(c, ""))
	rest := func(i uint64) []api.Entry { return n.S.Log.Entries[i-4:] }
	beyond := but(n, func(n *api.Node) { n.Commit = 12 })
	for _, x := range []struct {
		why  string
		n    api.Node
		i    uint64
		app  string
		want api.Log
		e    api.Errno
	}{
		{"just above Base", n, 5, "app", api.Log{Base: 5, BaseTerm: 2, Snap: snap(c, "app"), Entries: rest(5)}, api.OK},
		{"below Commit", n, 7, "app", api.Log{Base: 7, BaseTerm: 3, Snap: snap(c, "app"), Entries: rest(7)}, api.OK},
		{"Commit", n, 8, "app", api.Log{Base: 8, BaseTerm: 5, Snap: snap(c, "app"), Entries: rest(8)}, api.OK},
		{"no state", n, 8, "", api.Log{Base: 8, BaseTerm: 5, Snap: snap(c, ""), Entries: rest(8)}, api.OK},
		{"a follower too", but(n, func(n *api.Node) { n.Role = api.Follower }), 8, "app", api.Log{Base: 8, BaseTerm: 5, Snap: snap(c, "app"), Entries: rest(8)}, api.OK},
		{"the last index", beyond, 9, "app", api.Log{Base: 9, BaseTerm: 5, Snap: snap(c, "app")}, api.OK},
		{"as long as it may be", n, 8, strings.Repeat("x", room), api.Log{Base: 8, BaseTerm: 5, Snap: snap(c, strings.Repeat("x", room)), Entries: rest(8)}, api.OK},
		{"too long", n, 8, strings.Repeat("x", room+1), api.Log{}, api.ErrBig},
		{"too long, and above Commit", n, 9, strings.Repeat("x", room+1), api.Log{}, api.ErrArg},
		{"above Commit", n, 9, "app", api.Log{}, api.ErrArg},
		{"Base", n, 4, "app", api.Log{}, api.ErrArg},
		{"below Base", n, 3, "app", api.Log{}, api.ErrArg},
		{"0", n, 0, "app", api.Log{}, api.ErrArg},
		{"above the last index", beyond, 10, "app", api.Log{}, api.ErrArg},
		{"the greatest number", but(n, func(n *api.Node) { n.Commit = most }), most, "app", api.Log{}, api.ErrArg},
		{"0 of an empty log", begun(c, api.Stable{}), 0, "app", api.Log{}, api.ErrArg},
	} {
		got, e := raft.Compact(x.n, x.i, x.app)
		want := api.Node{}
		if x.e == api.OK {
			want = but(x.n, func(n *api.Node) { n.S.Log = x.want })
		}
		if e != x.e || !raft.Same(got, want) {
			t.Errorf("%s: Compact = %+v, %d, want %+v, %d", x.why, got, e, want, x.e)
		}
	}
}

// P8.5: the snapshot has the configuration as of the index, not a later one.
func TestCompactConf(t *testing.T) {
	init, old, c, d := voters(1), voters(1, 2), voters(1, 2, 3), learning(4, 1, 2, 3)
	l := data(data(log(4, 2, 2, 3, 3, 5, 5), 1, "c"+bytes(c)), 3, "c"+bytes(d))
	based := l
	based.Snap = snap(old, "app")
	low := data(log(0, 0, 2, 2), 1, "c"+bytes(c))
	for _, x := range []struct {
		why  string
		l    api.Log
		i    uint64
		want api.Conf
	}{
		{"the snapshot's", based, 5, old},
		{"that of the index", based, 6, c},
		{"one ahead of the index", based, 7, c},
		{"the second", based, 8, d},
		{"ahead of the end", based, 9, d},
		{"no snapshot, so Init", l, 5, init},
		{"Init", low, 1, init},
		{"the entry's", low, 2, c},
	} {
		n := but(begun(init, api.Stable{Term: 5, Log: x.l}), func(n *api.Node) { n.Commit = 9 })
		before := raft.Conf(n)
		n, e := raft.Compact(n, x.i, "new")
		got, app, is := raft.App(n.S.Log.Snap)
		if e != api.OK || app != "new" || !is || !slices.Equal(got.Voters, x.want.Voters) || !slices.Equal(got.Learners, x.want.Learners) {
			t.Errorf("%s: %+v, %q, %v, %d, want %+v", x.why, got, app, is, e, x.want)
		}
		after := raft.Conf(n)
		if !slices.Equal(before.Voters, after.Voters) || !slices.Equal(before.Learners, after.Learners) {
			t.Errorf("%s: Conf becomes %+v, was %+v", x.why, after, before)
		}
	}
}
