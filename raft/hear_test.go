package raft_test

import (
	"slices"
	"strings"
	"testing"

	"ferrule/api"
	"ferrule/raft"
)

// hears is one call of Hear, and what it must answer.
type hears struct {
	why  string
	n    api.Node
	m    api.Message
	want func(*api.Node)
	mail []api.Message
}

// checkHears holds calls of Hear to what they must answer.
func checkHears(t *testing.T, all []hears) {
	t.Helper()
	for _, x := range all {
		n, sent := raft.Hear(x.n, x.m)
		want := x.n
		if x.want != nil {
			want = but(x.n, x.want)
		}
		hold(t, x.why, n, sent, want, x.mail)
	}
}

// mail is a message of the node 2 to the node 1, or what the node 1 answers.
func mail(kind int, term uint64, do ...func(*api.Message)) api.Message {
	m := api.Message{Kind: kind, From: 2, To: 1, Term: term}
	for _, f := range do {
		f(&m)
	}
	return m
}

// answer is what the node 1 answers to the node 2.
func answer(kind int, term uint64, do ...func(*api.Message)) []api.Message {
	return []api.Message{mail(kind, term, append(do, func(m *api.Message) { m.From, m.To = 1, 2 })...)}
}

// yes gives the message Ok.
func yes(m *api.Message) { m.Ok = true }

// at gives the message an Index, and the LogTerm there.
func at(index, term uint64) func(*api.Message) {
	return func(m *api.Message) { m.Index, m.LogTerm = index, term }
}

// having gives the message Entries of these terms, and a Commit.
func having(commit uint64, terms ...uint64) func(*api.Message) {
	return func(m *api.Message) { m.Commit, m.Entries = commit, log(0, 0, terms...).Entries }
}

// follows is what becomes of a node that follows in a later term.
func follows(term uint64) func(*api.Node) {
	return func(n *api.Node) {
		n.S.Term, n.S.Vote = term, 0
		stops(n)
	}
}

// stops is what becomes of a node that follows in its own term.
func stops(n *api.Node) {
	n.Role, n.Lead = api.Follower, 0
	n.Voices, n.Next, n.Match = nil, nil, nil
}

// heard is what becomes of a node that has heard the leader 2.
func heard(n *api.Node) {
	stops(n)
	n.Lead, n.Heard, n.Wait = 2, 10, 14
}

// also does one thing behind another.
func also(do ...func(*api.Node)) func(*api.Node) {
	return func(n *api.Node) {
		for _, f := range do {
			f(n)
		}
	}
}

// becomes gives the node a log and a Commit.
func becomes(l api.Log, commit uint64) func(*api.Node) {
	return func(n *api.Node) { n.S.Log, n.Commit = l, commit }
}

// everyRole has the node of a group in each role.
func everyRole(c api.Conf) map[string]api.Node {
	return map[string]api.Node{"follower": follower(c), "asking": asking(c), "candidate": candidate(c), "leader": leader(c)}
}

// P8.3: messages to others, of the node itself, of no possible node, of a Term above MaxNum, and of no known kind have no effect.
func TestHearNothing(t *testing.T) {
	for role, n := range everyRole(voters(1, 2, 3)) {
		for kind := -1; kind < 10; kind++ {
			for _, x := range []struct {
				why string
				do  func(*api.Message)
			}{
				{"to another node", func(m *api.Message) { m.To = 3 }},
				{"to none", func(m *api.Message) { m.To = 0 }},
				{"of the node itself", func(m *api.Message) { m.From = 1 }},
				{"of 0", func(m *api.Message) { m.From = 0 }},
				{"of an id above MaxId", func(m *api.Message) { m.From = 64 }},
				{"of a huge id", func(m *api.Message) { m.From = most }},
				{"a Term above MaxNum", func(m *api.Message) { m.Term = api.MaxNum + 1 }},
				{"the greatest number", func(m *api.Message) { m.Term = most }},
				{"a later term, to another node", func(m *api.Message) { m.Term, m.To = 9, 3 }},
				{"a later term, of the node itself", func(m *api.Message) { m.Term, m.From = 9, 1 }},
			} {
				for _, ok := range []bool{false, true} {
					m := mail(kind, 5, at(4, 4), x.do)
					m.Ok = ok
					checkHears(t, []hears{{role + ": " + x.why, n, m, nil, nil}})
				}
			}
		}
		for _, kind := range []int{-1, 0, 8, 9, 1 << 40} {
			for _, term := range []uint64{4, 5, 6, api.MaxNum} {
				checkHears(t, []hears{{role + ": an unknown kind", n, mail(kind, term, at(4, 4)), nil, nil}})
			}
		}
	}
}

// P8.3: messages of each node from 1 to MaxId and up to the Term MaxNum count, members or not.
func TestHearLimits(t *testing.T) {
	n := follower(voters(1, 2, 3))
	n.Id = 7
	for _, from := range []uint64{1, 4, api.MaxId} {
		m := mail(api.MAppend, api.MaxNum, at(4, 4), having(0))
		m.From, m.To = from, 7
		reply := api.Message{Kind: api.MReply, From: 7, To: from, Term: api.MaxNum, Ok: true, Index: 4}
		checkHears(t, []hears{{"the greatest Term", n, m, also(follows(api.MaxNum), heard, func(n *api.Node) { n.Lead = from }), []api.Message{reply}}})
	}
}

// P8.3: MPreAsk is answered by MPreVote, granted as layer 7 says, and changes nothing.
func TestHearPreAsk(t *testing.T) {
	c := voters(1, 2, 3)
	late := func(ticks int) api.Node { return but(follower(c), func(n *api.Node) { n.Heard = ticks }) }
	granted, refused := answer(api.MPreVote, 6, yes), answer(api.MPreVote, 5)
	for _, x := range []hears{
		{"the term just above", follower(c), mail(api.MPreAsk, 6, at(4, 4)), nil, granted},
		{"a far later term", follower(c), mail(api.MPreAsk, 99, at(4, 4)), nil, answer(api.MPreVote, 99, yes)},
		{"the greatest term", follower(c), mail(api.MPreAsk, api.MaxNum, at(4, 4)), nil, answer(api.MPreVote, api.MaxNum, yes)},
		{"a longer log", follower(c), mail(api.MPreAsk, 6, at(5, 4)), nil, granted},
		{"a shorter log of a later term", follower(c), mail(api.MPreAsk, 6, at(1, 5)), nil, granted},
		{"its own term", follower(c), mail(api.MPreAsk, 5, at(4, 4)), nil, refused},
		{"an older term", follower(c), mail(api.MPreAsk, 4, at(4, 4)), nil, refused},
		{"a shorter log", follower(c), mail(api.MPreAsk, 6, at(3, 4)), nil, refused},
		{"a longer log of an older term", follower(c), mail(api.MPreAsk, 6, at(9, 3)), nil, refused},
		{"a leader was heard", late(1), mail(api.MPreAsk, 6, at(4, 4)), nil, refused},
		{"a leader was heard of long ago", late(0), mail(api.MPreAsk, 6, at(4, 4)), nil, granted},
		{"Heard below 0", late(-1), mail(api.MPreAsk, 6, at(4, 4)), nil, granted},
		{"an asking node", asking(c), mail(api.MPreAsk, 6, at(4, 4)), nil, granted},
		{"a candidate", candidate(c), mail(api.MPreAsk, 6, at(4, 4)), nil, granted},
		{"a leader", leader(c), mail(api.MPreAsk, 6, at(9, 5)), nil, refused},
		{"other fields do not count", follower(c), mail(api.MPreAsk, 6, at(4, 4), having(9, 1), yes), nil, granted},
	} {
		checkHears(t, []hears{x})
	}
	empty := begun(c, api.Stable{})
	checkHears(t, []hears{{"an empty log", empty, mail(api.MPreAsk, 1), nil, answer(api.MPreVote, 1, yes)}})
	based := but(follower(c), func(n *api.Node) { n.S.Log = log(4, 4) })
	checkHears(t, []hears{
		{"a log that is all snapshot", based, mail(api.MPreAsk, 6, at(4, 4)), nil, granted},
		{"a shorter one", based, mail(api.MPreAsk, 6, at(3, 4)), nil, refused},
	})
}

// P8.3: MAsk is answered by MVote; the Term rises even if the vote is refused; Wait begins anew if it is granted.
func TestHearAsk(t *testing.T) {
	c := voters(1, 2, 3)
	free := but(follower(c), func(n *api.Node) { n.S.Vote = 0 })
	other := but(follower(c), func(n *api.Node) { n.S.Vote = 3 })
	late := but(follower(c), func(n *api.Node) { n.Heard = 1 })
	gives := func(n *api.Node) { n.S.Vote, n.Wait = 2, 14 }
	checkHears(t, []hears{
		{"a free vote", free, mail(api.MAsk, 5, at(4, 4)), gives, answer(api.MVote, 5, yes)},
		{"the same vote again", follower(c), mail(api.MAsk, 5, at(4, 4)), gives, answer(api.MVote, 5, yes)},
		{"the vote of another one", other, mail(api.MAsk, 5, at(4, 4)), nil, answer(api.MVote, 5)},
		{"a log that is not as new", free, mail(api.MAsk, 5, at(3, 4)), nil, answer(api.MVote, 5)},
		{"an older term", free, mail(api.MAsk, 4, at(4, 4)), nil, answer(api.MVote, 5)},
		{"a later term", other, mail(api.MAsk, 6, at(4, 4)), also(follows(6), gives), answer(api.MVote, 6, yes)},
		{"the greatest term", other, mail(api.MAsk, api.MaxNum, at(4, 4)), also(follows(api.MaxNum), gives), answer(api.MVote, api.MaxNum, yes)},
		{"a later term, a log that is not as new", other, mail(api.MAsk, 6, at(9, 3)), follows(6), answer(api.MVote, 6)},
		{"a later term, and a leader was heard", late, mail(api.MAsk, 6, at(4, 4)), nil, answer(api.MVote, 5)},
		{"its own term, and a leader was heard", late, mail(api.MAsk, 5, at(4, 4)), gives, answer(api.MVote, 5, yes)},
		{"an asking node of its own term", asking(c), mail(api.MAsk, 5, at(4, 4)), gives, answer(api.MVote, 5, yes)},
		{"an asking node, a later term", asking(c), mail(api.MAsk, 6, at(4, 4)), also(follows(6), gives), answer(api.MVote, 6, yes)},
		{"a candidate of its own term", candidate(c), mail(api.MAsk, 5, at(4, 4)), nil, answer(api.MVote, 5)},
		{"a candidate, a later term", candidate(c), mail(api.MAsk, 6, at(4, 4)), also(follows(6), gives), answer(api.MVote, 6, yes)},
		{"a candidate, a later term, refused", candidate(c), mail(api.MAsk, 6, at(4, 1)), follows(6), answer(api.MVote, 6)},
		{"a leader, its own term", leader(c), mail(api.MAsk, 5, at(9, 5)), nil, answer(api.MVote, 5)},
		{"a leader, a later term", leader(c), mail(api.MAsk, 6, at(9, 5)), nil, answer(api.MVote, 5)},
		{"a leader, an older term", leader(c), mail(api.MAsk, 4, at(9, 5)), nil, answer(api.MVote, 5)},
	})
}

// voiced is the node with these voices behind its own Yes.
func voiced(n api.Node, all ...api.Voice) api.Node {
	n.Voices = append(slices.Clone(n.Voices), all...)
	return n
}

// says puts a voice of 2 behind the others.
func says(ok bool) func(*api.Node) {
	return func(n *api.Node) { n.Voices = append(slices.Clone(n.Voices), api.Voice{Id: 2, Yes: ok}) }
}

// P8.3: MPreVote with Ok counts in the Term just above, without Ok in the node's own, and only while it asks; one without Ok of a later term is followed.
func TestHearPreVote(t *testing.T) {
	three, five := voters(1, 2, 3), voters(1, 2, 3, 4, 5)
	stands := func(n *api.Node) {
		n.S.Term, n.S.Vote, n.Role, n.Lead, n.Voices = 6, 1, api.Candidate, 0, []api.Voice{{Id: 1, Yes: true}}
	}
	ask := func(to uint64) api.Message {
		return api.Message{Kind: api.MAsk, From: 1, To: to, Term: 6, Index: 4, LogTerm: 4}
	}
	no := api.Voice{Id: 3}
	all := []hears{
		{"the first of three", asking(three), mail(api.MPreVote, 6, yes), stands, []api.Message{ask(2), ask(3)}},
		{"learners are not asked", asking(learning(3, 1, 2)), mail(api.MPreVote, 6, yes), stands, []api.Message{ask(2)}},
		{"the first of five", asking(five), mail(api.MPreVote, 6, yes), says(true), nil},
		{"a No of three", asking(three), mail(api.MPreVote, 5), says(false), nil},
		{"the second No of three", voiced(asking(three), no), mail(api.MPreVote, 5), stops, nil},
		{"one who has said No says Yes", voiced(asking(three), api.Voice{Id: 2}), mail(api.MPreVote, 6, yes), nil, nil},
		{"one who has said Yes says No", voiced(asking(five), api.Voice{Id: 2, Yes: true}), mail(api.MPreVote, 5), nil, nil},
		{"a Yes of a node that is no voter", asking(voters(1, 3, 4)), mail(api.MPreVote, 6, yes), says(true), nil},
		{"a Yes in its own term", asking(three), mail(api.MPreVote, 5, yes), nil, nil},
		{"a Yes two terms above", asking(three), mail(api.MPreVote, 7, yes), nil, nil},
		{"a Yes of an older term", asking(three), mail(api.MPreVote, 4, yes), nil, nil},
		{"a No in the term just above", asking(three), mail(api.MPreVote, 6), follows(6), nil},
		{"a No of the greatest term", asking(three), mail(api.MPreVote, api.MaxNum), follows(api.MaxNum), nil},
		{"a No of an older term", asking(three), mail(api.MPreVote, 4), nil, nil},
	}
	for role, n := range everyRole(three) {
		if role == "asking" {
			continue
		}
		all = append(all,
			hears{role + ": a Yes", n, mail(api.MPreVote, 6, yes), nil, nil},
			hears{role + ": a Yes of its own term", n, mail(api.MPreVote, 5, yes), nil, nil},
			hears{role + ": a No of its own term", n, mail(api.MPreVote, 5), nil, nil},
			hears{role + ": a No of an older term", n, mail(api.MPreVote, 4), nil, nil},
			hears{role + ": a No of a later term", n, mail(api.MPreVote, 6), follows(6), nil},
			hears{role + ": a Yes of a far later term", n, mail(api.MPreVote, 9, yes), nil, nil})
	}
	checkHears(t, all)
}

// P8.3: who wins the question where it is the only voter left stands and leads at once: its voices are counted again each time.
func TestHearPreVoteLeads(t *testing.T) {
	n := asking(voters(1))
	n.Voices = nil
	got, sent := raft.Hear(n, mail(api.MPreVote, 6, yes))
	hold(t, "a Yes of a node that is no voter, and no own one", got, sent, but(n, says(true)), nil)
	n = asking(learning(2, 1))
	got, sent = raft.Hear(n, mail(api.MPreVote, 5))
	want := but(n, becomes(log(0, 0, 1, 1, 2, 4, 6), 5), func(n *api.Node) {
		n.S.Term, n.S.Vote, n.Role, n.Lead, n.Voices, n.Beat = 6, 1, api.Leader, 1, nil, 3
		n.Next, n.Match = []api.Mark{{Id: 2, N: 5}}, []api.Mark{{Id: 1, N: 5}, {Id: 2}}
	})
	first := api.Message{Kind: api.MAppend, From: 1, To: 2, Term: 6, Index: 4, LogTerm: 4, Commit: 5, Entries: []api.Entry{{Term: 6}}}
	hold(t, "the only voter", got, sent, want, []api.Message{first})
}

// P8.3: MVote counts while the node stands, in its Term; whoever wins leads: it adds an entry, and sends that to all the others.
func TestHearVote(t *testing.T) {
	three, five := learning(4, 1, 2, 6), voters(1, 2, 3, 4, 5)
	no := api.Voice{Id: 6}
	leads := func(n *api.Node) {
		n.S.Log = log(0, 0, 1, 1, 2, 4, 5)
		n.Role, n.Lead, n.Voices, n.Beat = api.Leader, 1, nil, 3
		n.Next = []api.Mark{{Id: 2, N: 5}, {Id: 4, N: 5}, {Id: 6, N: 5}}
		n.Match = set(5, 2, 0, 4, 0, 6, 0)
	}
	first := func(to uint64) api.Message {
		return api.Message{Kind: api.MAppend, From: 1, To: to, Term: 5, Index: 4, LogTerm: 4, Commit: 2, Entries: []api.Entry{{Term: 5}}}
	}
	all := []hears{
		{"the second Yes of three", candidate(three), mail(api.MVote, 5, yes), leads, []api.Message{first(2), first(4), first(6)}},
		{"marks of an older time", but(candidate(three), func(n *api.Node) {
			n.Next, n.Match = []api.Mark{{Id: 6, N: 2}, {Id: 2, N: 3}}, []api.Mark{{Id: 2, N: 4}, {Id: 1, N: 1}}
		}), mail(api.MVote, 5, yes), leads, []api.Message{first(2), first(4), first(6)}},
		{"the second Yes of five", candidate(five), mail(api.MVote, 5, yes), says(true), nil},
		{"a No", candidate(three), mail(api.MVote, 5), says(false), nil},
		{"the second No of three", voiced(candidate(three), no), mail(api.MVote, 5), stops, nil},
		{"one who has said No says Yes", voiced(candidate(three), api.Voice{Id: 2}), mail(api.MVote, 5, yes), nil, nil},
		{"a Yes of a node that is no voter", candidate(voters(1, 3, 4)), mail(api.MVote, 5, yes), says(true), nil},
		{"a full log", but(candidate(three), becomes(log(0, 0, many(api.MaxEntries, 1)...), 2)), mail(api.MVote, 5, yes), also(stops, func(n *api.Node) { n.Beat = 3 }), nil},
	}
	for role, n := range everyRole(three) {
		if role != "candidate" {
			all = append(all,
				hears{role + ": a Yes", n, mail(api.MVote, 5, yes), nil, nil},
				hears{role + ": a No", n, mail(api.MVote, 5), nil, nil})
		}
		all = append(all,
			hears{role + ": an older term", n, mail(api.MVote, 4, yes), nil, nil},
			hears{role + ": a later term", n, mail(api.MVote, 6, yes), follows(6), nil},
			hears{role + ": a No of a later term", n, mail(api.MVote, 6), follows(6), nil})
	}
	checkHears(t, all)
}

// P8.3: MAppend, MSnap and MReply of an older term: the first two are answered, so that the sender learns of the term; the third is not.
func TestHearOlder(t *testing.T) {
	for role, n := range everyRole(voters(1, 2, 3)) {
		end := uint64(len(n.S.Log.Entries))
		refused := answer(api.MReply, 5, at(end, 0))
		checkHears(t, []hears{
			{role + ": MAppend", n, mail(api.MAppend, 4, at(4, 4), having(4, 4)), nil, refused},
			{role + ": MAppend of the term 0", n, mail(api.MAppend, 0), nil, refused},
			{role + ": MSnap", n, mail(api.MSnap, 4, at(9, 4), with(snap(voters(1), ""))), nil, refused},
			{role + ": MReply", n, mail(api.MReply, 4, at(6, 0), yes), nil, nil},
			{role + ": MReply without Ok", n, mail(api.MReply, 4, at(3, 0)), nil, nil},
		})
	}
}

// P8.3: MAppend, MSnap and MReply of a later term are followed; then the first two are heard.
func TestHearLater(t *testing.T) {
	for role, n := range everyRole(voters(1, 2, 3)) {
		grown := n.S.Log
		grown.Entries = append(slices.Clone(n.S.Log.Entries), api.Entry{Term: 9})
		end := uint64(len(n.S.Log.Entries))
		term := n.S.Log.Entries[end-1].Term
		snapped := api.Log{Base: 9, BaseTerm: 9, Snap: snap(voters(1), "")}
		checkHears(t, []hears{
			{role + ": MAppend", n, mail(api.MAppend, 9, at(end, term), having(0, 9)), also(follows(9), heard, becomes(grown, n.Commit)), answer(api.MReply, 9, at(end+1, 0), yes)},
			{role + ": MSnap", n, mail(api.MSnap, 9, at(9, 9), with(snap(voters(1), ""))), also(follows(9), heard, becomes(snapped, 9)), answer(api.MReply, 9, at(9, 0), yes)},
			{role + ": MReply", n, mail(api.MReply, 9, at(6, 0), yes), follows(9), nil},
			{role + ": MReply without Ok", n, mail(api.MReply, 9), follows(9), nil},
		})
	}
}

// P8.3: a leader neither joins nor installs anything in its own term; any other node hears the leader.
func TestHearLeader(t *testing.T) {
	c := voters(1, 2, 3)
	for role, n := range everyRole(c) {
		n.Heard = 3
		if role == "leader" {
			checkHears(t, []hears{
				{"a leader: MAppend", n, mail(api.MAppend, 5, at(6, 5), having(6, 5)), nil, nil},
				{"a leader: MSnap", n, mail(api.MSnap, 5, at(9, 5), with(snap(c, ""))), nil, nil},
			})
			continue
		}
		n.Next, n.Match = []api.Mark{{Id: 2, N: 3}}, []api.Mark{{Id: 2, N: 3}}
		checkHears(t, []hears{
			{role + ": MAppend", n, mail(api.MAppend, 5, at(4, 4)), heard, answer(api.MReply, 5, at(4, 0), yes)},
			{role + ": MAppend that fails", n, mail(api.MAppend, 5, at(4, 3)), heard, answer(api.MReply, 5, at(3, 0))},
			{role + ": MSnap", n, mail(api.MSnap, 5), heard, answer(api.MReply, 5, at(2, 0), yes)},
		})
	}
}

// P8.3: what MAppend joins to the log, how far that is committed, and what is answered.
func TestHearAppend(t *testing.T) {
	n := follower(voters(1, 2, 3))
	ok := func(k uint64) []api.Message { return answer(api.MReply, 5, at(k, 0), yes) }
	no := func(k uint64) []api.Message { return answer(api.MReply, 5, at(k, 0)) }
	l := n.S.Log
	full := but(n, becomes(log(0, 0, many(api.MaxEntries, 1)...), 2))
	based := but(n, becomes(log(2, 1, 2, 4), 2))
	checkHears(t, []hears{
		{"no entries", n, mail(api.MAppend, 5, at(4, 4), having(0)), heard, ok(4)},
		{"no entries, ahead of the end", n, mail(api.MAppend, 5, at(3, 2), having(0)), heard, ok(3)},
		{"no entries, Index 0", n, mail(api.MAppend, 5, having(9)), heard, ok(0)},
		{"one", n, mail(api.MAppend, 5, at(4, 4), having(0, 5)), also(heard, becomes(log(0, 0, 1, 1, 2, 4, 5), 2)), ok(5)},
		{"one that is there", n, mail(api.MAppend, 5, at(2, 1), having(0, 2)), heard, ok(3)},
		{"one that is there, and another one", n, mail(api.MAppend, 5, at(2, 1), having(0, 2, 5)), also(heard, becomes(log(0, 0, 1, 1, 2, 5), 2)), ok(4)},
		{"one just above Commit is replaced", n, mail(api.MAppend, 5, at(2, 1), having(0, 5)), also(heard, becomes(log(0, 0, 1, 1, 5), 2)), ok(3)},
		{"one at Commit would be replaced", n, mail(api.MAppend, 5, at(1, 1), having(9, 2)), heard, no(0)},
		{"one below Commit would be replaced", n, mail(api.MAppend, 5, having(9, 2, 2, 2, 2, 2)), heard, no(0)},
		{"all are there", n, mail(api.MAppend, 5, having(0, 1, 1, 2, 4)), heard, ok(4)},
		{"all are there, and one more", n, mail(api.MAppend, 5, having(0, 1, 1, 2, 4, 4)), also(heard, becomes(log(0, 0, 1, 1, 2, 4, 4), 2)), ok(5)},
		{"the index is of another term", n, mail(api.MAppend, 5, at(4, 5), having(9, 5)), heard, no(3)},
		{"just behind the end", n, mail(api.MAppend, 5, at(5, 4), having(9, 5)), heard, no(4)},
		{"far behind the end", n, mail(api.MAppend, 5, at(99, 4), having(9, 5)), heard, no(4)},
		{"the greatest index", n, mail(api.MAppend, 5, at(most, 4), having(9, 5)), heard, no(4)},
		{"an Index of another term ahead of the end", n, mail(api.MAppend, 5, at(3, 3), having(9, 5)), heard, no(2)},
		{"Index 0 of some term", n, mail(api.MAppend, 5, at(0, 1), having(9, 5)), heard, no(0)},
		{"Index 1 of another term", n, mail(api.MAppend, 5, at(1, 2), having(9, 5)), heard, no(0)},
		{"a full log", full, mail(api.MAppend, 5, at(api.MaxEntries, 1), having(0, 5)), heard, no(api.MaxEntries - 1)},
		{"a full log, the last is replaced", full, mail(api.MAppend, 5, at(api.MaxEntries-1, 1), having(0, 5)), also(heard, func(n *api.Node) {
			n.S.Log.Entries = append(slices.Clone(n.S.Log.Entries[:api.MaxEntries-1]), api.Entry{Term: 5})
		}), ok(api.MaxEntries)},
		{"behind Base", based, mail(api.MAppend, 5, at(2, 1), having(0, 2, 5)), also(heard, becomes(log(2, 1, 2, 5), 2)), ok(4)},
		{"ahead of Base", based, mail(api.MAppend, 5, having(0, 3, 3, 2, 4, 5)), also(heard, becomes(log(2, 1, 2, 4, 5), 2)), ok(5)},
		{"all ahead of Base", based, mail(api.MAppend, 5, having(9, 3)), heard, ok(1)},

		{"Commit below k", n, mail(api.MAppend, 5, at(4, 4), having(3)), also(heard, becomes(l, 3)), ok(4)},
		{"Commit at k", n, mail(api.MAppend, 5, at(4, 4), having(4)), also(heard, becomes(l, 4)), ok(4)},
		{"Commit above k", n, mail(api.MAppend, 5, at(4, 4), having(99)), also(heard, becomes(l, 4)), ok(4)},
		{"Commit above a k ahead of the end", n, mail(api.MAppend, 5, at(3, 2), having(4)), also(heard, becomes(l, 3)), ok(3)},
		{"Commit below the node's", n, mail(api.MAppend, 5, at(4, 4), having(1)), heard, ok(4)},
		{"k below the node's Commit", n, mail(api.MAppend, 5, at(1, 1), having(4)), heard, ok(1)},
		{"Commit with an entry", n, mail(api.MAppend, 5, at(4, 4), having(5, 5)), also(heard, becomes(log(0, 0, 1, 1, 2, 4, 5), 5)), ok(5)},
		{"Commit below the entry", n, mail(api.MAppend, 5, at(4, 4), having(4, 5, 5)), also(heard, becomes(log(0, 0, 1, 1, 2, 4, 5, 5), 4)), ok(6)},

		{"what is added where Commit is behind the end replaces nothing", but(n, becomes(l, 9)), mail(api.MAppend, 5, at(4, 4), having(0, 5)), also(heard, becomes(log(0, 0, 1, 1, 2, 4, 5), 9)), ok(5)},
		{"what is replaced where Commit is behind the end", but(n, becomes(l, 9)), mail(api.MAppend, 5, at(3, 2), having(0, 5)), heard, no(2)},
	})
}

// P8.3: MAppend's entries are taken with their Data.
func TestHearAppendData(t *testing.T) {
	n := follower(voters(1, 2, 3))
	m := mail(api.MAppend, 5, at(4, 4), having(6, 5, 5))
	m.Entries[0].Data, m.Entries[1].Data = "dx", "c"+bytes(voters(1, 2))
	want := log(0, 0, 1, 1, 2, 4)
	want.Entries = append(want.Entries, m.Entries...)
	checkHears(t, []hears{{"two with Data", n, m, also(heard, becomes(want, 6)), answer(api.MReply, 5, at(6, 0), yes)}})
	got, _ := raft.Hear(n, m)
	if c := raft.Conf(got); !slices.Equal(c.Voters, []uint64{1, 2}) {
		t.Errorf("Conf %+v", c)
	}
}

// with gives the message a Snap.
func with(s string) func(*api.Message) { return func(m *api.Message) { m.Snap = s } }

// P8.3: MSnap is installed if its Index is above Commit and at most MaxIndex, its LogTerm at most the Term, and its Snap a snapshot of at most MaxText bytes; it is always answered.
func TestHearSnap(t *testing.T) {
	c := voters(1, 2)
	n := follower(voters(1, 2, 3))
	s := snap(c, "app")
	long := strings.Repeat("x", api.MaxText-len(snap(c, "")))
	ok := func(k uint64) []api.Message { return answer(api.MReply, 5, at(k, 0), yes) }
	installed := func(i, term uint64, s string, terms ...uint64) func(*api.Node) {
		l := log(i, term, terms...)
		l.Snap = s
		return also(heard, becomes(l, i))
	}
	checkHears(t, []hears{
		{"just above Commit", n, mail(api.MSnap, 5, at(3, 2), with(s)), installed(3, 2, s, 4), ok(3)},
		{"of another term", n, mail(api.MSnap, 5, at(3, 3), with(s)), installed(3, 3, s), ok(3)},
		{"the end", n, mail(api.MSnap, 5, at(4, 4), with(s)), installed(4, 4, s), ok(4)},
		{"behind the end", n, mail(api.MSnap, 5, at(9, 5), with(s)), installed(9, 5, s), ok(9)},
		{"of the term 0", n, mail(api.MSnap, 5, at(9, 0), with(s)), installed(9, 0, s), ok(9)},
		{"MaxIndex", n, mail(api.MSnap, 5, at(api.MaxIndex, 5), with(s)), installed(api.MaxIndex, 5, s), ok(api.MaxIndex)},
		{"above MaxIndex", n, mail(api.MSnap, 5, at(api.MaxIndex+1, 5), with(s)), heard, ok(2)},
		{"Commit", n, mail(api.MSnap, 5, at(2, 1), with(s)), heard, ok(2)},
		{"below Commit", n, mail(api.MSnap, 5, at(1, 1), with(s)), heard, ok(2)},
		{"0", n, mail(api.MSnap, 5, at(0, 0), with(s)), heard, ok(2)},
		{"a LogTerm above the Term", n, mail(api.MSnap, 5, at(9, 6), with(s)), heard, ok(2)},
		{"no snapshot", n, mail(api.MSnap, 5, at(9, 5)), heard, ok(2)},
		{"what is no snapshot", n, mail(api.MSnap, 5, at(9, 5), with("app")), heard, ok(2)},
		{"a snapshot of no configuration", n, mail(api.MSnap, 5, at(9, 5), with("\x00app")), heard, ok(2)},
		{"as long as it may be", n, mail(api.MSnap, 5, at(9, 5), with(snap(c, long))), installed(9, 5, snap(c, long)), ok(9)},
		{"too long", n, mail(api.MSnap, 5, at(9, 5), with(snap(c, long+"x"))), heard, ok(2)},
		{"Base, above Commit", but(n, becomes(log(9, 4), 2)), mail(api.MSnap, 5, at(9, 4), with(s)), also(heard, func(n *api.Node) { n.Commit = 9 }), ok(9)},
	})
}

// P8.3: MReply counts for a leader only, and of the others only: learners too, but neither nodes that are gone nor those that never were there.
func TestHearReplyWho(t *testing.T) {
	c := voters(1, 2, 3)
	var all []hears
	for role, n := range everyRole(c) {
		if role != "leader" {
			all = append(all,
				hears{role + ": Ok", n, mail(api.MReply, 5, at(4, 0), yes), nil, nil},
				hears{role + ": no Ok", n, mail(api.MReply, 5, at(4, 0)), nil, nil})
		}
	}
	stranger := leader(c)
	stranger.Next, stranger.Match = append(stranger.Next, api.Mark{Id: 4, N: 3}), append(stranger.Match, api.Mark{Id: 4, N: 2})
	of4 := func(m *api.Message) { m.From = 4 }
	learner := leader(learning(2, 1, 3))
	left := but(leader(c), func(n *api.Node) { n.S.Log = data(n.S.Log, 5, "c"+bytes(voters(1, 3))) })
	all = append(all,
		hears{"a stranger", stranger, mail(api.MReply, 5, at(6, 0), yes, of4), nil, nil},
		hears{"a stranger, no Ok", stranger, mail(api.MReply, 5, at(2, 0), of4), nil, nil},
		hears{"a node that has left", left, mail(api.MReply, 5, at(6, 0), yes), nil, nil},
		hears{"a learner", learner, mail(api.MReply, 5, at(6, 0), yes), func(n *api.Node) {
			n.Next = []api.Mark{{Id: 2, N: 7}, {Id: 3, N: 6}}
			n.Match = set(6, 2, 6, 3, 5)
		}, nil})
	checkHears(t, all)
}

// marked is the leader of 1, 2 and 3 with these marks of 2; 3 has nothing.
func marked(next, match uint64) api.Node {
	return but(leader(voters(1, 2, 3)), func(n *api.Node) {
		n.Next = []api.Mark{{Id: 2, N: next}, {Id: 3, N: 1}}
		n.Match = set(6, 2, match, 3, 0)
	})
}

// marks sets the marks of 2, and Commit.
func marks(next, match, commit uint64) func(*api.Node) {
	return func(n *api.Node) {
		n.Next, n.Match, n.Commit = []api.Mark{{Id: 2, N: next}, {Id: 3, N: 1}}, set(6, 2, match, 3, 0), commit
	}
}

// sent is what a leader sends to 2 from an index on, of which the log has the term just ahead.
func sent(n api.Node, i, term, commit uint64) []api.Message {
	return answer(api.MAppend, 5, at(i-1, term), func(m *api.Message) { m.Commit, m.Entries = commit, n.S.Log.Entries[i-1:] })
}

// P8.3: with Ok the marks of the sender rise, never fall; what a majority has is committed, if it is of the leader's term; the rest is sent.
func TestHearReplyOk(t *testing.T) {
	n := marked(3, 0)
	low := but(n, func(n *api.Node) { n.Commit = 2 })
	reply := func(i uint64) api.Message { return mail(api.MReply, 5, at(i, 0), yes) }
	unmarked := but(n, func(n *api.Node) { n.Next, n.Match = nil, []api.Mark{{Id: 1, N: 6}} })
	beyond := marked(3, most)
	checkHears(t, []hears{
		{"the end", n, reply(6), marks(7, 6, 6), nil},
		{"just below the end", n, reply(5), marks(6, 5, 5), sent(n, 6, 5, 5)},
		{"above the end", n, reply(7), nil, nil},
		{"far above the end", n, reply(most), nil, nil},
		{"0", n, reply(0), marks(1, 0, 5), sent(n, 1, 0, 5)},
		{"an entry of an older term is not committed", low, reply(4), marks(5, 4, 2), sent(n, 5, 4, 2)},
		{"one of the leader's own term is, and all ahead of it", low, reply(5), marks(6, 5, 5), sent(n, 6, 5, 5)},
		{"an older answer", marked(7, 6), reply(3), marks(7, 6, 6), nil},
		{"an older answer, entries are missing", marked(7, 4), reply(3), marks(5, 4, 5), sent(n, 5, 4, 5)},
		{"the same answer again", marked(6, 5), reply(5), marks(6, 5, 5), sent(n, 6, 5, 5)},
		{"Next ahead of Match", marked(2, 5), reply(2), marks(6, 5, 5), sent(n, 6, 5, 5)},
		{"no marks", unmarked, reply(5), func(n *api.Node) { n.Next, n.Match = []api.Mark{{Id: 2, N: 6}}, set(6, 2, 5) }, sent(n, 6, 5, 5)},
		{"a mark far above the end wraps around", beyond, reply(5), marks(0, most, 6), answer(api.MSnap, 5)},
	})
	two := but(leader(voters(1, 2, 3, 4, 5)), func(n *api.Node) { n.Match = set(6, 2, 0, 3, 6, 4, 0, 5, 0) })
	got, _ := raft.Hear(two, reply(6))
	if got.Commit != 6 {
		t.Errorf("three of five: Commit %d, want 6", got.Commit)
	}
	two.Match = set(6, 2, 0, 3, 5, 4, 0, 5, 0)
	if got, _ := raft.Hear(two, reply(6)); got.Commit != 5 {
		t.Errorf("three of five, one of them less: Commit %d, want 5", got.Commit)
	}
}

// P8.3: without Ok the Next mark goes back, by one at least, not below 1 nor below what is known to match; that is sent.
func TestHearReplyNo(t *testing.T) {
	n := marked(6, 0)
	reply := func(i uint64) api.Message { return mail(api.MReply, 5, at(i, 0)) }
	unmarked := but(n, func(n *api.Node) { n.Next, n.Match = []api.Mark{{Id: 3, N: 6}}, set(6) })
	based := but(marked(5, 0), func(n *api.Node) {
		n.S.Log = log(4, 4, 5, 5)
		n.S.Log.Snap = "s"
	})
	checkHears(t, []hears{
		{"one less", n, reply(4), marks(5, 0, 5), sent(n, 5, 4, 5)},
		{"as far as it may have", n, reply(2), marks(3, 0, 5), sent(n, 3, 1, 5)},
		{"nothing", n, reply(0), marks(1, 0, 5), sent(n, 1, 0, 5)},
		{"farther than it was sent", n, reply(9), marks(5, 0, 5), sent(n, 5, 4, 5)},
		{"the greatest number less 1", n, reply(most - 1), marks(5, 0, 5), sent(n, 5, 4, 5)},
		{"the greatest number wraps around", n, reply(most), marks(1, 0, 5), sent(n, 1, 0, 5)},
		{"a mark of 2", marked(2, 0), reply(6), marks(1, 0, 5), sent(n, 1, 0, 5)},
		{"a mark of 1", marked(1, 0), reply(6), marks(1, 0, 5), sent(n, 1, 0, 5)},
		{"a mark of 0", marked(0, 0), reply(6), marks(1, 0, 5), sent(n, 1, 0, 5)},
		{"no mark", unmarked, reply(6), func(n *api.Node) { n.Next = []api.Mark{{Id: 3, N: 6}, {Id: 2, N: 1}} }, sent(n, 1, 0, 5)},
		{"not below what matches", marked(6, 3), reply(1), marks(4, 3, 5), sent(n, 4, 2, 5)},
		{"at what matches", marked(6, 3), reply(3), marks(4, 3, 5), sent(n, 4, 2, 5)},
		{"above what matches", marked(6, 2), reply(3), marks(4, 2, 5), sent(n, 4, 2, 5)},
		{"Next at the end already", marked(7, 6), reply(2), marks(7, 6, 5), answer(api.MAppend, 5, at(6, 5), func(m *api.Message) { m.Commit = 5 })},
		{"entries that are gone", based, reply(9), marks(4, 0, 5), answer(api.MSnap, 5, at(4, 4), with("s"))},
	})
}
