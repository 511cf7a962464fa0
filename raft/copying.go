package raft

import (
	"slices"

	"ferrule/api"
	"ferrule/group"
	"ferrule/rlog"
)

// end is the last index of the node's log.
func end(n api.Node) uint64 {
	last, _ := rlog.Last(n.S.Log)
	return last
}

// message is one of the node's, in its Term.
func message(n api.Node, kind int, to uint64) api.Message {
	return api.Message{Kind: kind, From: n.Id, To: to, Term: n.S.Term}
}

// reply tells a leader how far the log has, or may have, what the leader's has.
func reply(n api.Node, to uint64, ok bool, index uint64) []api.Message {
	m := message(n, api.MReply, to)
	m.Ok, m.Index = ok, index
	return []api.Message{m}
}

// send sends to several nodes what they need next of the log.
func send(n api.Node, to ...uint64) []api.Message {
	var sent []api.Message
	for _, p := range to {
		sent = append(sent, portion(n, p))
	}
	return sent
}

// portion is what a node needs next of the log: entries, or the snapshot where they are gone.
func portion(n api.Node, to uint64) api.Message {
	l := n.S.Log
	i, ok := group.Mark(n.Next, to)
	if !ok {
		i = 1
	}
	entries, ok := rlog.From(l, i, api.MaxSend)
	if !ok {
		m := message(n, api.MSnap, to)
		m.Index, m.LogTerm, m.Snap = l.Base, l.BaseTerm, l.Snap
		return m
	}
	m := message(n, api.MAppend, to)
	m.Index, m.Commit = i-1, n.Commit
	m.LogTerm, _ = rlog.TermAt(l, i-1)
	// Else the lists of several messages were one.
	m.Entries = slices.Clone(entries)
	return m
}

// beat lets time go on for a leader.
func beat(n api.Node) (api.Node, []api.Message) {
	n.Beat--
	if n.Beat >= 1 {
		return n, nil
	}
	n.Beat = api.BeatTicks
	return n, send(n, others(n)...)
}

// add is the node with an entry of its Term behind its log, which it has itself.
func add(n api.Node, data string) (api.Node, api.Errno) {
	l, e := rlog.Add(n.S.Log, api.Entry{Term: n.S.Term, Data: data})
	if e != api.OK {
		return api.Node{}, e
	}
	n.S.Log = l
	n.Match = group.Set(n.Match, n.Id, end(n))
	return n, api.OK
}

// commit is the leader with what a majority has.
func commit(n api.Node) api.Node {
	k := group.Agreed(Conf(n), n.Match)
	// An entry of an older term may still be replaced though a majority has it.
	if term, ok := rlog.TermAt(n.S.Log, k); ok && term == n.S.Term && k > n.Commit {
		n.Commit = k
	}
	return n
}

// spread commits what the leader alone makes a majority for, and sends to all the others.
func spread(n api.Node) (api.Node, []api.Message) {
	n = commit(n)
	return n, send(n, others(n)...)
}

// hearInTerm hears a message that counts only in the node's own term.
func hearInTerm(n api.Node, m api.Message) (api.Node, []api.Message) {
	if m.Term > n.S.Term {
		n = follow(n, m.Term)
	}
	leads := m.Kind == api.MAppend || m.Kind == api.MSnap
	switch {
	case m.Term < n.S.Term && leads:
		// Who still leads in an older term learns of the newer one.
		return n, reply(n, m.From, false, end(n))
	case m.Term < n.S.Term, leads && n.Role == api.Leader:
		return n, nil
	}
	switch m.Kind {
	case api.MAppend:
		return join(heard(n, m.From), m)
	case api.MSnap:
		return install(heard(n, m.From), m)
	case api.MReply:
		return hearReply(n, m)
	}
	if n.Role == api.Candidate {
		return say(n, m)
	}
	return n, nil
}

// heard is the node when it has heard the leader of its Term.
func heard(n api.Node, from uint64) api.Node {
	n = follow(n, n.S.Term)
	n.Lead, n.Heard, n.Wait = from, api.WaitTicks, n.Span
	return n
}

// join takes a leader's entries into the log.
func join(n api.Node, m api.Message) (api.Node, []api.Message) {
	l, first, ok := rlog.Join(n.S.Log, m.Index, m.LogTerm, m.Entries)
	replaces := first != 0 && first <= end(n)
	if !ok || replaces && first <= n.Commit {
		return n, reply(n, m.From, false, min(end(n), max(m.Index, 1)-1))
	}
	n.S.Log = l
	k := m.Index + uint64(len(m.Entries))
	n.Commit = max(n.Commit, min(m.Commit, k))
	return n, reply(n, m.From, true, k)
}

// install takes a leader's snapshot in the place of what is ahead of it.
func install(n api.Node, m api.Message) (api.Node, []api.Message) {
	_, _, ok := App(m.Snap)
	if ok && len(m.Snap) <= api.MaxText && m.LogTerm <= n.S.Term && n.Commit < m.Index && m.Index <= api.MaxIndex {
		n.S.Log = rlog.Install(n.S.Log, m.Index, m.LogTerm, m.Snap)
		n.Commit = m.Index
	}
	return n, reply(n, m.From, true, n.Commit)
}

// hearReply hears how far a node has the leader's log.
func hearReply(n api.Node, m api.Message) (api.Node, []api.Message) {
	if n.Role != api.Leader || !slices.Contains(others(n), m.From) {
		return n, nil
	}
	next, _ := group.Mark(n.Next, m.From)
	match, _ := group.Mark(n.Match, m.From)
	if !m.Ok {
		// It is known already to have all up to Match, whatever an answer that comes late says.
		back := min(max(next, 1)-1, m.Index+1)
		n.Next = group.Set(n.Next, m.From, max(back, 1, match+1))
		return n, send(n, m.From)
	}
	if m.Index > end(n) {
		return n, nil
	}
	match = max(match, m.Index)
	n.Match = group.Set(n.Match, m.From, match)
	n.Next = group.Set(n.Next, m.From, match+1)
	n = commit(n)
	if match+1 > end(n) {
		return n, nil
	}
	return n, send(n, m.From)
}
