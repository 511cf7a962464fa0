package raft

import (
	"ferrule/api"
	"ferrule/ballot"
	"ferrule/rlog"
)

// follow is the node as a follower in a term.
func follow(n api.Node, term uint64) api.Node {
	if term > n.S.Term {
		n.S.Term, n.S.Vote = term, 0
	}
	n.Role, n.Lead = api.Follower, 0
	n.Voices, n.Next, n.Match = nil, nil, nil
	return n
}

// ask asks whether the node would be elected: only then its Term rises, so that one that is cut off disturbs nobody.
func ask(n api.Node) (api.Node, []api.Message) {
	n.Role, n.Lead = api.Asking, 0
	n.Voices = []api.Voice{{Id: n.Id, Yes: true}}
	asked := request(n, api.MPreAsk, n.S.Term+1, rivals(n)...)
	n, sent := count(n)
	return n, append(asked, sent...)
}

// stand asks for votes in a new term.
func stand(n api.Node) (api.Node, []api.Message) {
	n.S.Term++
	n.S.Vote = n.Id
	n.Role, n.Lead = api.Candidate, 0
	n.Voices = []api.Voice{{Id: n.Id, Yes: true}}
	asked := request(n, api.MAsk, n.S.Term, rivals(n)...)
	n, sent := count(n)
	return n, append(asked, sent...)
}

// count does what the voices of a node that asks or stands come to.
func count(n api.Node) (api.Node, []api.Message) {
	switch ballot.Count(Conf(n), n.Voices) {
	case api.VoteWon:
		if n.Role == api.Asking {
			return stand(n)
		}
		return lead(n)
	case api.VoteLost:
		return follow(n, n.S.Term), nil
	}
	return n, nil
}

// lead makes the node a leader.
func lead(n api.Node) (api.Node, []api.Message) {
	n.Role, n.Lead, n.Voices, n.Beat = api.Leader, n.Id, nil, api.BeatTicks
	n.Next, n.Match = nil, nil
	// Entries of older terms are committed only by one of its own behind them.
	first, e := add(n, "")
	if e != api.OK {
		return follow(n, n.S.Term), nil
	}
	return spread(remark(first))
}

// say counts what a node said about the request.
func say(n api.Node, m api.Message) (api.Node, []api.Message) {
	n.Voices = ballot.Say(n.Voices, api.Voice{Id: m.From, Yes: m.Ok})
	return count(n)
}

// request has a request for the votes of several nodes in a term.
func request(n api.Node, kind int, term uint64, to ...uint64) []api.Message {
	var sent []api.Message
	for _, p := range to {
		m := message(n, kind, p)
		m.Term = term
		m.Index, m.LogTerm = rlog.Last(n.S.Log)
		sent = append(sent, m)
	}
	return sent
}

// seat is the node as one who is asked for its vote.
func seat(n api.Node) api.Seat {
	index, term := rlog.Last(n.S.Log)
	return api.Seat{Term: n.S.Term, Vote: n.S.Vote, LastTerm: term, LastIndex: index, Heard: n.Role == api.Leader || n.Heard > 0}
}

// foretell answers whether a node would get the vote.
func foretell(n api.Node, m api.Message) []api.Message {
	_, granted := ballot.Answer(seat(n), api.Ask{Term: m.Term, From: m.From, LastTerm: m.LogTerm, LastIndex: m.Index, Pre: true})
	answer := message(n, api.MPreVote, m.From)
	answer.Ok = granted
	if granted {
		answer.Term = m.Term
	}
	return []api.Message{answer}
}

// vote answers whether a node gets the vote.
func vote(n api.Node, m api.Message) (api.Node, []api.Message) {
	s, granted := ballot.Answer(seat(n), api.Ask{Term: m.Term, From: m.From, LastTerm: m.LogTerm, LastIndex: m.Index})
	if s.Term > n.S.Term {
		n = follow(n, s.Term)
	}
	n.S.Vote = s.Vote
	if granted {
		n.Wait = n.Span
	}
	answer := message(n, api.MVote, m.From)
	answer.Ok = granted
	return n, []api.Message{answer}
}

// hearForetold hears whether the node would get a vote.
func hearForetold(n api.Node, m api.Message) (api.Node, []api.Message) {
	// A Yes tells the term that was asked for, a No that of the one who says it.
	said := n.S.Term
	if m.Ok {
		said++
	}
	switch {
	case n.Role == api.Asking && m.Term == said:
		return say(n, m)
	case !m.Ok && m.Term > n.S.Term:
		return follow(n, m.Term), nil
	}
	return n, nil
}
