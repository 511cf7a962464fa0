package ballot_test

import (
	"math"
	"slices"
	"testing"

	"ferrule/api"
	"ferrule/ballot"
	"ferrule/group"
)

// asked is one call of Answer, and what it must answer.
type asked struct {
	why     string
	s       api.Seat
	a       api.Ask
	want    api.Seat
	granted bool
}

// check holds calls of Answer to what they must answer.
func check(t *testing.T, all []asked) {
	t.Helper()
	for _, x := range all {
		if s, granted := ballot.Answer(x.s, x.a); s != x.want || granted != x.granted {
			t.Errorf("%s: Answer(%+v, %+v) = %+v, %v, want %+v, %v", x.why, x.s, x.a, s, granted, x.want, x.granted)
		}
	}
}

// seat is a seat of that Term and Vote; the end of its log is the index 7 of the term 2.
func seat(term, vote uint64) api.Seat {
	return api.Seat{Term: term, Vote: vote, LastTerm: 2, LastIndex: 7}
}

// heard is the seat when it has Heard.
func heard(s api.Seat) api.Seat {
	s.Heard = true
	return s
}

// ask is a request for that term of that node, with the same end of the log as seat's.
func ask(term, from uint64) api.Ask {
	return api.Ask{Term: term, From: from, LastTerm: 2, LastIndex: 7}
}

// ends is the request with another end of the log.
func ends(a api.Ask, term, index uint64) api.Ask {
	a.LastTerm, a.LastIndex = term, index
	return a
}

// pre is the request with Pre.
func pre(a api.Ask) api.Ask {
	a.Pre = true
	return a
}

const most = math.MaxUint64

// P7.1: requests with Pre: they change nothing, whether they are granted or not.
func TestAnswerPre(t *testing.T) {
	s := seat(3, 6)
	var all []asked
	for _, x := range []struct {
		why     string
		s       api.Seat
		a       api.Ask
		granted bool
	}{
		{"of the seat's Term", s, ask(3, 5), false}, {"of the seat's Term, from its Vote", s, ask(3, 6), false}, {"of the Term above", s, ask(4, 5), true}, {"of the Term above, from its Vote", s, ask(4, 6), true}, {"far above", s, ask(most, 5), true}, {"below", s, ask(2, 5), false}, {"of 0", s, ask(0, 6), false},
		{"the same Term, with a newer log", s, ends(ask(3, 5), 9, 9), false}, {"a seat without a vote", seat(3, 0), ask(3, 5), false}, {"the Term above that of a seat without a vote", seat(3, 0), ask(4, 5), true},
		{"0 above nothing", api.Seat{}, api.Ask{From: 5}, false}, {"1 above nothing", api.Seat{}, api.Ask{Term: 1, From: 5}, true}, {"the greatest twice", seat(most, 0), ask(most, 5), false}, {"the greatest above the one below", seat(most-1, 0), ask(most, 5), true}, {"wrapped round", seat(most, 0), ask(0, 5), false}, {"2^63 above", seat(1, 0), ask(1<<63+2, 5), true}, {"2^63 below", seat(1<<63+2, 0), ask(1, 5), false},
		// A seat that has Heard.
		{"heard, above", heard(s), ask(4, 5), false}, {"heard, above, from its Vote", heard(s), ask(4, 6), false}, {"heard, the same", heard(s), ask(3, 6), false}, {"heard, below", heard(s), ask(2, 5), false}, {"heard, above, newer", heard(s), ends(ask(9, 5), 9, 9), false},
		// The requester's end of the log.
		{"older by the term", s, ends(ask(4, 5), 1, 7), false}, {"older by the term, longer", s, ends(ask(4, 5), 1, most), false}, {"older by the index", s, ends(ask(4, 5), 2, 6), false}, {"empty", s, ends(ask(4, 5), 0, 0), false}, {"newer by the index", s, ends(ask(4, 5), 2, 8), true}, {"newer by the term", s, ends(ask(4, 5), 3, 7), true}, {"newer by the term, shorter", s, ends(ask(4, 5), 3, 0), true},
		// Whom a request with Pre is from does not matter.
		{"from 0", s, ask(4, 0), true}, {"from 0, no vote", seat(3, 0), ask(4, 0), true}, {"from no node", s, ask(4, 64), true},
	} {
		all = append(all, asked{x.why, x.s, pre(x.a), x.s, x.granted})
	}
	check(t, all)
}

// P7.1: requests without Pre, by their Term: below, at and above the seat's.
func TestAnswerTerm(t *testing.T) {
	check(t, []asked{
		{"below, without a vote", seat(3, 0), ask(2, 5), seat(3, 0), false}, {"below, another's vote", seat(3, 6), ask(2, 5), seat(3, 6), false}, {"below, its vote", seat(3, 5), ask(2, 5), seat(3, 5), false}, {"below, newer", seat(3, 0), ends(ask(2, 5), 9, 9), seat(3, 0), false}, {"0 below 1", seat(1, 0), ask(0, 5), seat(1, 0), false}, {"0 below the greatest", seat(most, 0), ask(0, 5), seat(most, 0), false}, {"2^63 below", seat(1<<63+2, 0), ask(1, 5), seat(1<<63+2, 0), false},

		{"the same, without a vote", seat(3, 0), ask(3, 5), seat(3, 5), true}, {"the same, its vote", seat(3, 5), ask(3, 5), seat(3, 5), true}, {"the same, another's vote", seat(3, 6), ask(3, 5), seat(3, 6), false}, {"the same, another's vote, newer", seat(3, 6), ends(ask(3, 5), 9, 9), seat(3, 6), false}, {"0", api.Seat{}, api.Ask{From: 1}, api.Seat{Vote: 1}, true}, {"the greatest", seat(most, 0), ask(most, 63), seat(most, 63), true},

		{"above, without a vote", seat(3, 0), ask(4, 5), seat(4, 5), true}, {"above, its vote", seat(3, 5), ask(4, 5), seat(4, 5), true}, {"above, another's vote", seat(3, 6), ask(4, 5), seat(4, 5), true}, {"far above", seat(0, 6), ask(most, 5), seat(most, 5), true}, {"2^63 above", seat(1, 0), ask(1<<63+2, 5), seat(1<<63+2, 5), true},
	})
}

// P7.1: requests without Pre of a seat that has Heard: one of a Term above changes nothing; of its own Term it is as if the seat had not.
func TestAnswerHeard(t *testing.T) {
	check(t, []asked{
		{"above", heard(seat(3, 0)), ask(4, 5), heard(seat(3, 0)), false}, {"above, another's vote", heard(seat(3, 6)), ask(4, 5), heard(seat(3, 6)), false}, {"above, its vote", heard(seat(3, 5)), ask(4, 5), heard(seat(3, 5)), false}, {"far above, newer", heard(seat(3, 6)), ends(ask(most, 5), 9, 9), heard(seat(3, 6)), false}, {"above, older", heard(seat(3, 6)), ends(ask(4, 5), 0, 0), heard(seat(3, 6)), false}, {"above, from 0", heard(seat(3, 6)), ask(4, 0), heard(seat(3, 6)), false},
		{"the same, without a vote", heard(seat(3, 0)), ask(3, 5), heard(seat(3, 5)), true}, {"the same, its vote", heard(seat(3, 5)), ask(3, 5), heard(seat(3, 5)), true}, {"the same, another's vote", heard(seat(3, 6)), ask(3, 5), heard(seat(3, 6)), false}, {"the same, older", heard(seat(3, 0)), ends(ask(3, 5), 2, 6), heard(seat(3, 0)), false},
		{"below", heard(seat(3, 0)), ask(2, 5), heard(seat(3, 0)), false}, {"below, its vote", heard(seat(3, 5)), ask(2, 5), heard(seat(3, 5)), false},
	})
}

// P7.1: the end of the requester's log: what is not granted for it changes the Term and the Vote all the same where its Term is above.
func TestAnswerEnd(t *testing.T) {
	var all []asked
	for _, x := range []struct {
		why         string
		term, index uint64
		granted     bool
	}{
		{"the same", 2, 7, true}, {"older by the term", 1, 7, false}, {"older by the term, longer", 1, 8, false}, {"older by the term, longest", 1, most, false}, {"older by the index", 2, 6, false}, {"of the index 0", 2, 0, false}, {"empty", 0, 0, false},
		{"newer by the index", 2, 8, true}, {"of the greatest index", 2, most, true}, {"newer by the term", 3, 7, true}, {"newer by the term, shorter", 3, 6, true}, {"newer by the term, empty", 3, 0, true}, {"of the greatest term", most, 0, true},
	} {
		above, same, again := seat(4, 0), seat(3, 0), seat(3, 5)
		if x.granted {
			above, same = seat(4, 5), seat(3, 5)
		}
		for _, vote := range []uint64{0, 5, 6} {
			all = append(all, asked{x.why + ", above", seat(3, vote), ends(ask(4, 5), x.term, x.index), above, x.granted})
		}
		all = append(all, asked{x.why + ", the same Term", seat(3, 0), ends(ask(3, 5), x.term, x.index), same, x.granted},
			asked{x.why + ", its vote", seat(3, 5), ends(ask(3, 5), x.term, x.index), again, x.granted},
			asked{x.why + ", another's vote", seat(3, 6), ends(ask(3, 5), x.term, x.index), seat(3, 6), false},
			asked{x.why + ", below", seat(3, 0), ends(ask(2, 5), x.term, x.index), seat(3, 0), false})
	}
	check(t, all)
}

// P7.1: From 0 gets no vote, but its Term counts; other numbers that no node has are as good as any.
func TestAnswerFrom(t *testing.T) {
	check(t, []asked{
		{"0, the same Term", seat(3, 0), ask(3, 0), seat(3, 0), false}, {"0, another's vote", seat(3, 6), ask(3, 0), seat(3, 6), false}, {"0, newer", seat(3, 0), ends(ask(3, 0), 9, 9), seat(3, 0), false}, {"0, above", seat(3, 0), ask(4, 0), seat(4, 0), false}, {"0, above, another's vote", seat(3, 6), ask(4, 0), seat(4, 0), false}, {"0, above, older", seat(3, 6), ends(ask(4, 0), 0, 0), seat(4, 0), false}, {"0, below", seat(3, 6), ask(2, 0), seat(3, 6), false}, {"0 of nothing", api.Seat{}, api.Ask{}, api.Seat{}, false},
		{"64", seat(3, 0), ask(4, 64), seat(4, 64), true}, {"the greatest", seat(3, 0), ask(3, most), seat(3, most), true}, {"the greatest again", seat(3, most), ask(3, most), seat(3, most), true}, {"2^32 more than the vote's", seat(3, 5), ask(3, 1<<32+5), seat(3, 5), false}, {"5, 2^32 less than the vote's", seat(3, 1<<32+5), ask(3, 5), seat(3, 1<<32+5), false},
	})
}

// P7.1: the chapter's example.
func TestAnswerExample(t *testing.T) {
	s := api.Seat{Term: 3, LastTerm: 1, LastIndex: 2}
	s, granted := ballot.Answer(s, api.Ask{Term: 4, From: 5, LastTerm: 1, LastIndex: 2})
	if want := (api.Seat{Term: 4, Vote: 5, LastTerm: 1, LastIndex: 2}); s != want || !granted {
		t.Errorf("%+v, %v", s, granted)
	}
	if again, granted := ballot.Answer(s, api.Ask{Term: 4, From: 6, LastTerm: 1, LastIndex: 2}); again != s || granted {
		t.Errorf("%+v, %v", again, granted)
	}
}

// seats are all seats whose numbers are below so many.
func seats(below uint64) []api.Seat {
	var all []api.Seat
	for term := range below {
		for vote := range below {
			for lastTerm := range below {
				for lastIndex := range below {
					s := api.Seat{Term: term, Vote: vote, LastTerm: lastTerm, LastIndex: lastIndex}
					all = append(all, s, heard(s))
				}
			}
		}
	}
	return all
}

// asks are all requests whose numbers are below so many.
func asks(below uint64) []api.Ask {
	var all []api.Ask
	for _, s := range seats(below) {
		all = append(all, api.Ask{Term: s.Term, From: s.Vote, LastTerm: s.LastTerm, LastIndex: s.LastIndex, Pre: s.Heard})
	}
	return all
}

// plainAnswer is P7.1, word by word.
func plainAnswer(s api.Seat, a api.Ask) (api.Seat, bool) {
	atLeastAsNew := a.LastTerm > s.LastTerm
	if a.LastTerm == s.LastTerm {
		atLeastAsNew = a.LastIndex >= s.LastIndex
	}
	if a.Pre {
		if a.Term <= s.Term || s.Heard {
			return s, false
		}
		return s, atLeastAsNew
	}
	if a.Term < s.Term {
		return s, false
	}
	if a.Term != s.Term {
		if s.Heard {
			return s, false
		}
		s = api.Seat{Term: a.Term, LastTerm: s.LastTerm, LastIndex: s.LastIndex}
	}
	if a.From == 0 || s.Vote != 0 && s.Vote != a.From || !atLeastAsNew {
		return s, false
	}
	s.Vote = a.From
	return s, true
}

// P7.1: all small seats and requests, held against the promise's words.
func TestAnswerIsPlain(t *testing.T) {
	few := asks(3)
	for _, s := range seats(3) {
		for _, a := range few {
			got, granted := ballot.Answer(s, a)
			if want, ok := plainAnswer(s, a); got != want || granted != ok {
				t.Fatalf("Answer(%+v, %+v) = %+v, %v, want %+v, %v", s, a, got, granted, want, ok)
			}
		}
	}
}

// yes, and no, are voices.
func yes(id uint64) api.Voice { return api.Voice{Id: id, Yes: true} }
func no(id uint64) api.Voice  { return api.Voice{Id: id} }

// voices is a list of them.
func voices(l ...api.Voice) []api.Voice { return l }

// P7.2: Say appends the voice of a node that has none, and no other.
func TestSay(t *testing.T) {
	for _, x := range []struct {
		l    []api.Voice
		v    api.Voice
		want []api.Voice
	}{
		{nil, yes(3), voices(yes(3))}, {nil, no(3), voices(no(3))}, {voices(), api.Voice{}, voices(no(0))}, {nil, yes(most), voices(yes(most))},
		{voices(yes(1)), yes(3), voices(yes(1), yes(3))}, {voices(yes(3), no(2)), no(1), voices(yes(3), no(2), no(1))}, {voices(no(0)), no(64), voices(no(0), no(64))}, {voices(no(1), yes(2)), yes(1<<32 + 1), voices(no(1), yes(2), yes(1<<32+1))},
		// A node that has a voice already, with the same Yes or the other one.
		{voices(yes(3)), yes(3), voices(yes(3))}, {voices(yes(3)), no(3), voices(yes(3))}, {voices(no(3)), yes(3), voices(no(3))}, {voices(no(3)), no(3), voices(no(3))}, {voices(no(0)), yes(0), voices(no(0))},
		{voices(yes(1), no(2), yes(3)), yes(1), voices(yes(1), no(2), yes(3))}, {voices(yes(1), no(2), yes(3)), yes(2), voices(yes(1), no(2), yes(3))}, {voices(yes(1), no(2), yes(3)), no(3), voices(yes(1), no(2), yes(3))},
		// A list in which a node has two already.
		{voices(yes(1), no(1)), yes(1), voices(yes(1), no(1))}, {voices(yes(1), no(1), yes(2)), no(2), voices(yes(1), no(1), yes(2))}, {voices(yes(1), no(1)), no(2), voices(yes(1), no(1), no(2))},
	} {
		if l := ballot.Say(x.l, x.v); !slices.Equal(l, x.want) {
			t.Errorf("Say(%v, %v) = %v, want %v", x.l, x.v, l, x.want)
		}
	}
}

// P7.2: Say again and again: the list has the first voice of each node, in the order in which they came.
func TestSayKeepsTheFirst(t *testing.T) {
	var l []api.Voice
	for round := range uint64(3) {
		for id := range uint64(200) {
			l = ballot.Say(l, api.Voice{Id: id, Yes: (id+round)%2 == 0})
		}
	}
	if len(l) != 200 {
		t.Fatalf("%d voices", len(l))
	}
	for i, v := range l {
		if want := (api.Voice{Id: uint64(i), Yes: i%2 == 0}); v != want {
			t.Errorf("voice %d is %v", i, v)
		}
	}
}

// upTo is the list 1, 2, .., n.
func upTo(n int) []uint64 {
	var l []uint64
	for i := range n {
		l = append(l, uint64(i)+1)
	}
	return l
}

// of is a configuration with these Voters and no Learners.
func of(voters ...uint64) api.Conf { return api.Conf{Voters: voters} }

// P7.2: Count, with just as many Yes or No as decide and one fewer, of every number of Voters.
func TestCountDecides(t *testing.T) {
	for n := range api.MaxVoters + 3 {
		c := api.Conf{Voters: upTo(n), Learners: []uint64{61, 62, 63}}
		for ayes := range n + 1 {
			for noes := range n + 1 - ayes {
				var l []api.Voice
				for id := range uint64(ayes) {
					l = append(l, yes(id+1))
				}
				for id := range uint64(noes) {
					l = append(l, no(uint64(ayes)+id+1))
				}
				want := api.VoteOpen
				if 2*ayes > n {
					want = api.VoteWon
				} else if 2*(n-noes) <= n {
					want = api.VoteLost
				}
				back := slices.Clone(l)
				slices.Reverse(back)
				for _, l := range [][]api.Voice{l, back, slices.Repeat(l, 2)} {
					if got := ballot.Count(c, l); got != want {
						t.Errorf("Count of %d Voters, %d Yes, %d No (%v) = %d, want %d", n, ayes, noes, l, got, want)
					}
				}
			}
		}
	}
}

// P7.2: Count of voices that come twice, of nodes that are no voters, and without voters.
func TestCount(t *testing.T) {
	three := api.Conf{Voters: []uint64{1, 2, 3}, Learners: []uint64{5, 6}}
	for _, x := range []struct {
		c    api.Conf
		l    []api.Voice
		want int
	}{
		{three, nil, api.VoteOpen}, {three, voices(), api.VoteOpen}, {three, voices(yes(2)), api.VoteOpen}, {three, voices(no(2)), api.VoteOpen}, {three, voices(no(2), yes(1)), api.VoteOpen}, {three, voices(yes(3), yes(1)), api.VoteWon}, {three, voices(no(3), no(1)), api.VoteLost}, {three, voices(no(3), yes(1), yes(2)), api.VoteWon}, {three, voices(yes(3), no(1), no(2)), api.VoteLost},
		// A voice that comes twice: the first counts.
		{three, voices(yes(1), yes(1)), api.VoteOpen}, {three, voices(no(1), no(1)), api.VoteOpen}, {three, voices(yes(1), no(1), no(3)), api.VoteOpen}, {three, voices(yes(1), no(1), no(3), no(2)), api.VoteLost}, {three, voices(no(1), yes(1), yes(3)), api.VoteOpen}, {three, voices(no(1), yes(1), yes(3), yes(2)), api.VoteWon}, {three, voices(no(1), yes(1), no(3), yes(3), yes(2)), api.VoteLost}, {three, voices(yes(1), no(1), yes(3), no(3), no(2)), api.VoteWon}, {three, voices(yes(1), no(1), yes(1), no(1), no(2)), api.VoteOpen}, {three, voices(no(1), yes(1), no(1), yes(2)), api.VoteOpen},
		// Nodes that are no voters.
		{three, voices(yes(5), yes(6)), api.VoteOpen}, {three, voices(no(5), no(6), no(4), no(0)), api.VoteOpen}, {three, voices(yes(4), yes(1)), api.VoteOpen}, {three, voices(no(4), no(1)), api.VoteOpen}, {three, voices(no(5), yes(1), no(6), yes(2), no(7)), api.VoteWon}, {three, voices(yes(5), no(1), yes(6), no(2), yes(7)), api.VoteLost}, {three, voices(yes(0), yes(64), yes(most), yes(1<<32+1), yes(1<<32+2)), api.VoteOpen}, {three, voices(no(0), no(64), no(most), no(1<<32+1), no(1<<32+2)), api.VoteOpen},
		// One voter, and two.
		{of(4), nil, api.VoteOpen}, {of(4), voices(yes(4)), api.VoteWon}, {of(4), voices(no(4)), api.VoteLost}, {of(4), voices(no(4), yes(4)), api.VoteLost}, {of(4), voices(yes(4), no(4)), api.VoteWon}, {of(4), voices(yes(1), no(2)), api.VoteOpen}, {of(4, 9), voices(yes(9)), api.VoteOpen}, {of(4, 9), voices(no(9)), api.VoteLost}, {of(4, 9), voices(yes(4), no(9)), api.VoteLost}, {of(4, 9), voices(yes(9), yes(4)), api.VoteWon},
		// No voters: no majority is possible.
		{api.Conf{}, nil, api.VoteLost}, {api.Conf{}, voices(yes(1), yes(2)), api.VoteLost}, {api.Conf{}, voices(no(0)), api.VoteLost}, {api.Conf{Learners: []uint64{1}}, voices(yes(1)), api.VoteLost},
		// Configurations that are not valid for other reasons.
		{of(0), nil, api.VoteOpen}, {of(0), voices(yes(0)), api.VoteWon}, {of(0), voices(no(0)), api.VoteLost}, {of(3, 1, 2), voices(yes(2), yes(3)), api.VoteWon}, {of(99, 98, 97), voices(no(98), no(97)), api.VoteLost}, {api.Conf{Voters: []uint64{1, 2, 3}, Learners: []uint64{1, 2}}, voices(yes(1), yes(2)), api.VoteWon}, {of(upTo(20)...), voices(yes(1), yes(20), no(3)), api.VoteOpen},
		{of(1, 1, 2), voices(yes(1)), api.VoteOpen}, {of(1, 1, 2), voices(yes(1), yes(2)), api.VoteWon}, {of(1, 1, 2), voices(no(1)), api.VoteLost}, {of(1, 1, 2), voices(no(2)), api.VoteOpen}, {of(1, 1), voices(yes(1)), api.VoteOpen}, {of(1, 1), voices(no(1)), api.VoteLost},
	} {
		if got := ballot.Count(x.c, x.l); got != x.want {
			t.Errorf("Count(%v, %v) = %d, want %d", x.c, x.l, got, x.want)
		}
	}
}

// lists are all lists of at most so many of the voices.
func lists(most int, of ...api.Voice) [][]api.Voice {
	all := [][]api.Voice{nil}
	for from := 0; from < len(all) && len(all[from]) < most; from++ {
		for _, v := range of {
			all = append(all, append(slices.Clone(all[from]), v))
		}
	}
	return all
}

// plainCount is P7.2, word by word, for voters who stand there once each.
func plainCount(c api.Conf, l []api.Voice) int {
	ayes, noes := 0, 0
	for _, id := range c.Voters {
		i := slices.IndexFunc(l, func(v api.Voice) bool { return v.Id == id })
		if i >= 0 && l[i].Yes {
			ayes++
		} else if i >= 0 {
			noes++
		}
	}
	need := len(c.Voters)/2 + 1
	if ayes >= need {
		return api.VoteWon
	}
	if len(c.Voters)-noes < need {
		return api.VoteLost
	}
	return api.VoteOpen
}

// P7.2: Say and Count of all short lists, held against the promise's words; and a list to which Say alone appended counts as the one that has all voices.
func TestVoicesArePlain(t *testing.T) {
	some := voices(yes(1), no(1), yes(2), no(2), yes(3), no(3), yes(4), no(4))
	for _, l := range lists(5, some...) {
		var said []api.Voice
		for i, v := range l {
			want := said
			if !slices.ContainsFunc(l[:i], func(x api.Voice) bool { return x.Id == v.Id }) {
				want = append(slices.Clone(said), v)
			}
			if said = ballot.Say(said, v); !slices.Equal(said, want) {
				t.Fatalf("Say of %v, one by one: %v, want %v", l[:i+1], said, want)
			}
		}
		for _, c := range []api.Conf{{}, of(2), of(1, 2), of(1, 2, 3), of(1, 2, 5), of(1, 2, 3, 4)} {
			got, want := ballot.Count(c, l), plainCount(c, l)
			if got != want || ballot.Count(c, said) != want {
				t.Fatalf("Count(%v, %v) = %d, of Say's list %d, want %d", c, l, got, ballot.Count(c, said), want)
			}
		}
	}
}

// P7.2, R3: Say writes to no list that it was given, nor into another answer, not even into the room behind a list.
func TestSayLeavesItsArguments(t *testing.T) {
	all := voices(yes(4), no(2), yes(8), no(6))
	given := all[:2]
	a, b := ballot.Say(given, yes(3)), ballot.Say(given, no(5))
	c, d := ballot.Say(a, yes(7)), ballot.Say(a, no(9))
	none := ballot.Say(given, no(4))
	none[0], c[1] = yes(77), yes(77)
	_ = append(none, yes(77), yes(77))
	for _, x := range []struct {
		name      string
		got, want []api.Voice
	}{
		{"the argument", all, voices(yes(4), no(2), yes(8), no(6))}, {"an answer", a, voices(yes(4), no(2), yes(3))}, {"another answer", b, voices(yes(4), no(2), no(5))}, {"one behind it", d, voices(yes(4), no(2), yes(3), no(9))},
	} {
		if !slices.Equal(x.got, x.want) {
			t.Errorf("%s became %v, want %v", x.name, x.got, x.want)
		}
	}
}

// P7.2, R3, R4: Count writes to nothing that it was given, and answers the same again.
func TestCountLeavesItsArguments(t *testing.T) {
	c := api.Conf{Voters: []uint64{7, 3, 5, 3}, Learners: []uint64{9, 2}}
	l := voices(no(9), yes(5), no(5), no(3), yes(3), yes(7), yes(1))
	for range 50 {
		if n := ballot.Count(c, l); n != api.VoteLost {
			t.Fatalf("Count = %d", n)
		}
	}
	if !slices.Equal(c.Voters, []uint64{7, 3, 5, 3}) || !slices.Equal(c.Learners, []uint64{9, 2}) || !slices.Equal(l, voices(no(9), yes(5), no(5), no(3), yes(3), yes(7), yes(1))) {
		t.Errorf("the arguments became %v, %v", c, l)
	}
}

// P7.3: one seat, asked in every order and however often: in one term at most one node's requests are granted, and the Term never decreases.
func TestSeatGrantsOnce(t *testing.T) {
	type state struct {
		s       api.Seat
		granted [4]uint64 // by the term: whose request was; 0: nobody's
	}
	var requests []api.Ask
	for _, a := range asks(4) {
		if a.LastTerm <= 2 && a.LastIndex <= 1 {
			requests = append(requests, a)
		}
	}
	start := state{s: api.Seat{LastTerm: 1, LastIndex: 1}}
	seen := map[state]bool{start: true}
	for work := []state{start}; len(work) > 0; work = work[1:] {
		now := work[0]
		if now.granted[now.s.Term] != now.s.Vote {
			t.Fatalf("%+v: its Vote is not the one that was granted", now)
		}
		loud, quiet := now, now
		loud.s.Heard, quiet.s.Heard = true, false
		next := []state{loud, quiet}
		for _, a := range requests {
			after := now
			granted := false
			after.s, granted = ballot.Answer(now.s, a)
			if after.s.Term < now.s.Term {
				t.Fatalf("Answer(%+v, %+v): the Term decreases: %+v", now.s, a, after.s)
			}
			if granted && !a.Pre {
				if g := now.granted[a.Term]; a.From == 0 || g != 0 && g != a.From {
					t.Fatalf("%+v was granted, though %d was in this term", a, g)
				}
				after.granted[a.Term] = a.From
			}
			next = append(next, after)
		}
		for _, n := range next {
			if !seen[n] {
				seen[n] = true
				work = append(work, n)
			}
		}
	}
	if len(seen) < 100 {
		t.Errorf("only %d states were seen", len(seen))
	}
}

// P7.3: two nodes that were each granted by a majority in the same term are the same node: three voters, asked in every order and however often, with logs of which some are newer.
func TestOneNodeWins(t *testing.T) {
	type state struct {
		seats   [3]api.Seat
		granted [3][3][4]bool // by the seat, the term and the node
	}
	c := of(1, 2, 3)
	start := state{seats: [3]api.Seat{{LastTerm: 1, LastIndex: 1}, {LastTerm: 1, LastIndex: 2}, {LastTerm: 1, LastIndex: 1}}}
	seen := map[state]bool{start: true}
	won := [4]int{}
	for work := []state{start}; len(work) > 0; work = work[1:] {
		now := work[0]
		for term := range 3 {
			winners := 0
			for from := range 4 {
				var l []api.Voice
				for i := range now.seats {
					l = append(l, api.Voice{Id: c.Voters[i], Yes: now.granted[i][term][from]})
				}
				if ballot.Count(c, l) == api.VoteWon {
					winners++
					won[from]++
				}
			}
			if winners > 1 {
				t.Fatalf("%+v: %d nodes win in the term %d", now, winners, term)
			}
		}
		for i := range now.seats {
			for term := range uint64(3) {
				for from := range uint64(4) {
					end := start.seats[max(from, 1)-1]
					after := now
					ok := false
					after.seats[i], ok = ballot.Answer(now.seats[i], api.Ask{Term: term, From: from, LastTerm: end.LastTerm, LastIndex: end.LastIndex})
					after.granted[i][term][from] = after.granted[i][term][from] || ok
					if !seen[after] {
						seen[after] = true
						work = append(work, after)
					}
				}
			}
		}
	}
	if won[0] > 0 || won[1] == 0 || won[2] == 0 || won[3] == 0 {
		t.Errorf("who won how often: %d", won)
	}
}

// P7.3: a node that a majority granted its request has a log at least as new as some majority's: what layer 8 leans on.
func TestWinnerIsNew(t *testing.T) {
	c := of(1, 2, 3, 4, 5)
	for end := range uint64(6) {
		var ids []uint64
		var l []api.Voice
		for i, id := range c.Voters {
			_, ok := ballot.Answer(api.Seat{Term: 1, LastTerm: 1, LastIndex: uint64(i) + 1}, api.Ask{Term: 2, From: 1, LastTerm: 1, LastIndex: end})
			l = ballot.Say(l, api.Voice{Id: id, Yes: ok})
			if uint64(i)+1 <= end {
				ids = append(ids, id)
			}
		}
		if won := ballot.Count(c, l) == api.VoteWon; won != group.Most(c, ids) {
			t.Errorf("the end %d: %v", end, l)
		}
	}
}
