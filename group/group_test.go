package group_test

import (
	"math"
	"slices"
	"strings"
	"testing"

	"ferrule/api"
	"ferrule/group"
)

// ids is a list of numbers.
func ids(l ...uint64) []uint64 { return l }

// upTo is the list 1, 2, .., n.
func upTo(n int) []uint64 {
	var l []uint64
	for i := range n {
		l = append(l, uint64(i)+1)
	}
	return l
}

// of is a configuration with these Voters and no Learners.
func of(voters ...uint64) api.Conf { return api.Conf{Voters: voters} }

// and is the configuration with these Learners.
func and(c api.Conf, learners ...uint64) api.Conf {
	c.Learners = learners
	return c
}

// same: are two configurations equal? Lists are if their elements are.
func same(a, b api.Conf) bool {
	return slices.Equal(a.Voters, b.Voters) && slices.Equal(a.Learners, b.Learners)
}

// lists are all lists of at most so many of the numbers.
func lists(most int, numbers ...uint64) [][]uint64 {
	all := [][]uint64{nil}
	for from := 0; from < len(all) && len(all[from]) < most; from++ {
		for _, v := range numbers {
			all = append(all, append(slices.Clone(all[from]), v))
		}
	}
	return all
}

// subsets are all lists whose elements are some of l's, in l's order.
func subsets(l []uint64) [][]uint64 {
	var all [][]uint64
	for bits := range 1 << len(l) {
		var s []uint64
		for i, v := range l {
			if bits>>i&1 == 1 {
				s = append(s, v)
			}
		}
		all = append(all, s)
	}
	return all
}

// count is how often a list has a number.
func count(l []uint64, v uint64) int {
	n := 0
	for _, x := range l {
		if x == v {
			n++
		}
	}
	return n
}

// plainMay is May by the chapter's Words: the valid configurations' lists are those that have each of their numbers once, in order.
func plainMay(c api.Conf) bool {
	for _, l := range [][]uint64{c.Voters, c.Learners} {
		if !slices.IsSorted(l) {
			return false
		}
	}
	for _, v := range slices.Concat(c.Voters, c.Learners) {
		if v < 1 || v > 63 || count(c.Voters, v)+count(c.Learners, v) != 1 {
			return false
		}
	}
	return len(c.Voters) >= 1 && len(c.Voters) <= 7 && len(c.Learners) <= 3
}

// sized are valid configurations of every number of Voters and of Learners, spread over the numbers in several ways.
func sized() []api.Conf {
	var all []api.Conf
	for voters := 1; voters <= api.MaxVoters; voters++ {
		for learners := range api.MaxLearners + 1 {
			n := voters + learners
			for _, step := range []uint64{1, 2, 6} {
				// first Voters, then Learners; the other way round; in turn.
				var a, b, c api.Conf
				for i := range n {
					id := 1 + uint64(i)*step
					if i < voters {
						a.Voters = append(a.Voters, id)
					} else {
						a.Learners = append(a.Learners, id)
					}
					if i < learners {
						b.Learners = append(b.Learners, api.MaxId-uint64(n-1-i)*step)
					} else {
						b.Voters = append(b.Voters, api.MaxId-uint64(n-1-i)*step)
					}
					if i%2 == 1 && len(c.Learners) < learners || len(c.Voters) == voters {
						c.Learners = append(c.Learners, id+1)
					} else {
						c.Voters = append(c.Voters, id+1)
					}
				}
				all = append(all, a, b, c)
			}
		}
	}
	return all
}

// invalid is a configuration that is not valid, and why.
type invalid struct {
	why string
	c   api.Conf
}

// wrong are configurations that are not valid, most of them for one reason only.
func wrong() []invalid {
	all := []invalid{
		{"nothing", api.Conf{}},
		{"lists without elements", api.Conf{Voters: []uint64{}, Learners: []uint64{}}},
		{"no Voters", and(of(), 1)},
		{"no Voters, MaxLearners Learners", and(of(), 1, 2, 3)},
		{"one Voter too many", of(upTo(api.MaxVoters + 1)...)},
		{"twice as many Voters", of(upTo(2 * api.MaxVoters)...)},
		{"all numbers", of(upTo(api.MaxId)...)},
		{"one Learner too many", and(of(9), 1, 2, 3, 4)},
		{"many Learners", and(of(1), 2, 3, 4, 5, 6, 7, 8, 9)},
	}
	for _, x := range []struct {
		why string
		l   []uint64
	}{
		{"0", ids(0)}, {"0 ahead of another one", ids(0, 2)}, {"MaxId + 1", ids(api.MaxId + 1)}, {"MaxId + 1 behind others", ids(4, api.MaxId, api.MaxId+1)}, {"2^32 + 1", ids(1<<32 + 1)}, {"2^63", ids(1 << 63)}, {"the greatest", ids(math.MaxUint64)},
		{"twice the same", ids(3, 3)}, {"twice the same behind another one", ids(1, 3, 3)}, {"descending", ids(4, 3)}, {"descending at the end", ids(2, 4, 3)}, {"descending at the beginning", ids(4, 2, 5)}, {"the same again, later", ids(2, 3, 2)},
	} {
		all = append(all, invalid{"Voters: " + x.why, of(x.l...)}, invalid{"Voters, beside Learners: " + x.why, and(of(x.l...), 50, 51)}, invalid{"Learners: " + x.why, and(of(50, 51), x.l...)})
	}
	for _, x := range []api.Conf{and(of(5), 5), and(of(1, 2, 3), 1), and(of(1, 2, 3), 2), and(of(1, 2, 3), 3), and(of(1, 5), 2, 5), and(of(5, 9), 2, 5, 7), and(of(4, 9), 9, 10)} {
		all = append(all, invalid{"a number in both lists", x})
	}
	return all
}

// P6.1: May of configurations that are valid: at the edges of numbers and of lengths.
func TestMay(t *testing.T) {
	for _, c := range append(sized(), of(1), of(api.MaxId), of(1, api.MaxId), of(upTo(api.MaxVoters)...), and(of(1), 2), and(of(2), 1), and(of(3), 1, api.MaxId), and(of(api.MaxId), 1, 2, 3), and(of(upTo(api.MaxVoters)...), 61, 62, 63), and(of(1, 3, 5), 2, 4, 6), api.Conf{Voters: ids(1), Learners: []uint64{}}) {
		if !group.May(c) {
			t.Errorf("May(%v) = false", c)
		}
	}
}

// P6.1: May of configurations that are not valid.
func TestMayNot(t *testing.T) {
	for _, x := range wrong() {
		if group.May(x.c) {
			t.Errorf("%s: May(%v) = true", x.why, x.c)
		}
	}
	for n := range 100 {
		if n > api.MaxVoters && group.May(of(upTo(n)...)) || n > api.MaxLearners && group.May(and(of(5000), upTo(n)...)) {
			t.Errorf("May of %d members = true", n)
		}
	}
}

// P6.1: May of all small lists, held against the Words.
func TestMayIsPlain(t *testing.T) {
	few := lists(3, 0, 1, 2, 62, 63, 64)
	for _, voters := range few {
		for _, learners := range few {
			c := and(of(voters...), learners...)
			if group.May(c) != plainMay(c) {
				t.Fatalf("May(%v) = %v", c, !plainMay(c))
			}
		}
	}
	for bits := range 1 << 10 {
		var c api.Conf
		for i := range uint64(10) {
			if bits>>i&1 == 1 {
				c.Voters = append(c.Voters, i+1)
			} else {
				c.Learners = append(c.Learners, i+1)
			}
		}
		for n := range len(c.Learners) + 1 {
			c := and(c, c.Learners[:n]...)
			if group.May(c) != plainMay(c) {
				t.Fatalf("May(%v) = %v", c, !plainMay(c))
			}
		}
	}
}

// P6.1: Need, whatever the Voters' numbers are.
func TestNeed(t *testing.T) {
	for voters, want := range []int{1, 1, 2, 2, 3, 3, 4, 4, 5, 5, 6} {
		for learners := range 5 {
			c := and(of(upTo(voters)...), upTo(learners)...)
			if n := group.Need(c); n != want {
				t.Errorf("Need of %d Voters and %d Learners = %d, want %d", voters, learners, n, want)
			}
		}
		if n := group.Need(of(slices.Repeat(ids(99), voters)...)); n != want {
			t.Errorf("Need of %d times the same Voter = %d, want %d", voters, n, want)
		}
	}
	if n := group.Need(of(upTo(1001)...)); n != 501 {
		t.Errorf("Need of 1001 Voters = %d", n)
	}
}

// P6.1: Most: each number counts once, and only Voters count.
func TestMost(t *testing.T) {
	three := and(of(1, 2, 3), 5, 6)
	for _, x := range []struct {
		c    api.Conf
		ids  []uint64
		want bool
	}{
		{three, nil, false}, {three, []uint64{}, false}, {three, ids(1), false}, {three, ids(3), false}, {three, ids(1, 2), true}, {three, ids(3, 1), true}, {three, ids(2, 3), true}, {three, ids(3, 2, 1), true},
		// A number that stands there twice.
		{three, ids(1, 1), false}, {three, ids(3, 3, 3, 3), false}, {three, ids(1, 1, 2), true}, {three, ids(1, 2, 1), true}, {three, ids(2, 1, 1, 2), true},
		// Learners, and nodes that are neither.
		{three, ids(5, 6), false}, {three, ids(1, 5), false}, {three, ids(5, 1, 6), false}, {three, ids(5, 1, 6, 2), true}, {three, ids(0, 4, 7, 64, math.MaxUint64), false}, {three, ids(1, 4), false}, {three, ids(4, 2, 0, 3), true}, {three, ids(1, 1+1<<32, 1+1<<63), false},
		{of(1), nil, false}, {of(1), ids(2), false}, {of(1), ids(1), true}, {of(1), ids(2, 1, 1), true}, {of(1, 2), ids(1), false}, {of(1, 2), ids(2, 2), false}, {of(1, 2), ids(2, 1), true},
		{of(1, 2, 3, 4), ids(1, 2), false}, {of(1, 2, 3, 4), ids(4, 2, 4), false}, {of(1, 2, 3, 4), ids(4, 2, 1), true},
		{of(10, 20, 30, 40, 50, 60, 63), ids(10, 20, 30), false}, {of(10, 20, 30, 40, 50, 60, 63), ids(63, 20, 40, 60), true}, {of(10, 20, 30, 40, 50, 60, 63), ids(63, 20, 40, 63, 20, 40, 63), false},
		// Configurations that are not valid.
		{of(), nil, false}, {of(), ids(1, 2, 3), false}, {and(of(), 1), ids(1), false}, {of(0), ids(0), true}, {of(3, 1, 2), ids(2, 3), true}, {of(99, 98), ids(98), false}, {of(99, 98), ids(98, 99), true}, {and(of(1, 2, 3), 1, 2), ids(1, 2), true},
		{of(1, 1, 2), ids(1), false}, {of(1, 1, 2), ids(1, 1), false}, {of(1, 1, 2), ids(2, 1), true}, {of(1, 1), ids(1, 1), false}, {of(1, 1, 2, 2, 3), ids(1, 2), false}, {of(1, 1, 2, 2, 3), ids(1, 2, 3), true},
	} {
		if group.Most(x.c, x.ids) != x.want {
			t.Errorf("Most(%v, %d) = %v", x.c, x.ids, !x.want)
		}
	}
}

// P6.1: Most of every set of nodes, told in several ways.
func TestMostIsPlain(t *testing.T) {
	for _, c := range sized() {
		members := slices.Concat(c.Voters, c.Learners, ids(0, 64))
		for _, s := range subsets(members) {
			n := 0
			for _, v := range s {
				n += count(c.Voters, v)
			}
			want := 2*n > len(c.Voters)
			back := slices.Clone(s)
			slices.Reverse(back)
			for _, l := range [][]uint64{s, back, slices.Concat(s, back), slices.Repeat(s, 3)} {
				if group.Most(c, l) != want {
					t.Fatalf("Most(%v, %d) = %v", c, l, !want)
				}
			}
		}
	}
}

// marks are marks of these numbers for these nodes.
func marks(ids []uint64, numbers ...uint64) []api.Mark {
	var l []api.Mark
	for i, n := range numbers {
		l = append(l, api.Mark{Id: ids[i], N: n})
	}
	return l
}

// P6.2: Agreed of marks of all Voters, of some, and of others.
func TestAgreed(t *testing.T) {
	three := and(of(1, 2, 3), 5)
	for _, x := range []struct {
		c    api.Conf
		l    []api.Mark
		want uint64
	}{
		{three, marks(ids(1, 2, 3), 5, 9, 7), 7}, {three, marks(ids(3, 1, 2), 5, 9, 7), 7}, {three, marks(ids(2, 3, 1), 7, 7, 7), 7}, {three, marks(ids(1, 2, 3), 7, 7, 0), 7}, {three, marks(ids(1, 2, 3), 0, 7, 0), 0},
		// Voters without a mark.
		{three, nil, 0}, {three, marks(ids(1), 5), 0}, {three, marks(ids(1, 2), 5, 9), 5}, {three, marks(ids(3, 1), 9, 9), 9}, {of(1), nil, 0}, {of(1, 2, 3, 4, 5), marks(ids(5, 3), 8, 9), 0}, {of(1, 2, 3, 4, 5), marks(ids(5, 3, 1), 8, 9, 6), 6},
		// Marks of Learners and of nodes that are neither.
		{three, marks(ids(5), 9), 0}, {three, marks(ids(5, 1), 9, 9), 0}, {three, marks(ids(5, 1, 0, 4, 64), 9, 9, 9, 9, 9), 0}, {three, marks(ids(5, 1, 4, 2), 9, 6, 8, 3), 3},
		// Marks of which two have one Id: the first counts.
		{three, marks(ids(1, 1, 2, 3), 5, 9, 8, 0), 5}, {three, marks(ids(1, 1, 2), 9, 5, 8), 8}, {three, marks(ids(1, 1), 9, 9), 0}, {three, marks(ids(2, 1, 1, 2), 3, 4, 9, 9), 3}, {of(1), marks(ids(1, 1), 2, 7), 2}, {of(1), marks(ids(1, 1), 0, 7), 0},
		// Numbers of any size.
		{three, marks(ids(1, 2, 3), math.MaxUint64, 1<<63, 1), 1 << 63}, {three, marks(ids(1, 2, 3), 1, math.MaxUint64, math.MaxUint64), math.MaxUint64}, {three, marks(ids(1, 2, 3), 0, 1, 1<<63), 1},
		// Every number of Voters.
		{of(4), marks(ids(4), 6), 6}, {of(4, 5), marks(ids(4, 5), 6, 8), 6}, {of(4, 5), marks(ids(4, 5), 8, 6), 6}, {of(1, 2, 3, 4), marks(upTo(4), 4, 3, 2, 1), 2}, {of(1, 2, 3, 4, 5), marks(upTo(5), 4, 3, 2, 1, 5), 3}, {of(1, 2, 3, 4, 5, 6), marks(upTo(6), 4, 3, 2, 1, 5, 6), 3}, {of(1, 2, 3, 4, 5, 6, 7), marks(upTo(7), 4, 3, 2, 1, 5, 6, 7), 4},
		// Configurations that are not valid.
		{of(), nil, 0}, {of(), marks(ids(1), 5), 0}, {and(of(), 1, 2), marks(ids(1, 2), 5, 5), 0}, {of(3, 1, 2), marks(ids(1, 2, 3), 5, 9, 7), 7}, {of(0, 99), marks(ids(99, 0), 5, 9), 5}, {of(1, 1, 2), marks(ids(1, 2), 5, 9), 5}, {of(1, 2, 2), marks(ids(1, 2), 5, 9), 9}, {of(1, 1), marks(ids(1), 5), 5},
		{of(upTo(9)...), marks(upTo(9), 9, 8, 7, 6, 5, 4, 3, 2, 1), 5}, {of(upTo(20)...), marks(upTo(11), 9, 9, 9, 9, 9, 9, 9, 9, 9, 9, 3), 3},
	} {
		if n := group.Agreed(x.c, x.l); n != x.want {
			t.Errorf("Agreed(%v, %v) = %d, want %d", x.c, x.l, n, x.want)
		}
	}
}

// numberings are all ways to give so many nodes numbers below most.
func numberings(nodes int, most uint64) [][]uint64 {
	all := [][]uint64{nil}
	for range nodes {
		var longer [][]uint64
		for _, l := range all {
			for n := range most {
				longer = append(longer, append(slices.Clone(l), n))
			}
		}
		all = longer
	}
	return all
}

// P6.2: Agreed of all small numbers: the greatest that Need Voters have reached.
func TestAgreedIsPlain(t *testing.T) {
	for voters := 1; voters <= api.MaxVoters; voters++ {
		c := and(of(upTo(voters)...), 10, 11)
		most := uint64(4)
		if voters > 4 {
			most = 3
		}
		for _, numbers := range numberings(voters, most) {
			l := append(marks(c.Voters, numbers...), marks(c.Learners, 9, 9)...)
			want := uint64(0)
			for n := range most {
				reached := 0
				for _, x := range numbers {
					if x >= n {
						reached++
					}
				}
				if reached >= voters/2+1 {
					want = n
				}
			}
			if n := group.Agreed(c, l); n != want {
				t.Fatalf("Agreed(%v, %v) = %d, want %d", c, l, n, want)
			}
		}
	}
}

// P6.3: Next at the edges: each answer, and which error comes first.
func TestNext(t *testing.T) {
	three, full, alone := and(of(10, 20, 30), 15, 25), and(of(upTo(7)...), 11, 12, 13), and(of(9), 8)
	none := api.Conf{}
	for _, x := range []struct {
		c    api.Conf
		kind int
		id   uint64
		want api.Conf
		e    api.Errno
	}{
		{three, api.ChangeLearn, 1, and(three, 1, 15, 25), api.OK}, {three, api.ChangeLearn, 24, and(three, 15, 24, 25), api.OK}, {three, api.ChangeLearn, 63, and(three, 15, 25, 63), api.OK}, {of(1), api.ChangeLearn, 2, and(of(1), 2), api.OK}, {of(2), api.ChangeLearn, 1, and(of(2), 1), api.OK}, {of(upTo(7)...), api.ChangeLearn, 8, and(of(upTo(7)...), 8), api.OK},
		{three, api.ChangeLearn, 10, none, api.ErrThere}, {three, api.ChangeLearn, 30, none, api.ErrThere}, {three, api.ChangeLearn, 15, none, api.ErrThere}, {three, api.ChangeLearn, 25, none, api.ErrThere},
		{full, api.ChangeLearn, 1, none, api.ErrThere}, {full, api.ChangeLearn, 7, none, api.ErrThere}, {full, api.ChangeLearn, 13, none, api.ErrThere}, {full, api.ChangeLearn, 8, none, api.ErrFull}, {and(of(9), 1, 2, 3), api.ChangeLearn, 4, none, api.ErrFull}, {and(of(9), 1, 2, 3), api.ChangeLearn, 9, none, api.ErrThere},

		{three, api.ChangeVote, 15, and(of(10, 15, 20, 30), 25), api.OK}, {three, api.ChangeVote, 25, and(of(10, 20, 25, 30), 15), api.OK}, {alone, api.ChangeVote, 8, of(8, 9), api.OK}, {and(of(1, 2, 3, 4, 5, 6), 7, 8, 9), api.ChangeVote, 8, and(of(1, 2, 3, 4, 5, 6, 8), 7, 9), api.OK}, {and(of(5), 1, 6, 63), api.ChangeVote, 63, and(of(5, 63), 1, 6), api.OK},
		{three, api.ChangeVote, 10, none, api.ErrNone}, {three, api.ChangeVote, 1, none, api.ErrNone}, {three, api.ChangeVote, 63, none, api.ErrNone}, {of(1), api.ChangeVote, 2, none, api.ErrNone},
		{full, api.ChangeVote, 1, none, api.ErrNone}, {full, api.ChangeVote, 8, none, api.ErrNone}, {full, api.ChangeVote, 11, none, api.ErrFull}, {full, api.ChangeVote, 13, none, api.ErrFull},

		{three, api.ChangeLeave, 10, and(of(20, 30), 15, 25), api.OK}, {three, api.ChangeLeave, 20, and(of(10, 30), 15, 25), api.OK}, {three, api.ChangeLeave, 30, and(of(10, 20), 15, 25), api.OK}, {three, api.ChangeLeave, 15, and(three, 25), api.OK}, {three, api.ChangeLeave, 25, and(three, 15), api.OK}, {full, api.ChangeLeave, 7, and(of(upTo(6)...), 11, 12, 13), api.OK}, {full, api.ChangeLeave, 12, and(full, 11, 13), api.OK}, {of(4, 5), api.ChangeLeave, 4, of(5), api.OK}, {alone, api.ChangeLeave, 8, of(9), api.OK},
		{three, api.ChangeLeave, 1, none, api.ErrNone}, {three, api.ChangeLeave, 63, none, api.ErrNone}, {alone, api.ChangeLeave, 7, none, api.ErrNone}, {of(1), api.ChangeLeave, 2, none, api.ErrNone}, {of(1), api.ChangeLeave, 1, none, api.ErrFull}, {alone, api.ChangeLeave, 9, none, api.ErrFull}, {and(of(63), 1, 2, 3), api.ChangeLeave, 63, none, api.ErrFull},
	} {
		if c, e := group.Next(x.c, api.Change{Kind: x.kind, Id: x.id}); !same(c, x.want) || e != x.e {
			t.Errorf("Next(%v, %d of %d) = %v, %d, want %v, %d", x.c, x.kind, x.id, c, e, x.want, x.e)
		}
	}
}

// P6.3: Next of arguments that may not be: ErrArg, whatever else would fit.
func TestNextArg(t *testing.T) {
	check := func(c api.Conf, x api.Change) {
		t.Helper()
		if d, e := group.Next(c, x); !same(d, api.Conf{}) || e != api.ErrArg {
			t.Errorf("Next(%v, %v) = %v, %d, want ErrArg", c, x, d, e)
		}
	}
	changes := []int{api.ChangeLearn, api.ChangeVote, api.ChangeLeave}
	for _, kind := range changes {
		for _, x := range wrong() {
			for _, id := range ids(0, 1, 2, 3, 5, 9, 50, 63, 64, math.MaxUint64) {
				check(x.c, api.Change{Kind: kind, Id: id})
			}
		}
		for _, id := range ids(0, api.MaxId+1, api.MaxId+2, 1<<32+1, 1<<63+1, math.MaxUint64) {
			for _, c := range []api.Conf{of(1), and(of(1), 2), and(of(upTo(7)...), 8, 9, 10)} {
				check(c, api.Change{Kind: kind, Id: id})
			}
		}
	}
	for _, kind := range []int{math.MinInt, -1, 0, 4, 5, 9, 1 + 1<<32, math.MaxInt} {
		for _, id := range ids(0, 1, 2, 3, 63, 64) {
			check(and(of(1, 2), 3), api.Change{Kind: kind, Id: id})
			check(of(1), api.Change{Kind: kind, Id: id})
			check(api.Conf{}, api.Change{Kind: kind, Id: id})
		}
	}
}

// plainNext is Next of a valid configuration and a number, with a role for each node: what it is to become is put down, and the lists are made of it.
func plainNext(c api.Conf, x api.Change) (api.Conf, api.Errno) {
	const stranger, learner, voter = 0, 1, 2
	var role [api.MaxId + 1]int
	for _, v := range c.Voters {
		role[v] = voter
	}
	for _, v := range c.Learners {
		role[v] = learner
	}
	was := role[x.Id]
	switch {
	case x.Kind == api.ChangeLearn && was != stranger:
		return api.Conf{}, api.ErrThere
	case x.Kind == api.ChangeLearn && len(c.Learners) == 3:
		return api.Conf{}, api.ErrFull
	case x.Kind == api.ChangeVote && was != learner, x.Kind == api.ChangeLeave && was == stranger:
		return api.Conf{}, api.ErrNone
	case x.Kind == api.ChangeVote && len(c.Voters) == 7, x.Kind == api.ChangeLeave && was == voter && len(c.Voters) == 1:
		return api.Conf{}, api.ErrFull
	}
	role[x.Id] = []int{api.ChangeLearn: learner, api.ChangeVote: voter, api.ChangeLeave: stranger}[x.Kind]
	var d api.Conf
	for id, r := range role {
		switch r {
		case voter:
			d.Voters = append(d.Voters, uint64(id))
		case learner:
			d.Learners = append(d.Learners, uint64(id))
		}
	}
	return d, api.OK
}

// P6.3: Next of configurations of all sizes and every change of every node, held against a plain model; what it answers is valid.
func TestNextIsPlain(t *testing.T) {
	for _, c := range sized() {
		for _, kind := range []int{api.ChangeLearn, api.ChangeVote, api.ChangeLeave} {
			for id := uint64(1); id <= api.MaxId; id++ {
				x := api.Change{Kind: kind, Id: id}
				want, is := plainNext(c, x)
				d, e := group.Next(c, x)
				if !same(d, want) || e != is {
					t.Fatalf("Next(%v, %v) = %v, %d, want %v, %d", c, x, d, e, want, is)
				}
				if e == api.OK && !group.May(d) {
					t.Fatalf("Next(%v, %v) = %v, which is not valid", c, x, d)
				}
			}
		}
	}
}

// P6.4: Bytes.
func TestBytes(t *testing.T) {
	for _, x := range []struct {
		c api.Conf
		s string
	}{
		{of(1), "\x01\x01\x00"}, {of(63), "\x01\x3f\x00"}, {and(of(1, 2, 3), 5), "\x03\x01\x02\x03\x01\x05"}, {and(of(9), 1, 2, 63), "\x01\x09\x03\x01\x02\x3f"}, {and(of(upTo(7)...), 8, 9, 10), "\x07\x01\x02\x03\x04\x05\x06\x07\x03\x08\x09\x0a"}, {api.Conf{Voters: ids(2, 4), Learners: []uint64{}}, "\x02\x02\x04\x00"},
	} {
		if s, e := group.Bytes(x.c); s != x.s || e != api.OK {
			t.Errorf("Bytes(%v) = %x, %d", x.c, s, e)
		}
	}
	for _, x := range wrong() {
		if s, e := group.Bytes(x.c); s != "" || e != api.ErrArg {
			t.Errorf("%s: Bytes(%v) = %x, %d, want ErrArg", x.why, x.c, s, e)
		}
	}
}

// P6.4: Take of what Bytes gave, and of less and more than that.
func TestTake(t *testing.T) {
	for _, c := range sized() {
		s, _ := group.Bytes(c)
		if d, e := group.Take(s); !same(d, c) || e != api.OK {
			t.Errorf("%v came back as %v, %d", c, d, e)
		}
		for n := range len(s) {
			if d, e := group.Take(s[:n]); !same(d, api.Conf{}) || e != api.ErrForm {
				t.Errorf("%d bytes of %x: %v, %d, want ErrForm", n, s, d, e)
			}
		}
		for _, more := range []string{"\x00", "\x01", "\x3f", "\x40", "\xff", "more", s} {
			if d, e := group.Take(s + more); !same(d, api.Conf{}) || e != api.ErrForm {
				t.Errorf("%x, and %x: %v, %d, want ErrForm", s, more, d, e)
			}
		}
	}
}

// P6.4: Take of bytes that are no valid configuration's.
func TestTakeWrong(t *testing.T) {
	many := func(n int) string { return strings.Repeat("\x05", n) }
	for _, s := range []string{
		"", "\x00", "\x00\x00", "\x00\x01\x05", "\x01\x05", "\x01\x05\x01", "\x02\x05\x00", "\x40", "\xff",
		// Numbers and counts in more bytes than are needed.
		"\x40\x01\x01\x00", "\x01\x40\x01\x00", "\x01\x01\x40\x00", "\x01\x01\x40\x01\x02", "\x01\x01\x01\x40\x02", "\x80\x00\x00\x01\x01\x00", "\x01\x80\x00\x00\x01\x00", "\x01\x01\xc0\x00\x00\x00\x00\x00\x00\x00",
		// Numbers from 1 to MaxId only.
		"\x01\x00\x00", "\x01\x40\x40\x00", "\x02\x01\x40\x40\x00", "\x01\x01\x01\x00", "\x01\x01\x01\x40\x40", "\x01\xff\xff\xff\xff\xff\xff\xff\xff\x00", "\x01\x01\x01\xff\xff\xff\xff\xff\xff\xff\xff",
		// Too many.
		"\x08\x01\x02\x03\x04\x05\x06\x07\x08\x00", "\x01\x01\x04\x02\x03\x04\x05", "\x08" + many(8) + "\x00", "\x40\x40" + many(64) + "\x00", "\xff\xff\xff\xff\xff\xff\xff\xff" + many(100), "\x01\x01\xff\xff\xff\xff\xff\xff\xff\xff" + many(100), "\x01\x01\x50\x00" + many(4096),
		// Lists that aren't strictly ascending, a number in both.
		"\x02\x02\x01\x00", "\x02\x02\x02\x00", "\x03\x01\x03\x02\x00", "\x01\x01\x02\x03\x02", "\x01\x01\x02\x02\x02", "\x01\x05\x01\x05", "\x02\x04\x05\x02\x03\x05",
		// The Learners' list lacks, or is a configuration again.
		"\x03\x01\x02\x03", "\x01\x01\x00\x00", "\x01\x01\x00\x01\x02\x00",
	} {
		if c, e := group.Take(s); !same(c, api.Conf{}) || e != api.ErrForm {
			t.Errorf("Take(%x) = %v, %d, want ErrForm", s, c, e)
		}
	}
	for _, x := range wrong() {
		if len(x.c.Voters) > 100 || slices.Max(append(slices.Concat(x.c.Voters, x.c.Learners), 0)) > 1<<14 {
			continue
		}
		s := plainBytes(x.c.Voters) + plainBytes(x.c.Learners)
		if c, e := group.Take(s); !same(c, api.Conf{}) || e != api.ErrForm {
			t.Errorf("%s: Take(%x) = %v, %d, want ErrForm", x.why, s, c, e)
		}
	}
}

// plainBytes are the encoding of a list of numbers below 2^14, valid or not.
func plainBytes(l []uint64) string {
	var s []byte
	for _, v := range append(ids(uint64(len(l))), l...) {
		if v >= 64 {
			s = append(s, byte(v>>8)|0x40)
		}
		s = append(s, byte(v))
	}
	return string(s)
}

// P6.4: of all short bytes exactly those are taken that Bytes gives for a valid configuration, as that one.
func TestTakeIsPlain(t *testing.T) {
	numbers := ids(1, 2, 3, 4)
	coded := map[string]api.Conf{}
	for _, voters := range lists(4, numbers...) {
		for _, learners := range lists(3, numbers...) {
			if c := and(of(voters...), learners...); plainMay(c) {
				coded[plainBytes(voters)+plainBytes(learners)] = c
			}
		}
	}
	// Each of the four numbers is a Voter, a Learner or a stranger, but one at least is a Voter.
	if len(coded) != 81-16 {
		t.Fatalf("%d configurations", len(coded))
	}
	took := 0
	for _, l := range lists(6, 0, 1, 2, 3, 4, 0x40, 0x80) {
		var b []byte
		for _, v := range l {
			b = append(b, byte(v))
		}
		c, e := group.Take(string(b))
		want, is := coded[string(b)]
		if !same(c, want) || is != (e == api.OK) || !is && e != api.ErrForm {
			t.Fatalf("Take(%x) = %v, %d, want %v", b, c, e, want)
		}
		if !is {
			continue
		}
		took++
		if s, e := group.Bytes(want); s != string(b) || e != api.OK {
			t.Fatalf("Bytes(%v) = %x, %d", want, s, e)
		}
	}
	if took != len(coded) {
		t.Errorf("%d of %d configurations were taken", took, len(coded))
	}
}

// P6.5: Mark is that of the first one with the Id.
func TestMark(t *testing.T) {
	l := marks(ids(4, 2, 4, 0, math.MaxUint64, 2), 7, 0, 8, 9, math.MaxUint64, 3)
	for _, x := range []struct {
		l     []api.Mark
		id, n uint64
		ok    bool
	}{
		{l, 4, 7, true}, {l, 2, 0, true}, {l, 0, 9, true}, {l, math.MaxUint64, math.MaxUint64, true}, {l, 1, 0, false}, {l, 7, 0, false}, {l, 4 + 1<<32, 0, false}, {l[1:], 4, 8, true}, {l[2:], 2, 3, true}, {nil, 0, 0, false}, {nil, 1, 0, false}, {[]api.Mark{}, 1, 0, false}, {l[:1], 0, 0, false},
	} {
		if n, ok := group.Mark(x.l, x.id); n != x.n || ok != x.ok {
			t.Errorf("Mark(%v, %d) = %d, %v", x.l, x.id, n, ok)
		}
	}
}

// P6.5: Set sets the first mark with the Id; without one it appends a mark.
func TestSet(t *testing.T) {
	l := marks(ids(4, 2, 4), 7, 0, 8)
	for _, x := range []struct {
		l     []api.Mark
		id, v uint64
		want  []api.Mark
	}{
		{l, 4, 9, marks(ids(4, 2, 4), 9, 0, 8)}, {l, 4, 0, marks(ids(4, 2, 4), 0, 0, 8)}, {l, 4, 7, l}, {l, 2, math.MaxUint64, marks(ids(4, 2, 4), 7, math.MaxUint64, 8)}, {l[1:], 4, 1, marks(ids(2, 4), 0, 1)},
		{l, 1, 5, marks(ids(4, 2, 4, 1), 7, 0, 8, 5)}, {l, 0, 0, marks(ids(4, 2, 4, 0), 7, 0, 8, 0)}, {l, 7, 4, marks(ids(4, 2, 4, 7), 7, 0, 8, 4)}, {l, math.MaxUint64, 1, marks(ids(4, 2, 4, math.MaxUint64), 7, 0, 8, 1)},
		{nil, 3, 6, marks(ids(3), 6)}, {[]api.Mark{}, 3, 6, marks(ids(3), 6)}, {nil, 0, 0, marks(ids(0), 0)}, {marks(ids(5), 1), 5, 2, marks(ids(5), 2)},
	} {
		if got := group.Set(x.l, x.id, x.v); !slices.Equal(got, x.want) {
			t.Errorf("Set(%v, %d, %d) = %v, want %v", x.l, x.id, x.v, got, x.want)
		}
	}
}

// P6.5: what was set is what Mark tells, and no other node's number is another one.
func TestSetThenMark(t *testing.T) {
	for _, at := range lists(3, 1, 2, 3) {
		l := marks(at, []uint64{5, 6, 7}[:len(at)]...)
		for id := range uint64(5) {
			for _, v := range ids(0, 6, 1<<63) {
				after := group.Set(l, id, v)
				if n, ok := group.Mark(after, id); n != v || !ok {
					t.Errorf("Mark(Set(%v, %d, %d)) = %d, %v", l, id, v, n, ok)
				}
				for other := range uint64(5) {
					n, ok := group.Mark(after, other)
					if was, is := group.Mark(l, other); other != id && (n != was || ok != is) {
						t.Errorf("Set(%v, %d, %d): %d has %d, %v", l, id, v, other, n, ok)
					}
				}
			}
		}
	}
}

// roomy is a list with room behind it, which is filled with 77: who appends to the list writes there.
func roomy(l []uint64) []uint64 {
	const room = 4
	return slices.Concat(l, slices.Repeat(ids(77), room))[:len(l)]
}

// P6.3, R3: Next writes to no list that it was given, and what it answers shares none with it, nor with another answer.
func TestNextLeavesItsArguments(t *testing.T) {
	for _, c := range sized() {
		given := api.Conf{Voters: roomy(c.Voters), Learners: roomy(c.Learners)}
		for _, kind := range []int{api.ChangeLearn, api.ChangeVote, api.ChangeLeave} {
			for id := uint64(1); id <= api.MaxId; id++ {
				x := api.Change{Kind: kind, Id: id}
				first, e := group.Next(given, x)
				if e != api.OK {
					continue
				}
				second, _ := group.Next(given, x)
				want := api.Conf{Voters: slices.Clone(second.Voters), Learners: slices.Clone(second.Learners)}
				for _, l := range [][]uint64{first.Voters, first.Learners} {
					l = append(l, 99)
					for i := range l {
						l[i] = 99
					}
				}
				if !same(second, want) {
					t.Fatalf("Next(%v, %v): another answer became %v", c, x, second)
				}
				if !same(given, c) || !allRoom(given.Voters) || !allRoom(given.Learners) {
					t.Fatalf("Next(%v, %v): the argument became %v", c, x, given)
				}
			}
		}
	}
}

// allRoom: is the room behind a list as roomy made it?
func allRoom(l []uint64) bool {
	return !slices.ContainsFunc(l[len(l):cap(l)], func(v uint64) bool { return v != 77 && v != 0 })
}

// P6.5, R3: Set writes to no list that it was given, nor into another answer.
func TestSetLeavesItsArguments(t *testing.T) {
	all := marks(ids(4, 2, 6, 8), 7, 1, 5, 5)
	given := all[:2]
	a, b, c := group.Set(given, 4, 9), group.Set(given, 3, 9), group.Set(given, 5, 8)
	d := group.Set(b, 1, 1)
	e := group.Set(b, 7, 7)
	for _, x := range []struct {
		name      string
		got, want []api.Mark
	}{
		{"the argument", all, marks(ids(4, 2, 6, 8), 7, 1, 5, 5)}, {"a mark set", a, marks(ids(4, 2), 9, 1)}, {"a mark appended", b, marks(ids(4, 2, 3), 7, 1, 9)}, {"another one", c, marks(ids(4, 2, 5), 7, 1, 8)}, {"one behind it", d, marks(ids(4, 2, 3, 1), 7, 1, 9, 1)}, {"another one behind it", e, marks(ids(4, 2, 3, 7), 7, 1, 9, 7)},
	} {
		if !slices.Equal(x.got, x.want) {
			t.Errorf("%s became %v, want %v", x.name, x.got, x.want)
		}
	}
	// Where nothing is another value, the answer is another list all the same.
	same := group.Set(given, 4, 7)
	same[1].N = 99
	if all[1].N != 1 {
		t.Errorf("the argument became %v", all)
	}
}

// P6.1, P6.2, P6.4, R3: no other call writes to what it was given.
func TestCallsLeaveTheirArguments(t *testing.T) {
	c := and(of(7, 3, 5, 3), 9, 2)
	among, l := ids(5, 3, 3, 7), marks(ids(3, 7, 5, 3), 1, 9, 4, 8)
	for range 2 {
		if group.May(c) || group.Need(c) != 3 || !group.Most(c, among) || group.Agreed(c, l) != 1 {
			t.Errorf("other answers: %v, %d, %v, %d", group.May(c), group.Need(c), group.Most(c, among), group.Agreed(c, l))
		}
		if n, ok := group.Mark(l, 5); n != 4 || !ok {
			t.Errorf("Mark = %d, %v", n, ok)
		}
		if _, e := group.Bytes(c); e != api.ErrArg {
			t.Errorf("Bytes: %d", e)
		}
	}
	if !same(c, and(of(7, 3, 5, 3), 9, 2)) || !slices.Equal(among, ids(5, 3, 3, 7)) || !slices.Equal(l, marks(ids(3, 7, 5, 3), 1, 9, 4, 8)) {
		t.Errorf("the arguments became %v, %d, %v", c, among, l)
	}
}

// P6.4, R3: no two configurations that Take answers share a list.
func TestTakeSharesNothing(t *testing.T) {
	s := "\x03\x01\x02\x03\x02\x05\x06"
	a, _ := group.Take(s)
	b, _ := group.Take(s)
	a.Voters[0], a.Learners[1] = 99, 99
	_ = append(a.Voters, 98, 98, 98)
	if !slices.Equal(a.Learners, ids(5, 99)) || !same(b, and(of(1, 2, 3), 5, 6)) {
		t.Errorf("%v, %v", a, b)
	}
}

// majorities are all sets of a configuration's Voters that Most calls majorities.
func majorities(c api.Conf) [][]uint64 {
	return slices.DeleteFunc(subsets(c.Voters), func(s []uint64) bool { return !group.Most(c, s) })
}

// meet: has each list of a an element in common with each of b?
func meet(a, b [][]uint64) bool {
	for _, x := range a {
		for _, y := range b {
			if !slices.ContainsFunc(x, func(v uint64) bool { return slices.Contains(y, v) }) {
				return false
			}
		}
	}
	return true
}

// P6.6: two majorities have a voter in common: of one configuration, and of one and the next.
func TestMajoritiesMeet(t *testing.T) {
	for voters := 1; voters <= api.MaxVoters; voters++ {
		c := and(of(upTo(voters)...), 10)
		own := majorities(c)
		if len(own) == 0 || !meet(own, own) {
			t.Errorf("majorities of %v: %d", c, own)
		}
		for _, s := range own {
			if len(s) < group.Need(c) {
				t.Errorf("%d is a majority of %v", s, c)
			}
		}
		for _, kind := range []int{api.ChangeLearn, api.ChangeVote, api.ChangeLeave} {
			for id := uint64(1); id < 12; id++ {
				d, e := group.Next(c, api.Change{Kind: kind, Id: id})
				if e == api.OK && !meet(own, majorities(d)) {
					t.Errorf("majorities of %v and of %v", c, d)
				}
			}
		}
	}
}

// P6.6: what is agreed is at most what each member of some majority has, and does not decrease when a number increases.
func TestAgreedFollows(t *testing.T) {
	for voters := 1; voters <= api.MaxVoters; voters++ {
		c := and(of(upTo(voters)...), 10)
		most := uint64(4)
		if voters > 4 {
			most = 3
		}
		for _, numbers := range numberings(voters, most) {
			l := marks(c.Voters, numbers...)
			agreed := group.Agreed(c, l)
			var have []uint64
			for _, m := range l {
				if m.N >= agreed {
					have = append(have, m.Id)
				}
			}
			if !group.Most(c, have) {
				t.Fatalf("Agreed(%v, %v) = %d, which only %d have", c, l, agreed, have)
			}
			for id := range uint64(12) {
				n, _ := group.Mark(l, id)
				if more := group.Agreed(c, group.Set(l, id, n+1)); more < agreed {
					t.Fatalf("Agreed(%v, %v) = %d, but %d if %d has one more", c, l, agreed, more, id)
				}
			}
		}
	}
}
