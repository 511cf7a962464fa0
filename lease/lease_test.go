package lease_test

import (
	"math"
	"math/big"
	"math/rand"
	"slices"
	"testing"

	"ferrule/api"
	"ferrule/lease"
)

const most = math.MaxUint64

// of is a configuration with these Voters and no Learners.
func of(voters ...uint64) api.Conf { return api.Conf{Voters: voters} }

// and is the configuration with these Learners.
func and(c api.Conf, learners ...uint64) api.Conf {
	c.Learners = learners
	return c
}

// acks are marks: a node, its number, a node, its number, ..
func acks(l ...uint64) []api.Mark {
	var all []api.Mark
	for i := 0; i+1 < len(l); i += 2 {
		all = append(all, api.Mark{Id: l[i], N: l[i+1]})
	}
	return all
}

// exact is a number as one of any size.
func exact(n uint64) *big.Int { return new(big.Int).SetUint64(n) }

// times is the product of numbers of any size.
func times(a, b *big.Int) *big.Int { return new(big.Int).Mul(a, b) }

// plus is a number of any size, and so much more.
func plus(a *big.Int, n int64) *big.Int { return new(big.Int).Add(a, big.NewInt(n)) }

// plainWithin is P10.1, word by word.
func plainWithin(real, local, d uint64) bool {
	r, l, n := exact(real), times(exact(local), exact(d)), exact(d)
	return d >= 2 && l.Cmp(times(r, plus(n, -1))) >= 0 && l.Cmp(times(r, plus(n, 1))) <= 0
}

// plainBound is P10.1, word by word.
func plainBound(span, d uint64) *big.Int {
	if d < 2 {
		return new(big.Int)
	}
	n := exact(d)
	return new(big.Int).Quo(times(exact(span), plus(n, -1)), plus(n, 1))
}

// plainAgreed is Agreed where the number of id is now, and that of another voter is that of its first mark.
func plainAgreed(c api.Conf, id, now uint64, l []api.Mark) uint64 {
	var numbers []uint64
	for _, v := range c.Voters {
		n := uint64(0)
		for i := len(l) - 1; i >= 0; i-- {
			if l[i].Id == v {
				n = l[i].N
			}
		}
		if v == id {
			n = now
		}
		numbers = append(numbers, n)
	}
	agreed := uint64(0)
	for _, n := range numbers {
		reached := 0
		for _, other := range numbers {
			if other >= n {
				reached++
			}
		}
		if 2*reached > len(numbers) {
			agreed = max(agreed, n)
		}
	}
	return agreed
}

// plainUntil is P10.2, word by word.
func plainUntil(c api.Conf, id, now uint64, l []api.Mark, span, d uint64) uint64 {
	bound, k := plainBound(span, d), exact(plainAgreed(c, id, now, l))
	if bound.Sign() == 0 || k.Sign() == 0 {
		return 0
	}
	if until := k.Add(k, bound); until.IsUint64() {
		return until.Uint64()
	}
	return most
}

// turning are numbers at which halves of products, and sums, turn over.
func turning() []uint64 {
	return []uint64{0, 1, 2, 3, 4, 5, 9, 10, 11, 63, 64, 1000, 1<<31 - 1, 1 << 31, 1<<32 - 1, 1 << 32, 1<<32 + 1, 1<<62 + 1, 1<<63 - 1, 1 << 63, 1<<63 + 1, most - 2, most - 1, most}
}

// mixed are so many numbers of all lengths, the same ones in each run.
func mixed(seed int64, count int) []uint64 {
	r := rand.New(rand.NewSource(seed))
	var all []uint64
	for range count {
		all = append(all, r.Uint64()>>r.Intn(64))
	}
	return all
}

// P10.1: whether a clock is within the drift: ordinary times, and times that no clock has at a d.
func TestWithin(t *testing.T) {
	for _, x := range []struct {
		real, local, d uint64
		want           bool
	}{
		{100, 110, 10, true}, {100, 111, 10, false}, {100, 90, 10, true}, {100, 89, 10, false}, {100, 100, 10, true}, {100, 0, 10, false}, {100, 1000, 10, false}, {100, 10, 10, false},
		{4, 2, 2, true}, {4, 1, 2, false}, {4, 6, 2, true}, {4, 7, 2, false},
		// The bounds are no whole numbers.
		{3, 2, 2, true}, {3, 1, 2, false}, {3, 4, 2, true}, {3, 5, 2, false}, {1, 1, 2, true}, {1, 0, 2, false}, {1, 2, 2, false}, {7, 7, 10, true}, {7, 6, 10, false}, {7, 8, 10, false},
		// Nothing has advanced.
		{0, 0, 2, true}, {0, 1, 2, false}, {0, 0, 10, true}, {0, 1, 10, false}, {0, most, 10, false}, {0, 0, most, true}, {0, 1, most, false}, {0, most, most, false},
		// A d below 2.
		{0, 0, 0, false}, {0, 0, 1, false}, {1, 1, 0, false}, {1, 1, 1, false}, {1, 2, 1, false}, {1, 0, 1, false}, {100, 100, 0, false}, {100, 100, 1, false}, {most, most, 0, false}, {most, most, 1, false},
	} {
		if got := lease.Within(x.real, x.local, x.d); got != x.want {
			t.Errorf("Within(%d, %d, %d) = %v", x.real, x.local, x.d, got)
		}
	}
}

// P10.1: whether a clock is within the drift where products pass 2^64, and where d + 1 is 2^64.
func TestWithinGreat(t *testing.T) {
	for _, x := range []struct {
		real, local, d uint64
		want           bool
	}{
		{1 << 32, 1 << 32, 1 << 32, true}, {1 << 32, 1<<32 - 1, 1 << 32, true}, {1 << 32, 1<<32 - 2, 1 << 32, false}, {1 << 32, 1<<32 + 1, 1 << 32, true}, {1 << 32, 1<<32 + 2, 1 << 32, false}, {1 << 32, 0, 1 << 32, false},
		{1 << 63, 1 << 62, 2, true}, {1 << 63, 1<<62 - 1, 2, false}, {1 << 63, 3 << 62, 2, true}, {1 << 63, 3<<62 + 1, 2, false}, {1 << 63, 0, 2, false}, {1 << 63, 1, 2, false}, {1 << 63, most, 2, false},
		{most, most, 2, true}, {most, 1 << 63, 2, true}, {most, 1<<63 - 1, 2, false}, {most, 0, 2, false}, {1 << 62, most, 2, false}, {0xaaaaaaaaaaaaaaaa, most, 2, true}, {0xaaaaaaaaaaaaaaa9, most, 2, false},
		// d is the greatest: it has 2^64 above it.
		{most, most, most, true}, {most, most - 1, most, true}, {most, most - 2, most, false}, {most, 0, most, false}, {most - 1, most, most, false}, {most - 1, most - 1, most, true}, {most - 1, most - 2, most, false}, {1, 1, most, true}, {1, 0, most, false}, {1, 2, most, false}, {5, 5, most, true}, {5, 4, most, false}, {5, 6, most, false},
		{most - 1, most - 2, most - 1, true}, {most - 1, most - 3, most - 1, false}, {most - 1, most, most - 1, true}, {most, most, most - 1, true}, {most, most - 1, most - 1, true}, {most, most - 2, most - 1, false},
	} {
		if got := lease.Within(x.real, x.local, x.d); got != x.want || got != plainWithin(x.real, x.local, x.d) {
			t.Errorf("Within(%d, %d, %d) = %v", x.real, x.local, x.d, got)
		}
	}
}

// P10.1: Within at both of its bounds, and one beyond each of them.
func TestWithinBounds(t *testing.T) {
	numbers := append(turning(), mixed(1, 60)...)
	for _, real := range numbers {
		for _, d := range numbers {
			if d < 2 {
				continue
			}
			least := times(exact(real), plus(exact(d), -1))
			least = new(big.Int).Quo(plus(new(big.Int).Add(least, exact(d)), -1), exact(d))
			last := new(big.Int).Quo(times(exact(real), plus(exact(d), 1)), exact(d))
			for _, x := range []struct {
				local *big.Int
				want  bool
			}{{plus(least, -1), false}, {least, true}, {last, true}, {plus(last, 1), false}} {
				if !x.local.IsUint64() || x.want && least.Cmp(last) > 0 {
					continue
				}
				if got := lease.Within(real, x.local.Uint64(), d); got != x.want {
					t.Fatalf("Within(%d, %d, %d) = %v", real, x.local, d, got)
				}
			}
		}
	}
}

// P10.1: Within is what numbers of any size come to.
func TestWithinIsPlain(t *testing.T) {
	check := func(real, local, d uint64) {
		t.Helper()
		if got := lease.Within(real, local, d); got != plainWithin(real, local, d) {
			t.Fatalf("Within(%d, %d, %d) = %v", real, local, d, got)
		}
	}
	for real := range uint64(24) {
		for local := range uint64(40) {
			for d := range uint64(30) {
				check(real, local, d)
			}
		}
	}
	for _, real := range turning() {
		for _, local := range turning() {
			for _, d := range turning() {
				check(real, local, d)
			}
		}
	}
	for _, n := range mixed(2, 20000) {
		// Times that are near one another, so that both answers come up.
		d := n>>3%4096 + 2
		check(n, n+n/d, d)
		check(n, n-n/d, d)
		check(n, n+n/d+1, d)
		check(n, n-n/d-1, d)
		check(n, n, n/2)
	}
}

// P10.1: how long a span is for sure: with a rest and without one, at the edges of d and of the span.
func TestBound(t *testing.T) {
	for _, x := range []struct{ span, d, want uint64 }{
		// No rest, and all rests that there are at a d of 2, and some at a d of 10.
		{11, 10, 9}, {22, 10, 18}, {3, 2, 1}, {6, 2, 2}, {9, 2, 3}, {4, 3, 2},
		{10, 10, 8}, {12, 10, 9}, {13, 10, 10}, {21, 10, 17}, {4, 2, 1}, {5, 2, 1}, {7, 2, 2}, {8, 2, 2}, {100, 10, 81}, {5, 3, 2}, {7, 3, 3},
		// The span is shorter than any that is for sure.
		{1, 2, 0}, {2, 2, 0}, {1, 10, 0}, {2, 10, 1}, {1, 3, 0}, {1, 1 << 32, 0}, {1, most, 0}, {2, 3, 1}, {2, most, 1}, {3, most, 2}, {5, most, 4},
		{0, 0, 0}, {0, 1, 0}, {0, 2, 0}, {0, 9, 0}, {0, most, 0},
		// A d below 2.
		{1, 0, 0}, {1, 1, 0}, {10, 0, 0}, {10, 1, 0}, {most, 0, 0}, {most, 1, 0},
		// Products that pass 2^64, and d + 1 that is 2^64.
		{1 << 63, 2, 3074457345618258602}, {1 << 63, 3, 1 << 62}, {most, 2, 6148914691236517205}, {most - 1, 2, 6148914691236517204}, {most, 3, 1<<63 - 1}, {most, 4, 11068046444225730969}, {1 << 32, 1 << 32, 1<<32 - 2}, {1<<32 + 1, 1 << 32, 1<<32 - 1}, {most, 1 << 32, 18446744065119617025}, {1 << 63, most, 1<<63 - 1}, {1<<63 + 1, most, 1<<63 - 1}, {1<<63 + 2, most, 1 << 63},
		{most, most, most - 2}, {most - 1, most, most - 3}, {most, most - 1, most - 2}, {most - 1, most - 1, most - 3}, {1 << 63, most - 1, 1<<63 - 2}, {2, most - 1, 1}, {1, most - 1, 0},
	} {
		if got := lease.Bound(x.span, x.d); got != x.want || exact(got).Cmp(plainBound(x.span, x.d)) != 0 {
			t.Errorf("Bound(%d, %d) = %d, want %d, which is %d", x.span, x.d, got, x.want, plainBound(x.span, x.d))
		}
	}
}

// P10.1: Bound is what numbers of any size come to.
func TestBoundIsPlain(t *testing.T) {
	check := func(span, d uint64) {
		t.Helper()
		if got, want := lease.Bound(span, d), plainBound(span, d); exact(got).Cmp(want) != 0 {
			t.Fatalf("Bound(%d, %d) = %d, want %d", span, d, got, want)
		}
	}
	for span := range uint64(200) {
		for d := range uint64(100) {
			check(span, d)
		}
	}
	numbers := append(turning(), mixed(3, 400)...)
	for _, span := range numbers {
		for _, d := range numbers {
			check(span, d)
		}
	}
}

// asked is one call of Until and of Holds, and what they must answer.
type asked struct {
	why     string
	c       api.Conf
	id, now uint64
	acks    []api.Mark
	span, d uint64
	until   uint64
	holds   bool
}

// check holds calls to what they must answer.
func check(t *testing.T, all []asked) {
	t.Helper()
	for _, x := range all {
		if got := lease.Until(x.c, x.id, x.now, x.acks, x.span, x.d); got != x.until || got != plainUntil(x.c, x.id, x.now, x.acks, x.span, x.d) {
			t.Errorf("%s: Until(%v, %d, %d, %v, %d, %d) = %d, want %d", x.why, x.c, x.id, x.now, x.acks, x.span, x.d, got, x.until)
		}
		if got := lease.Holds(x.c, x.id, x.now, x.acks, x.span, x.d); got != x.holds {
			t.Errorf("%s: Holds(%v, %d, %d, %v, %d, %d) = %v", x.why, x.c, x.id, x.now, x.acks, x.span, x.d, got)
		}
	}
}

// P10.2: how long the leader may believe: ordinary acks, and those that do not count.
func TestUntil(t *testing.T) {
	three, five := of(1, 2, 3), of(1, 2, 3, 4, 5)
	check(t, []asked{
		{"the chapter's example", three, 1, 20, acks(2, 15, 3, 12), 10, 10, 23, true},
		{"in another order", three, 1, 20, acks(3, 12, 2, 15), 10, 10, 23, true},
		{"one ack of two", three, 1, 20, acks(3, 12), 10, 10, 20, false},
		{"no ack", three, 1, 20, nil, 10, 10, 0, false},
		{"acks of 0", three, 1, 20, acks(2, 0, 3, 0), 10, 10, 0, false},
		{"the only voter", of(1), 1, 20, nil, 10, 10, 28, true},
		{"the only voter, with acks", of(1), 1, 20, acks(2, 90, 1, 3), 10, 10, 28, true},
		{"two voters", of(1, 2), 1, 20, acks(2, 15), 10, 10, 23, true},
		{"two voters, no ack", of(1, 2), 1, 20, nil, 10, 10, 0, false},
		{"four voters", of(1, 2, 3, 4), 1, 20, acks(2, 15, 3, 18), 10, 10, 23, true},
		{"four voters, one ack", of(1, 2, 3, 4), 1, 20, acks(2, 15), 10, 10, 0, false},
		{"five voters", five, 3, 20, acks(1, 14, 2, 16, 4, 18, 5, 12), 10, 10, 24, true},
		{"five voters, two acks", five, 3, 20, acks(5, 17, 1, 13), 10, 10, 21, true},
		{"five voters, one ack", five, 3, 20, acks(5, 17), 10, 10, 0, false},
		{"seven voters", of(1, 2, 3, 4, 5, 6, 7), 7, 30, acks(1, 21, 2, 22, 3, 23, 4, 24, 5, 25, 6, 26), 10, 10, 32, true},
		{"an ack that is now", three, 1, 20, acks(2, 20), 10, 10, 28, true},
		{"an ack that is later than now", three, 1, 20, acks(2, 30, 3, 12), 10, 10, 28, true},
		{"acks that are later than now", three, 1, 20, acks(2, 30, 3, 32), 10, 10, 38, true},

		{"acks of nodes that are no voters", three, 1, 20, acks(4, 19, 5, 19, 0, 19, 64, 19, most, 19), 10, 10, 0, false},
		{"and of voters behind them", three, 1, 20, acks(4, 19, 5, 19, 2, 13), 10, 10, 21, true},
		{"acks of learners", and(three, 4, 5), 1, 20, acks(4, 19, 5, 19), 10, 10, 0, false},
		{"a number that is 2^32 more than a voter's", three, 1, 20, acks(1<<32+2, 19), 10, 10, 0, false},
		{"one node twice", three, 1, 20, acks(2, 13, 2, 19), 10, 10, 21, true},
		{"one node twice, the greater first", three, 1, 20, acks(2, 19, 2, 13), 10, 10, 27, true},
		{"one node twice is not two nodes", five, 1, 20, acks(2, 19, 2, 19), 10, 10, 0, false},
		{"one node twice, its first is 0", three, 1, 20, acks(2, 0, 2, 19), 10, 10, 0, false},

		{"an ack of id that is older", three, 1, 20, acks(1, 5, 2, 15), 10, 10, 23, true},
		{"an ack of id that is newer", three, 1, 20, acks(1, 90, 2, 80), 10, 10, 28, true},
		{"an ack of id that is newer, alone", of(1), 1, 20, acks(1, 90), 10, 10, 28, true},
		{"an ack of id that is 0", of(1), 1, 20, acks(1, 0), 10, 10, 28, true},
		{"acks of id, twice", three, 1, 20, acks(1, 90, 2, 12, 1, 95), 10, 10, 20, false},
		{"an ack of id behind others", three, 1, 20, acks(2, 15, 3, 12, 1, 3), 10, 10, 23, true},

		{"id is no voter", three, 4, 20, acks(2, 15, 3, 14), 10, 10, 22, false},
		{"id is no voter, and now does not count", three, 4, 20, acks(2, 15), 10, 10, 0, false},
		{"id is no voter, and has an ack", three, 4, 20, acks(4, 17, 2, 15, 1, 13), 10, 10, 21, false},
		{"id is a learner", and(three, 4), 4, 20, acks(2, 15, 3, 14), 10, 10, 22, false},
		{"id is 0", three, 0, 20, acks(2, 15, 3, 14), 10, 10, 22, false},
		{"id is the greatest", three, most, 20, acks(2, 15, 3, 14), 10, 10, 22, false},
		{"id is 2^32 more than a voter's number", three, 1<<32 + 1, 20, acks(2, 15, 3, 14), 10, 10, 22, false},
		{"id is the last voter", three, 3, 20, acks(2, 15), 10, 10, 23, true},
	})
}

// P10.2: Until where Bound or k is 0, and where k plus Bound is at 2^64 - 1 and above it; Holds with now just below Until, and at it.
func TestUntilEdges(t *testing.T) {
	three := of(1, 2, 3)
	check(t, []asked{
		{"a d of 0", three, 1, 20, acks(2, 15), 10, 0, 0, false},
		{"a d of 1", three, 1, 20, acks(2, 15), 10, 1, 0, false},
		{"a d of 2", three, 1, 17, acks(2, 15), 10, 2, 18, true},
		{"a d that is the greatest", three, 1, 20, acks(2, 15), 10, most, 24, true},
		{"a span of 0", three, 1, 20, acks(2, 25), 0, 10, 0, false},
		{"a span of 1", three, 1, 20, acks(2, 25), 1, 10, 0, false},
		{"a span of 1, acks of the greatest", three, 1, most, acks(2, most), 1, most, 0, false},
		{"a span of 2", three, 1, 20, acks(2, 25), 2, 10, 21, true},
		{"the greatest span", three, 1, 20, acks(2, 15), most, most, most, true},
		{"the greatest span at a d of 1", three, 1, 20, acks(2, 15), most, 1, 0, false},
		{"now is 0", three, 1, 0, acks(2, 15), 10, 10, 0, false},
		{"now is 0, with two acks", three, 1, 0, acks(2, 15, 3, 12), 10, 10, 20, true},
		{"now is 0, alone", of(1), 1, 0, acks(1, 9), 10, 10, 0, false},
		{"now is 1, alone", of(1), 1, 1, nil, 10, 10, 9, true},

		{"now is just below Until", three, 1, 22, acks(2, 15), 10, 10, 23, true},
		{"now is at Until", three, 1, 23, acks(2, 15), 10, 10, 23, false},
		{"now is just above Until", three, 1, 24, acks(2, 15), 10, 10, 23, false},
		{"now is far above Until", three, 1, most, acks(2, 15), 10, 10, 23, false},

		// Bound is 8.
		{"one below the greatest", three, 1, most - 10, acks(2, most-9, 3, most-9), 10, 10, most - 1, true},
		{"at the greatest", three, 1, most - 8, acks(2, most-8), 10, 10, most, true},
		{"one above the greatest", three, 1, most - 7, acks(2, most-7), 10, 10, most, true},
		{"far above the greatest", three, 1, most - 1, acks(2, most-1), 10, 10, most, true},
		{"now is the greatest", three, 1, most, acks(2, most), 10, 10, most, false},
		{"now is the greatest, which is what it comes to", three, 1, most, acks(2, most-8), 10, 10, most, false},
		{"now is the greatest, and the ack older", three, 1, most, acks(2, most-9), 10, 10, most - 1, false},
		{"now is just below the greatest", three, 1, most - 1, acks(2, most-8), 10, 10, most, true},
		// Bound is most - 2.
		{"a great Bound, below", three, 1, 20, acks(2, 1), most, most, most - 1, true},
		{"a great Bound, at", three, 1, 20, acks(2, 2), most, most, most, true},
		{"a great Bound, above", three, 1, 20, acks(2, 3), most, most, most, true},
		{"a great Bound and the greatest k", three, 1, most, acks(2, most), most, most, most, false},
		// Bound and k are 2^63 each, or one of them is one less, or both are.
		{"halves", three, 1, 1 << 63, acks(2, 1<<63), 1<<63 + 2, most, most, true},
		{"halves, a lesser k", three, 1, 1 << 63, acks(2, 1<<63-1), 1<<63 + 2, most, most, true},
		{"halves, a lesser Bound", three, 1, 1 << 63, acks(2, 1<<63), 1 << 63, most, most, true},
		{"halves, both less", three, 1, 1 << 63, acks(2, 1<<63-1), 1 << 63, most, most - 1, true},
	})
}

// P10.2: the lease of a configuration that is not valid does not hold, whatever Until is of it.
func TestHoldsNot(t *testing.T) {
	l := acks(2, 15, 3, 15, 64, 15, 5, 15)
	check(t, []asked{
		{"valid", and(of(1, 2, 3), 5), 1, 20, l, 10, 10, 23, true},
		{"no Voters", api.Conf{}, 1, 20, l, 10, 10, 0, false},
		{"Learners alone", and(of(), 1), 1, 20, l, 10, 10, 0, false},
		{"a voter that is learner too", and(of(1, 2, 3), 2), 1, 20, l, 10, 10, 23, false},
		{"id is voter and learner", and(of(1, 2, 3), 1), 1, 20, l, 10, 10, 23, false},
		{"descending", of(2, 1), 1, 20, l, 10, 10, 23, false},
		{"a voter twice", of(1, 1, 2), 1, 20, l, 10, 10, 28, false},
		{"a voter of 0", of(0, 1, 2), 1, 20, l, 10, 10, 23, false},
		{"a voter of 64", of(1, 2, 64), 1, 20, l, 10, 10, 23, false},
		{"id is 64, which votes", of(2, 3, 64), 64, 20, l, 10, 10, 23, false},
		{"id is 0, which votes", of(0, 2, 3), 0, 20, l, 10, 10, 23, false},
		{"63, which may be", of(2, 3, 63), 63, 20, l, 10, 10, 23, true},
		{"eight Voters", of(1, 2, 3, 4, 5, 6, 7, 8), 1, 20, acks(2, 15, 3, 15, 4, 15, 5, 15), 10, 10, 23, false},
		{"seven Voters", of(1, 2, 3, 4, 5, 6, 7), 1, 20, acks(2, 15, 3, 15, 4, 15, 5, 15), 10, 10, 23, true},
		{"four Learners", and(of(1, 2, 3), 5, 6, 7, 8), 1, 20, l, 10, 10, 23, false},
		{"three Learners", and(of(1, 2, 3), 5, 6, 7), 1, 20, l, 10, 10, 23, true},
		{"Learners descending", and(of(1, 2, 3), 6, 5), 1, 20, l, 10, 10, 23, false},
		{"a learner twice", and(of(1, 2, 3), 5, 5), 1, 20, l, 10, 10, 23, false},
		{"a learner of 0", and(of(1, 2, 3), 0), 1, 20, l, 10, 10, 23, false},
		{"a learner of 64", and(of(1, 2, 3), 64), 1, 20, l, 10, 10, 23, false},
		{"id is one of the Learners", and(of(2, 3), 1, 5), 1, 20, l, 10, 10, 23, false},
		{"id is neither", and(of(2, 3), 5), 1, 20, l, 10, 10, 23, false},
	})
}

// plainMay is valid by layer 6's words.
func plainMay(c api.Conf) bool {
	seen := map[uint64]int{}
	for _, l := range [][]uint64{c.Voters, c.Learners} {
		if !slices.IsSorted(l) {
			return false
		}
		for _, id := range l {
			seen[id]++
			if id < 1 || id > 63 || seen[id] > 1 {
				return false
			}
		}
	}
	return 0 < len(c.Voters) && len(c.Voters) <= 7 && len(c.Learners) <= 3
}

// P10.2: Until and Holds are what the plain words and numbers of any size come to, valid configuration or not.
func TestUntilIsPlain(t *testing.T) {
	r := rand.New(rand.NewSource(4))
	id := func() uint64 { return uint64(r.Intn(6)) }
	number := func() uint64 {
		if r.Intn(2) == 0 {
			return uint64(r.Intn(40))
		}
		return turning()[r.Intn(len(turning()))]
	}
	held := 0
	for range 60000 {
		c := api.Conf{}
		for n := r.Intn(6); n > 0; n-- {
			c.Voters = append(c.Voters, id())
		}
		if r.Intn(4) > 0 {
			slices.Sort(c.Voters)
			c.Voters = slices.Compact(c.Voters)
		}
		for n := r.Intn(2); n > 0; n-- {
			c.Learners = append(c.Learners, id())
		}
		var l []api.Mark
		for n := r.Intn(8); n > 0; n-- {
			l = append(l, api.Mark{Id: id(), N: number()})
		}
		leader, now, span, d := id(), number(), number(), number()
		want := plainUntil(c, leader, now, l, span, d)
		if got := lease.Until(c, leader, now, l, span, d); got != want {
			t.Fatalf("Until(%v, %d, %d, %v, %d, %d) = %d, want %d", c, leader, now, l, span, d, got, want)
		}
		holds := plainMay(c) && slices.Contains(c.Voters, leader) && now < want
		if got := lease.Holds(c, leader, now, l, span, d); got != holds {
			t.Fatalf("Holds(%v, %d, %d, %v, %d, %d) = %v", c, leader, now, l, span, d, got)
		}
		if holds {
			held++
		}
	}
	if held < 1000 {
		t.Errorf("only %d hold", held)
	}
}

// roomy is the list with room behind it that something stands in.
func roomy[T any](l []T, x T) []T {
	return append(append(make([]T, 0, len(l)+3), l...), x, x, x)[:len(l)]
}

// whole is a copy of a list, and of what stands in the room behind it.
func whole[T any](l []T) []T { return slices.Clone(l[:cap(l)]) }

// P10.2: what was passed is not written to, nor is the room behind it, and the same call answers the same again.
func TestCallsLeaveTheirArguments(t *testing.T) {
	for _, x := range []asked{
		{"acks of all", and(of(1, 2, 3), 5), 1, 20, acks(1, 3, 2, 15, 3, 12), 10, 10, 23, true},
		{"id has no ack", and(of(1, 2, 3), 5), 1, 20, acks(3, 12, 2, 15), 10, 10, 23, true},
		{"id has two acks", and(of(1, 2, 3), 5), 1, 20, acks(1, 3, 2, 15, 1, 4), 10, 10, 23, true},
		{"id is no voter", and(of(1, 2, 3), 5), 5, 20, acks(2, 15, 3, 14), 10, 10, 22, false},
		{"no ack", and(of(1, 2, 3), 5), 1, 20, nil, 10, 10, 0, false},
		{"not valid", and(of(3, 2, 1), 6, 5), 1, 20, acks(3, 12, 2, 15), 10, 10, 23, false},
	} {
		x.c.Voters, x.c.Learners = roomy(x.c.Voters, 99), roomy(x.c.Learners, 99)
		x.acks = roomy(x.acks, api.Mark{Id: 1, N: 99})
		voters, learners, marks := whole(x.c.Voters), whole(x.c.Learners), whole(x.acks)
		check(t, []asked{x, x})
		if !slices.Equal(whole(x.c.Voters), voters) || !slices.Equal(whole(x.c.Learners), learners) || !slices.Equal(whole(x.acks), marks) {
			t.Errorf("%s: written to: %v, %v, %v", x.why, whole(x.c.Voters), whole(x.c.Learners), whole(x.acks))
		}
	}
}
