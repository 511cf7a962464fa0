package lock_test

import (
	"math/rand"
	"slices"
	"testing"

	"ferrule/api"
	"ferrule/lock"
)

// follows holds P12.3 for one request of a right list, and answers the list that results.
func follows(t *testing.T, l []api.Hold, x want, firm []api.Tx) ([]api.Hold, []api.Tx, api.Errno) {
	t.Helper()
	after, wounded, e := lock.Ask(l, x.t, x.key, x.write, firm)
	if !lock.Right(after) || !plainRight(after) || len(after) > api.MaxHold {
		t.Fatalf("Ask(%v, %v, %v) = %v: not right", l, x, firm, after)
	}
	for _, w := range wounded {
		if slices.Contains(firm, w) || !lock.Elder(x.t, w) {
			t.Fatalf("Ask(%v, %v, %v) wounds %v", l, x, firm, w)
		}
	}
	if e != api.OK {
		if !slices.Equal(after, l) || len(wounded) > 0 {
			t.Fatalf("Ask(%v, %v, %v) = %v, %v, %d", l, x, firm, after, wounded, e)
		}
		waits(t, l, x, firm, e)
		return after, wounded, e
	}
	if !lock.Has(after, x.t, x.key, x.write) {
		t.Fatalf("Ask(%v, %v, %v) = %v: it has no hold", l, x, firm, after)
	}
	loses(t, l, after, x, wounded)
	return after, wounded, e
}

// waits holds that who is refused has whom to wait for, and the oldest one only firm ones.
func waits(t *testing.T, l []api.Hold, x want, firm []api.Tx, e api.Errno) {
	t.Helper()
	forFirm, forElder := false, false
	for _, h := range l {
		if plainConflicts(h, x.t, x.key, x.write) {
			forFirm = forFirm || slices.Contains(firm, h.T)
			forElder = forElder || lock.Elder(h.T, x.t)
		}
	}
	if e == api.ErrBusy && !forFirm && !forElder {
		t.Fatalf("%v waits for nobody: %v, firm %v", x, l, firm)
	}
	oldest := !slices.ContainsFunc(l, func(h api.Hold) bool { return lock.Elder(h.T, x.t) })
	if e == api.ErrBusy && oldest && !forFirm {
		t.Fatalf("%v, the oldest one, waits, though none is firm: %v, firm %v", x, l, firm)
	}
	if e == api.ErrFull && len(l) < api.MaxHold {
		t.Fatalf("%v has no room: %v", x, l)
	}
}

// loses holds that those who are wounded lose all, and nobody else anything.
func loses(t *testing.T, l, after []api.Hold, x want, wounded []api.Tx) {
	t.Helper()
	asks := func(h api.Hold) bool { return h.T == x.t && h.Key == x.key }
	gone := func(h api.Hold) bool { return asks(h) || slices.Contains(wounded, h.T) }
	if stay, now := slices.DeleteFunc(slices.Clone(l), gone), slices.DeleteFunc(slices.Clone(after), asks); !slices.Equal(stay, now) {
		t.Fatalf("Ask(%v, %v) = %v, wounded %v", l, x, after, wounded)
	}
}

// P12.3: from no holds on, a list is right after each request and each drop; firm ones keep what they have until they drop it.
func TestRunsStayRight(t *testing.T) {
	r := rand.New(rand.NewSource(123))
	told, wounds, most := map[api.Errno]int{}, 0, 0
	for range 400 {
		all, keys := some(r, 2+r.Intn(12)), names(1+r.Intn(120))
		var l []api.Hold
		var firm []api.Tx
		for range 300 {
			switch who := oneOf(r, all); r.Intn(20) {
			case 0:
				l = lock.Drop(l, who)
				firm = slices.DeleteFunc(firm, func(x api.Tx) bool { return x == who })
				if !plainRight(l) || slices.ContainsFunc(l, func(h api.Hold) bool { return h.T == who }) {
					t.Fatalf("behind Drop of %v: %v", who, l)
				}
			case 1:
				if len(firm) < 3 {
					firm = append(firm, who)
				}
			default:
				before := l
				var wounded []api.Tx
				var e api.Errno
				l, wounded, e = follows(t, l, want{who, oneOf(r, keys), r.Intn(3) > 0}, firm)
				for _, h := range before {
					if slices.Contains(firm, h.T) && !lock.Has(l, h.T, h.Key, h.Write) {
						t.Fatalf("%v, firm, lost its hold: %v", h, l)
					}
				}
				told[e]++
				wounds += len(wounded)
				most = max(most, len(l))
			}
		}
	}
	if told[api.OK] < 3000 || told[api.ErrBusy] < 3000 || told[api.ErrFull] < 300 || wounds < 3000 || most != api.MaxHold {
		t.Errorf("too little came: errors %v, %d wounded, at most %d holds", told, wounds, most)
	}
}

// job is what a transaction is to lock, one after the other.
type job struct {
	t    api.Tx
	l    []want
	at   int
	over bool
}

// mixedJobs are jobs of transactions that differ, on few keys.
func mixedJobs(r *rand.Rand, n int) []*job {
	var l []*job
	keys := names(2 + r.Intn(4))
	for i := range n {
		j := &job{t: api.Tx{Age: uint64(r.Intn(3)), Id: uint64(i)}}
		for range 1 + r.Intn(6) {
			j.l = append(j.l, want{j.t, oneOf(r, keys), r.Intn(2) > 0})
		}
		l = append(l, j)
	}
	return l
}

// oldest is the oldest one of the jobs that are not over.
func oldest(jobs []*job) *job {
	var first *job
	for _, j := range jobs {
		if !j.over && (first == nil || lock.Elder(j.t, first.t)) {
			first = j
		}
	}
	return first
}

// P12.3: whoever runs next, the oldest one of those that are not over is never refused, and so all come to their end.
func TestOldestNeverWaits(t *testing.T) {
	r := rand.New(rand.NewSource(321))
	refused, again := 0, 0
	for range 2000 {
		jobs := mixedJobs(r, 2+r.Intn(7))
		var l []api.Hold
		for first := oldest(jobs); first != nil; first = oldest(jobs) {
			j := oneOf(r, jobs)
			if j.over {
				continue
			}
			var wounded []api.Tx
			var e api.Errno
			l, wounded, e = follows(t, l, j.l[j.at], nil)
			for _, x := range jobs {
				if slices.Contains(wounded, x.t) {
					x.at = 0 // it begins again, at the age that it has
					again++
				}
			}
			if e != api.OK {
				if j == first {
					t.Fatalf("%v, the oldest one, is refused: %d, %v", j.t, e, l)
				}
				refused++
				continue
			}
			if j.at++; j.at < len(j.l) {
				continue
			}
			for _, x := range j.l {
				if !lock.Has(l, x.t, x.key, x.write) {
					t.Fatalf("%v has not all that it asked for: %v, %v", j.t, j.l, l)
				}
			}
			l, j.over = lock.Drop(l, j.t), true
		}
		if len(l) > 0 {
			t.Fatalf("behind all: %v", l)
		}
	}
	if refused < 3000 || again < 3000 {
		t.Errorf("%d refused, %d wounded only", refused, again)
	}
}
