package mach

import (
	"ferrule/api"
	"ferrule/pack"
	"ferrule/rows"
)

// reader takes from the beginning of rest. Where that is not of the form it panics with api.ErrForm, which taken recovers, so that what is made of many parts need not ask for an error behind each.
type reader struct{ rest string }

// taken is what take takes of all of s, if it is right.
func taken[T any](s string, take func(*reader) T, right func(T) bool) (x T, e api.Errno) {
	defer func() {
		p := recover()
		if p == nil {
			return
		}
		fault, ok := p.(api.Errno)
		if !ok {
			panic(p)
		}
		e = fault
	}()
	// A valid job has far fewer bytes than this, too; and no list that is taken can be longer.
	must(len(s) <= api.MaxText)
	r := &reader{s}
	// x is set at the end only, so that it is zero beside an error.
	whole := take(r)
	must(r.rest == "" && right(whole))
	return whole, api.OK
}

// must ends the taking unless it is ok.
func must(ok bool) {
	if !ok {
		panic(api.ErrForm)
	}
}

// num takes a number.
func (r *reader) num() uint64 {
	v, rest, e := pack.TakeNum(r.rest)
	must(e == api.OK)
	r.rest = rest
	return v
}

// upTo takes a number that is at most so great.
func (r *reader) upTo(most int) int {
	v := r.num()
	// It is asked ahead of the conversion, which could make a lesser number of a great one.
	must(v <= uint64(most))
	return int(v)
}

// text takes a text.
func (r *reader) text() string {
	t, rest, e := pack.TakeText(r.rest)
	must(e == api.OK)
	r.rest = rest
	return t
}

// truth takes a truth value.
func (r *reader) truth() bool { return r.upTo(1) == 1 }

// takeList takes a list, each element by take.
func takeList[T any](r *reader, take func() T) []T {
	// The list grows with what is found: the number is no more than what the bytes claim, and may be huge.
	var l []T
	for range r.num() {
		l = append(l, take())
	}
	return l
}

// tx takes a transaction.
func (r *reader) tx() api.Tx { return api.Tx{Age: r.num(), Id: r.num()} }

// puts takes what is put.
func (r *reader) puts() []api.Put {
	return takeList(r, func() api.Put { return api.Put{Key: r.text(), Val: r.text(), Gone: r.truth()} })
}

// parts takes which groups take part.
func (r *reader) parts() []uint64 {
	return takeList(r, func() uint64 { return r.num() })
}

// job takes a job.
func (r *reader) job() api.Job {
	return api.Job{Client: r.num(), Seq: r.num(), O: api.Order{
		Kind:   r.upTo(api.OStatus),
		T:      r.tx(),
		Key:    r.text(),
		Puts:   r.puts(),
		Commit: r.truth(),
		Parts:  r.parts(),
	}}
}

// answer takes an answer.
func (r *reader) answer() api.Answer {
	return api.Answer{Err: api.Errno(r.upTo(int(api.ErrStale))), Val: r.text(), Ver: r.num(), Found: r.truth(), Commit: r.truth()}
}

// machine takes a machine.
func (r *reader) machine() api.Machine {
	m := api.Machine{Kind: r.upTo(api.MachCoord)}
	switch m.Kind {
	case api.MachShard:
		m.S = r.shard()
	case api.MachCoord:
		m.C = r.coord()
	}
	m.Sessions = takeList(r, func() api.Session {
		return api.Session{Client: r.num(), Seq: r.num(), A: r.answer()}
	})
	return m
}

// shard takes a shard.
func (r *reader) shard() api.Shard {
	return api.Shard{
		Rows:  r.rows(),
		Holds: takeList(r, func() api.Hold { return api.Hold{Key: r.text(), T: r.tx(), Write: r.truth()} }),
		Open: takeList(r, func() api.Open {
			return api.Open{T: r.tx(), Firm: r.truth(), Wounded: r.truth(), Puts: r.puts()}
		}),
		Done: takeList(r, func() api.Done { return api.Done{T: r.tx(), Commit: r.truth()} }),
		Ver:  r.num(),
	}
}

// rows takes rows.
func (r *reader) rows() []api.Row {
	l, rest, e := rows.Take(r.rest)
	must(e == api.OK)
	r.rest = rest
	return l
}

// coord takes a coordinator.
func (r *reader) coord() api.Coord {
	return api.Coord{Deals: takeList(r, func() api.Deal {
		return api.Deal{T: r.tx(), Parts: r.parts(), State: r.upTo(api.DealAbort)}
	})}
}
