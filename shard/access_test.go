package shard_test

import (
	"math"
	"slices"
	"strconv"
	"strings"
	"testing"

	"ferrule/api"
	"ferrule/shard"
)

// P13.1: ORead and OLock of a new transaction: it is known behind it, at the end, and has the lock.
func TestAccessOfNew(t *testing.T) {
	checkDo(t, []did{
		{"read, in the empty shard", "", "read 1 a", "holds: a 1 r; open: 1", nothing(0)},
		{"lock, in the empty shard", "", "lock 1 a", "holds: a 1 w; open: 1", nothing(0)},
		{"the transaction 0", "", "lock 0 a", "holds: a 0 w; open: 0", nothing(0)},
		{"with an Id", "", "read 1.7 a", "holds: a 1.7 r; open: 1.7", nothing(0)},
		{"behind others", "holds: b 3 w; open: 3, 1", "lock 2 a", "holds: b 3 w, a 2 w; open: 3, 1, 2", nothing(0)},
		{"others have other Ids", "holds: b 2.1 w; open: 2.1; done: 2.2 yes", "lock 2 a", "holds: b 2.1 w, a 2 w; open: 2.1, 2; done: 2.2 yes", nothing(0)},
		{"others are wounded", "open: 3 wounded, 1 wounded", "lock 2 a", "holds: a 2 w; open: 3 wounded, 1 wounded, 2", nothing(0)},
		{"others are firm", "holds: b 3 w; open: 3 firm b=1, 1 firm", "read 2 a", "holds: b 3 w, a 2 r; open: 3 firm b=1, 1 firm, 2", nothing(0)},
		{"others are over", "done: 3 yes, 1 no", "read 2 a", "holds: a 2 r; open: 2; done: 3 yes, 1 no", nothing(0)},
		{"it reads what others read", "holds: a 1 r, a 3 r; open: 1, 3", "read 2 a", "holds: a 1 r, a 3 r, a 2 r; open: 1, 3, 2", nothing(0)},
	})
	// It has holds already, in a shard that is not right.
	checkDo(t, []did{
		{"a hold that reads, to read", "holds: a 1 r", "read 1 a", "holds: a 1 r; open: 1", nothing(0)},
		{"a hold that writes, to read", "holds: a 1 w", "read 1 a", "holds: a 1 w; open: 1", nothing(0)},
		{"a hold that reads, to write", "holds: a 1 r", "lock 1 a", "holds: a 1 w; open: 1", nothing(0)},
	})
}

// P13.1: ORead and OLock of a transaction that is known: it is not appended again, and its locks become more.
func TestAccessOfKnown(t *testing.T) {
	checkDo(t, []did{
		{"read, without holds", "open: 1", "read 1 a", "holds: a 1 r; open: 1", nothing(0)},
		{"lock, without holds", "open: 1", "lock 1 a", "holds: a 1 w; open: 1", nothing(0)},
		{"read another key", "holds: a 1 r; open: 1", "read 1 b", "holds: a 1 r, b 1 r; open: 1", nothing(0)},
		{"lock another key", "holds: a 1 r; open: 1", "lock 1 b", "holds: a 1 r, b 1 w; open: 1", nothing(0)},
		{"read what it reads", "holds: a 1 r; open: 1", "read 1 a", "=", nothing(0)},
		{"read what it writes", "holds: a 1 w; open: 1", "read 1 a", "=", nothing(0)},
		{"lock what it writes", "holds: a 1 w; open: 1", "lock 1 a", "=", nothing(0)},
		{"lock what it reads", "holds: b 1 r, a 1 r, c 1 r; open: 1", "lock 1 a", "holds: b 1 r, a 1 w, c 1 r; open: 1", nothing(0)},
		{"between others", "holds: c 3 w; open: 3, 1, 2", "read 1 a", "holds: c 3 w, a 1 r; open: 3, 1, 2", nothing(0)},
		{"with Puts, not firm", "open: 1 a=1", "read 1 a", "holds: a 1 r; open: 1 a=1", nothing(0)},
	})
}

// P13.1: the answer has the key's row; without one, the shard's version.
func TestAccessAnswersTheRow(t *testing.T) {
	const rows = "rows: a 1 3, b  0, c 3 7; ver: 9"
	for _, x := range []struct {
		key string
		a   api.Answer
	}{
		{"a", row("1", 3)}, {"b", row("", 0)}, {"c", row("3", 7)},
		{"d", nothing(9)}, {"A", nothing(9)}, {"aa", nothing(9)}, {"\x00", nothing(9)}, {"a\x00", nothing(9)}, {"\xff", nothing(9)},
	} {
		for _, mode := range []string{"r", "w"} {
			o := api.Order{Kind: api.ORead, T: tx("1"), Key: x.key}
			if mode == "w" {
				o.Kind = api.OLock
			}
			hold := api.Hold{Key: x.key, T: tx("1"), Write: mode == "w"}
			after := at(rows + "; open: 1")
			after.Holds = append(after.Holds, hold)
			checkOne(t, mode+" new", at(rows), o, after, x.a)
			checkOne(t, mode+" known", at(rows+"; open: 1"), o, after, x.a)
			// Again: it has the lock already.
			checkOne(t, mode+" again", after, o, after, x.a)
		}
	}
	long := strings.Repeat("v", 99)
	checkDo(t, []did{
		{"no row, in a shard of the version 0", "rows: b 1 1", "read 1 a", "rows: b 1 1; holds: a 1 r; open: 1", nothing(0)},
		{"no row, and no other", "ver: 4", "lock 1 a", "holds: a 1 w; open: 1; ver: 4", nothing(4)},
		{"a version above the shard's", "rows: a 1 8; ver: 4", "lock 1 a", "rows: a 1 8; holds: a 1 w; open: 1; ver: 4", row("1", 8)},
		{"the version 0", "rows: a 1 0; ver: 4", "read 1 a", "rows: a 1 0; holds: a 1 r; open: 1; ver: 4", row("1", 0)},
		{"what is firm is not there yet", "rows: b 1 1; holds: a 2 r; open: 2 firm a=7; ver: 1", "read 1 a", "rows: b 1 1; holds: a 2 r, a 1 r; open: 2 firm a=7, 1; ver: 1", nothing(1)},
		// Rows that are not right: the first one counts.
		{"twice", "rows: a 1 3, a 2 4", "read 1 a", "rows: a 1 3, a 2 4; holds: a 1 r; open: 1", row("1", 3)},
		{"not in order", "rows: c 1 3, a 2 4, b 3 5", "read 1 a", "rows: c 1 3, a 2 4, b 3 5; holds: a 1 r; open: 1", row("2", 4)},
		{"a long value", "rows: a " + long + " 4", "lock 1 a", "rows: a " + long + " 4; holds: a 1 w; open: 1", row(long, 4)},
	})
	top := api.Shard{Rows: []api.Row{{Key: "a", Val: "1", Ver: math.MaxUint64}}, Ver: math.MaxUint64 - 1}
	if _, a := shard.Do(top, order("read 1 a")); a != row("1", math.MaxUint64) {
		t.Errorf("of the greatest version: %+v", a)
	}
	if _, a := shard.Do(top, order("read 1 b")); a != nothing(math.MaxUint64-1) {
		t.Errorf("of the greatest version, without a row: %+v", a)
	}
}

// P13.1: keys have 1 to MaxKey bytes.
func TestAccessKeys(t *testing.T) {
	for _, x := range []struct {
		key string
		ok  bool
	}{
		{"", false}, {"k", true}, {"\x00", true}, {"\xff", true}, {text(api.MaxKey - 1), true}, {text(api.MaxKey), true}, {text(api.MaxKey + 1), false},
		{text(api.MaxText), false}, {strings.Repeat("é", api.MaxKey/2), true}, {strings.Repeat("é", api.MaxKey), false}, {strings.Repeat("\x80", api.MaxKey), true}, {strings.Repeat("\x80", api.MaxKey+1), false},
	} {
		for _, kind := range []int{api.ORead, api.OLock} {
			for _, s := range []api.Shard{at("ver: 2"), at("open: 1; ver: 2"), at("rows: a 1 1; holds: b 2 w; open: 2; done: 3 no; ver: 2")} {
				o := api.Order{Kind: kind, T: tx("1"), Key: x.key}
				if !x.ok {
					checkOne(t, "a key of "+strconv.Itoa(len(x.key)), s, o, s, no(api.ErrArg))
					continue
				}
				after := s
				after.Holds = append(slices.Clone(s.Holds), api.Hold{Key: x.key, T: tx("1"), Write: kind == api.OLock})
				if len(s.Open) == 0 || s.Open[0].T != tx("1") {
					after.Open = append(slices.Clone(s.Open), openOf("1")...)
				}
				checkOne(t, "a key of "+strconv.Itoa(len(x.key)), s, o, after, nothing(2))
			}
		}
	}
	// It is refused also where it is held already, or has a row.
	long := text(api.MaxKey + 1)
	odd := api.Shard{Rows: []api.Row{{Key: long}}, Holds: []api.Hold{{Key: "", T: tx("1"), Write: true}, {Key: long, T: tx("1"), Write: true}}, Open: openOf("1")}
	checkOne(t, "held, of no byte", odd, api.Order{Kind: api.ORead, T: tx("1")}, odd, no(api.ErrArg))
	checkOne(t, "held, of too many", odd, api.Order{Kind: api.OLock, T: tx("1"), Key: long}, odd, no(api.ErrArg))
}

// P13.1: each error of ORead and OLock, and their order where several would fit.
func TestAccessErrors(t *testing.T) {
	long := text(api.MaxKey + 1)
	for _, how := range []string{"read ", "lock "} {
		checkDo(t, []did{
			// It is over: ahead of all else.
			{"over, committed", "done: 1 yes", how + "1 a", "=", over(true)},
			{"over, aborted", "done: 1 no", how + "1 a", "=", over(false)},
			{"over, between others", "done: 2 yes, 1 no, 3 yes", how + "1 a", "=", over(false)},
			{"over, a key of no byte", "done: 1 yes", how + "1 ", "=", over(true)},
			{"over, a long key", "done: 1 no", how + "1 " + long, "=", over(false)},
			{"over, with a row", "rows: a 1 1; done: 1 yes; ver: 1", how + "1 a", "=", over(true)},
			{"over, and the key is held", "holds: a 0 w; open: 0; done: 1 yes", how + "1 a", "=", over(true)},
			{"over and open", "holds: a 1 w; open: 1; done: 1 yes", how + "1 a", "=", over(true)},
			{"over and wounded", "open: 1 wounded; done: 1 no", how + "1 a", "=", over(false)},
			{"over and firm", "open: 1 firm; done: 1 yes", how + "1 a", "=", over(true)},
			{"over twice, first committed", "done: 1 yes, 1 no", how + "1 a", "=", over(true)},
			{"over twice, first aborted", "done: 1 no, 1 yes", how + "1 a", "=", over(false)},
			// The key: ahead of what the transaction is.
			{"a key of no byte", "", how + "1 ", "=", no(api.ErrArg)},
			{"a long key", "", how + "1 " + long, "=", no(api.ErrArg)},
			{"a key of no byte, wounded", "open: 1 wounded", how + "1 ", "=", no(api.ErrArg)},
			{"a long key, firm", "open: 1 firm", how + "1 " + long, "=", no(api.ErrArg)},
			{"a key of no byte, held by an elder one", "holds:  0 w; open: 0", how + "1 ", "=", no(api.ErrArg)},
			// Wounded, and firm.
			{"wounded", "open: 1 wounded", how + "1 a", "=", no(api.ErrWound)},
			{"wounded, with the hold", "holds: a 1 w; open: 1 wounded", how + "1 a", "=", no(api.ErrWound)},
			{"wounded, and held by an elder one", "holds: a 0 w; open: 0, 1 wounded", how + "1 a", "=", no(api.ErrWound)},
			{"wounded, and held by a younger one", "holds: a 2 w; open: 2, 1 wounded", how + "1 a", "=", no(api.ErrWound)},
			{"wounded and firm", "open: 1 firm wounded", how + "1 a", "=", no(api.ErrWound)},
			{"firm", "open: 1 firm", how + "1 a", "=", no(api.ErrOrder)},
			{"firm, with the hold", "holds: a 1 w; open: 1 firm a=1", how + "1 a", "=", no(api.ErrOrder)},
			{"firm, of another key", "holds: a 1 w; open: 1 firm a=1", how + "1 b", "=", no(api.ErrOrder)},
			{"firm, and held by an elder one", "holds: a 0 w; open: 0, 1 firm", how + "1 a", "=", no(api.ErrOrder)},
			// What layer 12 answers.
			{"held by an elder one", "holds: a 0 w; open: 0", how + "1 a", "=", no(api.ErrBusy)},
			{"held by an elder one, known", "holds: a 0 w, b 1 w; open: 0, 1", how + "1 a", "=", no(api.ErrBusy)},
			{"held by an elder one, with a row", "rows: a 1 1; holds: a 0 w; open: 0; ver: 1", how + "1 a", "=", no(api.ErrBusy)},
			{"held by a younger one that is firm", "holds: a 2 w; open: 2 firm a=1", how + "1 a", "=", no(api.ErrBusy)},
			{"held by a younger one that is firm, without Puts", "holds: a 2 w; open: 2 firm", how + "1 a", "=", no(api.ErrBusy)},
			// Elements that occur twice: the first one counts.
			{"wounded first", "open: 1 wounded, 1", how + "1 a", "=", no(api.ErrWound)},
			{"firm first", "open: 1 firm, 1", how + "1 a", "=", no(api.ErrOrder)},
			{"firm first, then wounded", "open: 1 firm, 1 wounded", how + "1 a", "=", no(api.ErrOrder)},
			{"wounded first, then firm", "open: 1 wounded, 1 firm", how + "1 a", "=", no(api.ErrWound)},
		})
	}
	checkDo(t, []did{
		{"an elder one reads, to write", "holds: a 0 r; open: 0", "lock 1 a", "=", no(api.ErrBusy)},
		{"an elder one reads, to read", "holds: a 0 r; open: 0", "read 1 a", "holds: a 0 r, a 1 r; open: 0, 1", nothing(0)},
		{"a firm one reads, to write", "holds: a 2 r; open: 2 firm", "lock 1 a", "=", no(api.ErrBusy)},
		{"a firm one reads, to read", "holds: a 2 r; open: 2 firm", "read 1 a", "holds: a 2 r, a 1 r; open: 2 firm, 1", nothing(0)},
		{"open first, then wounded", "open: 1, 1 wounded", "read 1 a", "holds: a 1 r; open: 1, 1 wounded", nothing(0)},
		{"open first, then firm", "open: 1, 1 firm", "lock 1 a", "holds: a 1 w; open: 1, 1 firm", nothing(0)},
		{"another one is over, wounded, firm", "open: 2 wounded, 3 firm, 1.1 wounded; done: 4 yes", "lock 1 a", "holds: a 1 w; open: 2 wounded, 3 firm, 1.1 wounded, 1; done: 4 yes", nothing(0)},
	})
}

// P13.1: who is in the way and younger is wounded, in all its elements of Open; it loses its holds, but nothing else.
func TestAccessWounds(t *testing.T) {
	checkDo(t, []did{
		{"it writes, to read", "holds: a 2 w; open: 2", "read 1 a", "holds: a 1 r; open: 2 wounded, 1", nothing(0)},
		{"it writes, to write", "holds: a 2 w; open: 2", "lock 1 a", "holds: a 1 w; open: 2 wounded, 1", nothing(0)},
		{"it reads, to write", "holds: a 2 r; open: 2", "lock 1 a", "holds: a 1 w; open: 2 wounded, 1", nothing(0)},
		{"it reads, to read", "holds: a 2 r; open: 2", "read 1 a", "holds: a 2 r, a 1 r; open: 2, 1", nothing(0)},
		{"one age, the Id is above", "holds: a 1.2 w; open: 1.2", "lock 1.1 a", "holds: a 1.1 w; open: 1.2 wounded, 1.1", nothing(0)},
		{"its other holds go too", "holds: b 2 w, a 2 w, c 3 r, d 2 r; open: 2, 3", "lock 1 a", "holds: c 3 r, a 1 w; open: 2 wounded, 3, 1", nothing(0)},
		{"several", "holds: a 3 r, b 2 w, a 2 r, a 4 r; open: 4, 5, 2, 3", "lock 1 a", "holds: a 1 w; open: 4 wounded, 5, 2 wounded, 3 wounded, 1", nothing(0)},
		{"who has another key stays", "holds: a 2 w, b 3 w; open: 2, 3", "lock 1 a", "holds: b 3 w, a 1 w; open: 2 wounded, 3, 1", nothing(0)},
		{"others are wounded, firm, over", "holds: a 2 w, b 5 w; open: 4 wounded, 2, 5 firm b=1; done: 6 yes, 7 no", "lock 1 a", "holds: b 5 w, a 1 w; open: 4 wounded, 2 wounded, 5 firm b=1, 1; done: 6 yes, 7 no", nothing(0)},
		{"who asks is known", "holds: a 2 w, b 1 r; open: 1, 2", "read 1 a", "holds: b 1 r, a 1 r; open: 1, 2 wounded", nothing(0)},
		{"who asks reads it", "holds: a 2 r, a 1 r; open: 2, 1", "lock 1 a", "holds: a 1 w; open: 2 wounded, 1", nothing(0)},
		{"with a row", "rows: a 7 3; holds: a 2 w; open: 2; ver: 3", "lock 1 a", "rows: a 7 3; holds: a 1 w; open: 2 wounded, 1; ver: 3", row("7", 3)},
		{"a firm one too: nobody", "holds: a 2 r, a 3 r; open: 2, 3 firm", "lock 1 a", "=", no(api.ErrBusy)},
		{"an elder one too: nobody", "holds: a 2 r, a 0 r; open: 2, 0", "lock 1 a", "=", no(api.ErrBusy)},
		// Shards that are not right.
		{"not known: nobody becomes wounded", "holds: a 2 w", "lock 1 a", "holds: a 1 w; open: 1", nothing(0)},
		{"all its elements", "holds: a 2 w; open: 2, 3, 2, 2 wounded", "lock 1 a", "holds: a 1 w; open: 2 wounded, 3, 2 wounded, 2 wounded, 1", nothing(0)},
		{"wounded already, with a hold", "holds: a 2 w; open: 2 wounded", "lock 1 a", "holds: a 1 w; open: 2 wounded, 1", nothing(0)},
		{"its Puts stay", "holds: a 2 w; open: 2 a=1", "lock 1 a", "holds: a 1 w; open: 2 wounded a=1, 1", nothing(0)},
		{"over, with a hold", "holds: a 2 w; done: 2 yes", "lock 1 a", "holds: a 1 w; open: 1; done: 2 yes", nothing(0)},
		{"firm in its second element", "holds: a 2 w; open: 2, 2 firm", "lock 1 a", "=", no(api.ErrBusy)},
		{"firm in its first element", "holds: a 2 w; open: 2 firm, 2", "lock 1 a", "=", no(api.ErrBusy)},
		{"firm and wounded", "holds: a 2 w; open: 2 firm wounded", "lock 1 a", "=", no(api.ErrBusy)},
		{"who asks, twice: neither is wounded", "holds: a 2 w; open: 1, 2, 1", "lock 1 a", "holds: a 1 w; open: 1, 2 wounded, 1", nothing(0)},
	})
}

// P13.1: a new transaction needs room among MaxTx; one that is known needs none.
func TestAccessFull(t *testing.T) {
	for _, how := range []string{"read", "lock"} {
		hold := api.Hold{Key: "a", T: tx("1"), Write: how == "lock"}
		for _, n := range []int{api.MaxTx - 2, api.MaxTx - 1, api.MaxTx, api.MaxTx + 1, 2 * api.MaxTx} {
			for _, s := range filled(at("ver: 3"), n) {
				after := s
				after.Open, after.Holds = append(slices.Clone(s.Open), openOf("1")...), []api.Hold{hold}
				a := nothing(3)
				if n >= api.MaxTx {
					after, a = s, no(api.ErrFull)
				}
				checkOne(t, how+" new, of "+strconv.Itoa(n), s, order(how+" 1 a"), after, a)
			}
			for _, s := range filled(at("open: 1; ver: 3"), n-1) {
				after := s
				after.Holds = []api.Hold{hold}
				checkOne(t, how+" known, of "+strconv.Itoa(n), s, order(how+" 1 a"), after, nothing(3))
			}
		}
		// The order of the errors.
		for _, x := range []did{
			{"over", "done: 1 yes", " 1 a", "=", over(true)},
			{"a key of no byte", "", " 1 ", "=", no(api.ErrArg)},
			{"wounded", "open: 1 wounded", " 1 a", "=", no(api.ErrWound)},
			{"firm", "open: 1 firm", " 1 a", "=", no(api.ErrOrder)},
			{"held by an elder one", "holds: a 0 w; open: 0", " 1 a", "=", no(api.ErrFull)},
			{"held by a younger one", "holds: a 2 w; open: 2", " 1 a", "=", no(api.ErrFull)},
			{"held by itself", "holds: a 1 w", " 1 a", "=", no(api.ErrFull)},
			{"known, held by an elder one", "holds: a 0 w; open: 0, 1", " 1 a", "=", no(api.ErrBusy)},
		} {
			for _, s := range filled(at(x.s), api.MaxTx) {
				checkOne(t, x.why, s, order(how+x.o), s, x.a)
			}
		}
	}
}

// P13.1: there may be at most MaxHold holds, as layer 12 says.
func TestAccessManyHolds(t *testing.T) {
	many := func(n int, who string) []api.Hold {
		var l []api.Hold
		for i := range n {
			l = append(l, api.Hold{Key: "h" + strconv.Itoa(i), T: tx(who), Write: true})
		}
		return l
	}
	for _, n := range []int{api.MaxHold - 1, api.MaxHold, api.MaxHold + 1} {
		s := api.Shard{Holds: many(n, "2"), Open: openOf("2, 3"), Ver: 1}
		for _, o := range orders("read 3 a, lock 3 a, read 4 a, lock 1 a, read 2 a") {
			after, a := s, no(api.ErrFull)
			if n < api.MaxHold {
				after.Holds = append(slices.Clone(s.Holds), api.Hold{Key: "a", T: o.T, Write: o.Kind == api.OLock})
				if o.T == tx("4") || o.T == tx("1") {
					after.Open = append(slices.Clone(s.Open), api.Open{T: o.T})
				}
				a = nothing(1)
			}
			checkOne(t, strconv.Itoa(n)+" holds", s, o, after, a)
		}
		checkOne(t, "wounds make room", s, order("lock 1 h5"), changed(s, func(s *api.Shard) {
			s.Holds, s.Open = holdsOf("h5 1 w"), openOf("2 wounded, 3, 1")
		}), nothing(1))
		// With too little room nobody is wounded.
		if n > api.MaxHold {
			s.Holds = append(many(n, "2"), holdsOf("a 3 w")...)
			checkOne(t, "too little room", s, order("lock 1 a"), s, no(api.ErrFull))
		}
	}
}
