package mach_test

import (
	"strings"
	"testing"

	"ferrule/api"
	"ferrule/coord"
	"ferrule/mach"
	"ferrule/shard"
)

// What a token of an encoding is.
const (
	aNumber = iota
	aTruth
	aLength // of the text behind it
	aCount  // of the elements behind it
)

// token is a number of an encoding, with the text behind it if it is its length.
type token struct {
	what int
	v    uint64
	text string
}

// number, truth, text and count are tokens.
func number(v uint64) token { return token{what: aNumber, v: v} }
func count(n int) token     { return token{what: aCount, v: uint64(n)} }
func text(s string) token   { return token{what: aLength, v: uint64(len(s)), text: s} }
func truth(is bool) token {
	if is {
		return token{what: aTruth, v: 1}
	}
	return token{what: aTruth}
}

// inForm is a number in so many bytes: 1, 2, 4 or 8; it must be below 2^62.
func inForm(v uint64, size int) string {
	var b []byte
	for i := range size {
		b = append(b, byte(v>>(8*(size-1-i))))
	}
	b[0] |= map[int]byte{1: 0x00, 2: 0x40, 4: 0x80, 8: 0xc0}[size]
	return string(b)
}

// sizeOf is in how many bytes a number is encoded.
func sizeOf(v uint64) int {
	switch {
	case v < 1<<6:
		return 1
	case v < 1<<14:
		return 2
	case v < 1<<30:
		return 4
	}
	return 8
}

// bytesOf are the tokens' bytes.
func bytesOf(l []token) string {
	var s strings.Builder
	for _, x := range l {
		s.WriteString(inForm(x.v, sizeOf(x.v)) + x.text)
	}
	return s.String()
}

// packed: can all tokens be encoded?
func packed(l []token) bool {
	for _, x := range l {
		if x.v > api.MaxNum || x.what == aLength && x.v > api.MaxText {
			return false
		}
	}
	return true
}

// txTokens are a transaction's.
func txTokens(t api.Tx) []token { return []token{number(t.Age), number(t.Id)} }

// putTokens are those of puts.
func putTokens(l []api.Put) []token {
	all := []token{count(len(l))}
	for _, p := range l {
		all = append(all, text(p.Key), text(p.Val), truth(p.Gone))
	}
	return all
}

// partTokens are those of parts.
func partTokens(l []uint64) []token {
	all := []token{count(len(l))}
	for _, p := range l {
		all = append(all, number(p))
	}
	return all
}

// jobTokens are a job's: Client, Seq, Kind, T, Key, Puts, Commit, Parts.
func jobTokens(j api.Job) []token {
	all := []token{number(j.Client), number(j.Seq), number(uint64(j.O.Kind))}
	all = append(all, txTokens(j.O.T)...)
	all = append(all, text(j.O.Key))
	all = append(all, putTokens(j.O.Puts)...)
	all = append(all, truth(j.O.Commit))
	return append(all, partTokens(j.O.Parts)...)
}

// shardTokens are a shard's: the Rows, Holds, Open, Done, Ver.
func shardTokens(s api.Shard) []token {
	all := []token{count(len(s.Rows))}
	for _, r := range s.Rows {
		all = append(all, text(r.Key), text(r.Val), number(r.Ver))
	}
	all = append(all, count(len(s.Holds)))
	for _, h := range s.Holds {
		all = append(append(append(all, text(h.Key)), txTokens(h.T)...), truth(h.Write))
	}
	all = append(all, count(len(s.Open)))
	for _, x := range s.Open {
		all = append(append(append(all, txTokens(x.T)...), truth(x.Firm), truth(x.Wounded)), putTokens(x.Puts)...)
	}
	all = append(all, count(len(s.Done)))
	for _, x := range s.Done {
		all = append(append(all, txTokens(x.T)...), truth(x.Commit))
	}
	return append(all, number(s.Ver))
}

// coordTokens are a coordinator's.
func coordTokens(c api.Coord) []token {
	all := []token{count(len(c.Deals))}
	for _, d := range c.Deals {
		all = append(append(append(all, txTokens(d.T)...), partTokens(d.Parts)...), number(uint64(d.State)))
	}
	return all
}

// machineTokens are a machine's.
func machineTokens(m api.Machine) []token {
	all := []token{number(uint64(m.Kind))}
	if m.Kind == api.MachShard {
		all = append(all, shardTokens(m.S)...)
	}
	if m.Kind == api.MachCoord {
		all = append(all, coordTokens(m.C)...)
	}
	all = append(all, count(len(m.Sessions)))
	for _, x := range m.Sessions {
		all = append(all, number(x.Client), number(x.Seq), number(uint64(x.A.Err)), text(x.A.Val), number(x.A.Ver), truth(x.A.Found), truth(x.A.Commit))
	}
	return all
}

// jobBytes and machineBytes are encodings, whatever may be.
func jobBytes(j api.Job) string         { return bytesOf(jobTokens(j)) }
func machineBytes(m api.Machine) string { return bytesOf(machineTokens(m)) }

// parser takes bytes apart in any form; bad once they have ended too early. What it makes is of use only if its encoding is what was parsed.
type parser struct {
	s   string
	bad bool
}

// take takes so many bytes.
func (p *parser) take(n uint64) string {
	if p.bad || uint64(len(p.s)) < n {
		p.bad = true
		return ""
	}
	b := p.s[:n]
	p.s = p.s[n:]
	return b
}

func (p *parser) num() uint64 {
	first := p.take(1)
	if p.bad {
		return 0
	}
	rest := p.take([]uint64{0, 1, 3, 7}[first[0]>>6])
	v := uint64(first[0] & 0x3f)
	for i := range len(rest) {
		v = v<<8 + uint64(rest[i])
	}
	return v
}

func (p *parser) text() string { return p.take(p.num()) }
func (p *parser) truth() bool  { return p.num() == 1 }
func (p *parser) tx() api.Tx {
	age := p.num()
	return api.Tx{Age: age, Id: p.num()}
}

// each does f as often as a number says, as long as there are bytes.
func (p *parser) each(f func()) {
	for n := p.num(); n > 0 && !p.bad; n-- {
		f()
	}
}

func (p *parser) puts() []api.Put {
	var l []api.Put
	p.each(func() {
		var x api.Put
		x.Key = p.text()
		x.Val = p.text()
		x.Gone = p.truth()
		l = append(l, x)
	})
	return l
}

func (p *parser) parts() []uint64 {
	var l []uint64
	p.each(func() { l = append(l, p.num()) })
	return l
}

func (p *parser) job() api.Job {
	var j api.Job
	j.Client = p.num()
	j.Seq = p.num()
	j.O.Kind = int(p.num())
	j.O.T = p.tx()
	j.O.Key = p.text()
	j.O.Puts = p.puts()
	j.O.Commit = p.truth()
	j.O.Parts = p.parts()
	return j
}

func (p *parser) shard() api.Shard {
	var s api.Shard
	p.each(func() {
		var r api.Row
		r.Key = p.text()
		r.Val = p.text()
		r.Ver = p.num()
		s.Rows = append(s.Rows, r)
	})
	p.each(func() {
		var h api.Hold
		h.Key = p.text()
		h.T = p.tx()
		h.Write = p.truth()
		s.Holds = append(s.Holds, h)
	})
	p.each(func() {
		var x api.Open
		x.T = p.tx()
		x.Firm = p.truth()
		x.Wounded = p.truth()
		x.Puts = p.puts()
		s.Open = append(s.Open, x)
	})
	p.each(func() {
		var x api.Done
		x.T = p.tx()
		x.Commit = p.truth()
		s.Done = append(s.Done, x)
	})
	s.Ver = p.num()
	return s
}

func (p *parser) machine() api.Machine {
	m := api.Machine{Kind: int(p.num())}
	switch m.Kind {
	case api.MachShard:
		m.S = p.shard()
	case api.MachCoord:
		p.each(func() {
			var d api.Deal
			d.T = p.tx()
			d.Parts = p.parts()
			d.State = int(p.num())
			m.C.Deals = append(m.C.Deals, d)
		})
	}
	p.each(func() {
		var x api.Session
		x.Client = p.num()
		x.Seq = p.num()
		x.A.Err = api.Errno(p.num())
		x.A.Val = p.text()
		x.A.Ver = p.num()
		x.A.Found = p.truth()
		x.A.Commit = p.truth()
		m.Sessions = append(m.Sessions, x)
	})
	return m
}

// plainTakeJob is the valid job whose encoding is s, if there is one.
func plainTakeJob(s string) (api.Job, bool) {
	p := parser{s: s}
	j := p.job()
	if p.bad || jobBytes(j) != s || !plainValid(j) {
		return api.Job{}, false
	}
	return j, true
}

// plainTake is the machine that is right whose encoding is s, if there is one, and s is not too long.
func plainTake(s string) (api.Machine, bool) {
	p := parser{s: s}
	m := p.machine()
	if p.bad || machineBytes(m) != s || !plainRight(m) || len(s) > 4096 {
		return api.Machine{}, false
	}
	return m, true
}

// most is 2^62 - 1.
const most = 1<<62 - 1

// plainTx: are a transaction's numbers at most MaxNum?
func plainTx(t api.Tx) bool { return t.Age <= most && t.Id <= most }

// plainValid is the chapter's Words of a job.
func plainValid(j api.Job) bool {
	o := j.O
	if j.Client < 1 || j.Client > most || j.Seq < 1 || j.Seq > most || o.Kind < 1 || o.Kind > 7 || !plainTx(o.T) || len(o.Key) > 16 || len(o.Puts) > 8 || len(o.Parts) > 8 {
		return false
	}
	for _, p := range o.Puts {
		if len(p.Key) > 16 || len(p.Val) > 32 {
			return false
		}
	}
	for _, p := range o.Parts {
		if p > most {
			return false
		}
	}
	key := o.Kind == 1 || o.Kind == 2
	commit := o.Kind == 4 || o.Kind == 6
	return (key || o.Key == "") && (o.Kind == 3 || len(o.Puts) == 0) && (commit || !o.Commit) && (o.Kind == 5 || len(o.Parts) == 0)
}

// plainRight is the chapter's Words of a machine.
func plainRight(m api.Machine) bool {
	var who []api.Tx
	switch m.Kind {
	case 1:
		for _, h := range m.S.Holds {
			if len(h.Key) > 16 {
				return false
			}
			who = append(who, h.T)
		}
		for _, x := range m.S.Open {
			who = append(who, x.T)
		}
		for _, x := range m.S.Done {
			who = append(who, x.T)
		}
		if !shard.Right(m.S) || m.S.Ver > most || len(m.C.Deals) > 0 {
			return false
		}
	case 2:
		for _, d := range m.C.Deals {
			who = append(who, d.T)
		}
		s := m.S
		if !coord.Right(m.C) || len(s.Rows)+len(s.Holds)+len(s.Open)+len(s.Done) > 0 || s.Ver > 0 {
			return false
		}
	default:
		return false
	}
	for _, t := range who {
		if !plainTx(t) {
			return false
		}
	}
	return len(m.Sessions) <= 16 && plainSessions(m.Sessions)
}

// plainSessions: may these sessions be, however many?
func plainSessions(l []api.Session) bool {
	last := uint64(0)
	for _, x := range l {
		if x.Client <= last || x.Client > most || x.Seq < 1 || x.Seq > most || x.A.Err < 0 || x.A.Err > 14 || x.A.Ver > most || len(x.A.Val) > 32 {
			return false
		}
		last = x.Client
	}
	return true
}

// plainDo is P15.2, sentence by sentence; j is the job that data is the encoding of, if it is one.
func plainDo(m api.Machine, j api.Job, isJob bool) (api.Machine, api.Answer) {
	if !isJob {
		return m, no(api.ErrForm)
	}
	own := -1
	for i, x := range m.Sessions {
		if x.Client != j.Client {
			continue
		}
		if x.Seq == j.Seq {
			return m, x.A
		}
		if x.Seq > j.Seq {
			return m, no(api.ErrStale)
		}
		own = i
		break
	}
	if own < 0 && len(m.Sessions) >= 16 {
		return m, no(api.ErrFull)
	}
	after := trimmed(m)
	var a api.Answer
	switch m.Kind {
	case 1:
		after.S, a = shard.Do(after.S, j.O)
	case 2:
		after.C, a = coord.Do(after.C, j.O)
	default:
		return m, no(api.ErrArg)
	}
	after.Sessions = plainInsert(after.Sessions, own, api.Session{Client: j.Client, Seq: j.Seq, A: a})
	return after, a
}

// plainInsert puts a session in the place of the one at own, or, if that is below 0, before the first one whose Client is greater.
func plainInsert(l []api.Session, own int, x api.Session) []api.Session {
	var after []api.Session
	in := false
	for i, y := range l {
		if i == own {
			after = append(after, x)
			in = true
			continue
		}
		if own < 0 && !in && y.Client > x.Client {
			after = append(after, x)
			in = true
		}
		after = append(after, y)
	}
	if !in {
		after = append(after, x)
	}
	return after
}

// heldJob holds Job and TakeJob to the plain words for a job, and tells whether it is valid.
func heldJob(t *testing.T, why string, j api.Job) bool {
	t.Helper()
	s, e := mach.Job(j)
	if !plainValid(j) {
		if e != api.ErrArg || s != "" {
			t.Fatalf("%s: Job(%+v) = %x, %d, want ErrArg", why, j, s, e)
		}
		if packed(jobTokens(j)) {
			heldTakeJob(t, why, jobBytes(j))
		}
		return false
	}
	if e != api.OK || s != jobBytes(j) {
		t.Fatalf("%s: Job(%+v) = %x, %d, want %x", why, j, s, e, jobBytes(j))
	}
	heldTakeJob(t, why, s)
	return true
}

// heldTakeJob holds TakeJob to the plain words, and tells whether there is a job.
func heldTakeJob(t *testing.T, why, s string) bool {
	t.Helper()
	want, ok := plainTakeJob(s)
	j, e := mach.TakeJob(s)
	if ok && (e != api.OK || !sameJob(j, want)) || !ok && (e != api.ErrForm || !zeroJob(j)) {
		t.Fatalf("%s: TakeJob(%x) = %+v, %d, want %+v, %v", why, s, j, e, want, ok)
	}
	return ok
}

// heldMachine holds Right, Bytes and Take to the plain words for a machine, and tells whether it is right.
func heldMachine(t *testing.T, why string, m api.Machine) bool {
	t.Helper()
	want := plainRight(m)
	if mach.Right(m) != want {
		t.Fatalf("%s: Right(%+v) = %v", why, m, !want)
	}
	s, e := mach.Bytes(m)
	if packed(machineTokens(m)) {
		heldTake(t, why, machineBytes(m))
	}
	switch {
	case !want:
		if e != api.ErrArg || s != "" {
			t.Fatalf("%s: Bytes(%+v) = %x, %d, want ErrArg", why, m, s, e)
		}
	case len(machineBytes(m)) > 4096:
		if e != api.ErrBig || s != "" {
			t.Fatalf("%s: Bytes(%+v) = %x, %d, want ErrBig", why, m, s, e)
		}
	default:
		if e != api.OK || s != machineBytes(m) {
			t.Fatalf("%s: Bytes(%+v) = %x, %d, want %x", why, m, s, e, machineBytes(m))
		}
		if x, e := mach.Take(s); e != api.OK || !plainSame(x, m) || !mach.Same(x, m) {
			t.Fatalf("%s: Take(%x) = %+v, %d, want %+v", why, s, x, e, m)
		}
	}
	return want
}

// heldTake holds Take to the plain words, and tells whether there is a machine.
func heldTake(t *testing.T, why, s string) bool {
	t.Helper()
	want, ok := plainTake(s)
	m, e := mach.Take(s)
	if ok && (e != api.OK || !plainSame(m, want)) || !ok && (e != api.ErrForm || !zeroMachine(m)) {
		t.Fatalf("%s: Take(%x) = %+v, %d, want %+v, %v", why, s, m, e, want, ok)
	}
	return ok
}

// heldDo holds Do to the plain words.
func heldDo(t *testing.T, m api.Machine, data string) (api.Machine, api.Answer) {
	t.Helper()
	j, ok := plainTakeJob(data)
	wantM, wantA := plainDo(m, j, ok)
	after, a := mach.Do(m, data)
	if a != wantA || !plainSame(after, wantM) {
		t.Fatalf("Do(%+v, %x: %+v):\n got %+v, %+v\nwant %+v, %+v", m, data, j, after, a, wantM, wantA)
	}
	return after, a
}
