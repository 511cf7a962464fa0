package mach

import (
	"strings"

	"ferrule/api"
	"ferrule/pack"
	"ferrule/rows"
)

// writer puts bytes together. Who calls it has asked whether what is written may be, so the layers below have no error here.
type writer struct{ strings.Builder }

// num writes a number.
func (w *writer) num(v uint64) {
	s, _ := pack.Num(v)
	w.WriteString(s)
}

// text writes a text.
func (w *writer) text(t string) {
	s, _ := pack.Text(t)
	w.WriteString(s)
}

// truth writes a truth value.
func (w *writer) truth(is bool) {
	if is {
		w.num(1)
	} else {
		w.num(0)
	}
}

// writeList writes a list, each element by write.
func writeList[T any](w *writer, l []T, write func(T)) {
	w.num(uint64(len(l)))
	for _, x := range l {
		write(x)
	}
}

// tx writes a transaction.
func (w *writer) tx(t api.Tx) {
	w.num(t.Age)
	w.num(t.Id)
}

// puts writes what is put.
func (w *writer) puts(l []api.Put) {
	writeList(w, l, func(p api.Put) {
		w.text(p.Key)
		w.text(p.Val)
		w.truth(p.Gone)
	})
}

// parts writes which groups take part.
func (w *writer) parts(l []uint64) {
	writeList(w, l, func(part uint64) { w.num(part) })
}

// job writes a job.
func (w *writer) job(j api.Job) {
	w.num(j.Client)
	w.num(j.Seq)
	w.num(uint64(j.O.Kind))
	w.tx(j.O.T)
	w.text(j.O.Key)
	w.puts(j.O.Puts)
	w.truth(j.O.Commit)
	w.parts(j.O.Parts)
}

// answer writes an answer.
func (w *writer) answer(a api.Answer) {
	w.num(uint64(a.Err))
	w.text(a.Val)
	w.num(a.Ver)
	w.truth(a.Found)
	w.truth(a.Commit)
}

// machine writes a machine.
func (w *writer) machine(m api.Machine) {
	w.num(uint64(m.Kind))
	switch m.Kind {
	case api.MachShard:
		w.shard(m.S)
	case api.MachCoord:
		w.coord(m.C)
	}
	writeList(w, m.Sessions, func(x api.Session) {
		w.num(x.Client)
		w.num(x.Seq)
		w.answer(x.A)
	})
}

// shard writes a shard.
func (w *writer) shard(s api.Shard) {
	l, _ := rows.Bytes(s.Rows)
	w.WriteString(l)
	writeList(w, s.Holds, func(h api.Hold) {
		w.text(h.Key)
		w.tx(h.T)
		w.truth(h.Write)
	})
	writeList(w, s.Open, func(x api.Open) {
		w.tx(x.T)
		w.truth(x.Firm)
		w.truth(x.Wounded)
		w.puts(x.Puts)
	})
	writeList(w, s.Done, func(x api.Done) {
		w.tx(x.T)
		w.truth(x.Commit)
	})
	w.num(s.Ver)
}

// coord writes a coordinator.
func (w *writer) coord(c api.Coord) {
	writeList(w, c.Deals, func(d api.Deal) {
		w.tx(d.T)
		w.parts(d.Parts)
		w.num(uint64(d.State))
	})
}
