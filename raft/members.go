package raft

import (
	"slices"
	"strings"

	"ferrule/api"
	"ferrule/group"
	"ferrule/pack"
	"ferrule/rlog"
)

// confAt is the configuration as of a log's end.
func confAt(init api.Conf, l api.Log) api.Conf {
	if c, ok := latest(l.Entries); ok {
		return c
	}
	if c, _, ok := App(l.Snap); ok && l.Base > 0 {
		return c
	}
	return init
}

// latest is the configuration of the last one of the entries that has one.
func latest(l []api.Entry) (api.Conf, bool) {
	for _, x := range slices.Backward(l) {
		b, is := strings.CutPrefix(x.Data, configured)
		if !is {
			continue
		}
		if c, e := group.Take(b); e == api.OK {
			return c, true
		}
	}
	return api.Conf{}, false
}

// snapshot is that of a configuration and of the application's state.
func snapshot(c api.Conf, app string) string {
	// Of a configuration that is not valid Bytes are empty; Text has no error, as those of a valid one are few.
	b, _ := group.Bytes(c)
	t, _ := pack.Text(b)
	return t + app
}

// others are the members of the group but the node itself, in ascending order.
func others(n api.Node) []uint64 {
	c := Conf(n)
	members := slices.Concat(c.Voters, c.Learners)
	slices.Sort(members)
	return without(members, n.Id)
}

// rivals are the voters but the node itself, in ascending order.
func rivals(n api.Node) []uint64 { return without(Conf(n).Voters, n.Id) }

// without is another list, which does not have id.
func without(l []uint64, id uint64) []uint64 {
	return slices.DeleteFunc(slices.Clone(l), func(x uint64) bool { return x == id })
}

// busy: must a leader not yet change the group?
func busy(n api.Node) bool {
	l := n.S.Log
	// Until an entry of its own term is committed, a leader does not know that the change ahead of its own one is.
	if term, ok := rlog.TermAt(l, n.Commit); !ok || term != n.S.Term {
		return true
	}
	open, _ := rlog.From(l, n.Commit+1, len(l.Entries))
	_, changing := latest(open)
	return changing
}

// remark is a leader whose marks are those of the group's members: of nodes that are gone there are none, and those that are new begin at the log's end.
func remark(n api.Node) api.Node {
	members := others(n)
	gone := func(m api.Mark) bool { return m.Id != n.Id && !slices.Contains(members, m.Id) }
	n.Next = slices.DeleteFunc(slices.Clone(n.Next), gone)
	n.Match = slices.DeleteFunc(slices.Clone(n.Match), gone)
	for _, id := range members {
		if _, ok := group.Mark(n.Next, id); !ok {
			n.Next = group.Set(n.Next, id, end(n))
			n.Match = group.Set(n.Match, id, 0)
		}
	}
	return n
}
