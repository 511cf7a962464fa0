package lock_test

import (
	"math"
	"slices"
	"strconv"
	"strings"
	"testing"

	"ferrule/api"
	"ferrule/lock"
)

// asked is what Ask is asked, and what it is to answer.
type asked struct {
	why       string
	l         []api.Hold
	t, key    string
	mode      string // r or w
	firm      string
	want      []api.Hold
	wounded   string
	otherwise api.Errno // with it, the list as it was
}

// checkAsk holds Ask to what it is to answer.
func checkAsk(t *testing.T, all []asked) {
	t.Helper()
	for _, x := range all {
		want := x.want
		if x.otherwise != api.OK {
			want = x.l
		}
		l, w, e := lock.Ask(x.l, tx(x.t), x.key, x.mode == "w", txs(x.firm))
		if !slices.Equal(l, want) || !slices.Equal(w, txs(x.wounded)) || e != x.otherwise {
			t.Errorf("%s: Ask(%v, %s, %q, %s, %s) = %v, %v, %d, want %v, %s, %d", x.why, x.l, x.t, x.key, x.mode, x.firm, l, w, e, want, x.wounded, x.otherwise)
		}
	}
}

// P12.2: the chapter's example.
func TestExample(t *testing.T) {
	l, _, e := lock.Ask(nil, tx("2"), "a", false, nil)
	if !slices.Equal(l, of("a 2 r")) || e != api.OK {
		t.Fatalf("t reads: %v, %d", l, e)
	}
	checkAsk(t, []asked{{"u writes", l, "1", "a", "w", "", of("a 1 w"), "2", api.OK}})
	l, _, _ = lock.Ask(l, tx("1"), "a", true, nil)
	checkAsk(t, []asked{{"v reads", l, "3", "a", "r", "", nil, "", api.ErrBusy}})
}

// P12.2: Ask where nobody has the key, or all read: the hold is appended.
func TestAskAppends(t *testing.T) {
	checkAsk(t, []asked{
		{"nothing, to read", nil, "1", "a", "r", "", of("a 1 r"), "", api.OK},
		{"nothing, to write", nil, "1", "a", "w", "", of("a 1 w"), "", api.OK},
		{"a list without holds", []api.Hold{}, "1", "a", "w", "", of("a 1 w"), "", api.OK},
		{"the transaction 0, of a key of no byte", nil, "0", "", "r", "", of(" 0 r"), "", api.OK},
		{"all firm", nil, "1", "a", "w", "1, 2, 3", of("a 1 w"), "", api.OK},
		{"another key, of an elder one", of("b 1 w"), "2", "a", "w", "", of("b 1 w, a 2 w"), "", api.OK},
		{"another key, of a younger one", of("b 3 w"), "2", "a", "w", "", of("b 3 w, a 2 w"), "", api.OK},
		{"another key, of a firm one", of("b 3 w"), "2", "a", "w", "3", of("b 3 w, a 2 w"), "", api.OK},
		{"another key, its own", of("b 2 w"), "2", "a", "r", "", of("b 2 w, a 2 r"), "", api.OK},
		{"another key, its own and another one's", of("b 2 r, b 1 r, c 2 w"), "2", "a", "r", "", of("b 2 r, b 1 r, c 2 w, a 2 r"), "", api.OK},
		{"to read, as an elder one does", of("a 1 r"), "2", "a", "r", "", of("a 1 r, a 2 r"), "", api.OK},
		{"to read, as a younger one does", of("a 3 r"), "2", "a", "r", "", of("a 3 r, a 2 r"), "", api.OK},
		{"to read, as a firm one does", of("a 3 r"), "2", "a", "r", "3", of("a 3 r, a 2 r"), "", api.OK},
		{"to read, as several do", of("a 1 r, a 3 r, a 2.1 r"), "2", "a", "r", "1, 2.1", of("a 1 r, a 3 r, a 2.1 r, a 2 r"), "", api.OK},
		{"not in the order of keys", of("c 1 r, b 1 w"), "2", "a", "w", "", of("c 1 r, b 1 w, a 2 w"), "", api.OK},
		{"nearly the key", of("ab 1 w, b 1 w, A 1 w,  1 w"), "2", "a", "w", "", of("ab 1 w, b 1 w, A 1 w,  1 w, a 2 w"), "", api.OK},
		{"a key of no byte", of("a 1 w"), "2", "", "w", "", of("a 1 w,  2 w"), "", api.OK},
		{"keys of bytes of 0x80 and above", of("\x80 1 w, \ufffd 1 w, \xff\xff 1 w"), "2", "\xff", "w", "", of("\x80 1 w, \ufffd 1 w, \xff\xff 1 w, \xff 2 w"), "", api.OK},
		{"a list that is not right, of another key", of("b 1 w, b 3 w, b 1 r"), "2", "a", "w", "", of("b 1 w, b 3 w, b 1 r, a 2 w"), "", api.OK},
	})
	long := strings.Repeat("\xff", api.MaxText)
	checkAsk(t, []asked{{"a long key", nil, "2", long, "w", "", []api.Hold{{Key: long, T: tx("2"), Write: true}}, "", api.OK}})
}

// P12.2: Ask where the transaction has the hold already: the list is as it was, whoever else is there.
func TestAskHasIt(t *testing.T) {
	for _, x := range []struct{ l, mode, firm string }{
		{"a 2 r", "r", ""}, {"a 2 w", "r", ""}, {"a 2 w", "w", ""},
		{"a 2 w", "r", "2"}, {"a 2 w", "w", "2"}, {"a 2 r", "r", "2"},
		{"b 1 w, a 2 w, c 3 w", "w", ""}, {"b 1 w, a 2 r, c 3 w", "r", ""},
		{"a 1 r, a 2 r, a 3 r", "r", ""}, {"a 1 r, a 2 r, a 3 r", "r", "1, 3"},
		// Lists that are not right: whoever conflicts is not asked.
		{"a 3 w, a 2 r", "r", ""}, {"a 1 w, a 2 r", "r", ""}, {"a 1 w, a 2 w", "w", ""}, {"a 3 w, a 2 w", "w", "3"}, {"a 3 r, a 2 w", "w", ""}, {"a 2 w, a 1 w", "r", ""},
		// Twice, and the first one counts.
		{"a 2 w, a 2 r", "w", ""}, {"a 2 w, a 2 r", "r", ""}, {"a 2 r, a 2 w", "r", ""}, {"a 2 r, a 2 r", "r", ""}, {"a 2 w, a 2 w", "w", ""}, {"a 2 w, a 3 w, a 2 r", "w", ""}, {"a 2 w, a 1 w, a 2 r", "w", "1"},
	} {
		checkAsk(t, []asked{{"had", of(x.l), "2", "a", x.mode, x.firm, of(x.l), "", api.OK}})
	}
	checkAsk(t, []asked{
		{"a key of no byte", of(" 2 w"), "2", "", "w", "", of(" 2 w"), "", api.OK},
		{"bytes of 0x80", of("\x80 2 w"), "2", "\x80", "r", "", of("\x80 2 w"), "", api.OK},
		{"the transaction 0", of("a 0 w"), "0", "a", "w", "", of("a 0 w"), "", api.OK},
		{"full", many(api.MaxHold, "2"), "2", "k1", "w", "", many(api.MaxHold, "2"), "", api.OK},
		{"more than full", many(api.MaxHold+9, "2"), "2", "k0", "r", "", many(api.MaxHold+9, "2"), "", api.OK},
	})
}

// P12.2: Ask to write where the transaction reads: its hold becomes one that writes, at its place.
func TestAskWritesWhatItReads(t *testing.T) {
	checkAsk(t, []asked{
		{"alone", of("a 2 r"), "2", "a", "w", "", of("a 2 w"), "", api.OK},
		{"firm itself", of("a 2 r"), "2", "a", "w", "2", of("a 2 w"), "", api.OK},
		{"at the beginning", of("a 2 r, b 1 w, c 3 r"), "2", "a", "w", "", of("a 2 w, b 1 w, c 3 r"), "", api.OK},
		{"between others", of("b 1 w, a 2 r, c 3 r"), "2", "a", "w", "1, 3", of("b 1 w, a 2 w, c 3 r"), "", api.OK},
		{"between its own", of("b 2 r, a 2 r, c 2 r"), "2", "a", "w", "", of("b 2 r, a 2 w, c 2 r"), "", api.OK},
		{"a key of no byte", of("b 2 r,  2 r"), "2", "", "w", "", of("b 2 r,  2 w"), "", api.OK},
		{"a younger one goes ahead of it", of("b 3 w, a 3 r, a 2 r, c 1 w"), "2", "a", "w", "", of("a 2 w, c 1 w"), "3", api.OK},
		{"a younger one goes behind it", of("c 1 w, a 2 r, a 3 r, b 3 w"), "2", "a", "w", "", of("c 1 w, a 2 w"), "3", api.OK},
		{"younger ones go around it", of("b 3 w, d 1 r, a 4 r, a 2 r, a 3 r, e 2 r, c 4 w"), "2", "a", "w", "", of("d 1 r, a 2 w, e 2 r"), "4, 3", api.OK},
		{"an elder one reads too", of("a 1 r, a 2 r"), "2", "a", "w", "", nil, "", api.ErrBusy},
		{"a firm one reads too", of("a 2 r, a 3 r"), "2", "a", "w", "3", nil, "", api.ErrBusy},
		{"a younger one and an elder one read too", of("a 3 r, a 2 r, a 1 r"), "2", "a", "w", "", nil, "", api.ErrBusy},
		// Twice: only the first one becomes one that writes.
		{"twice", of("a 2 r, b 1 w, a 2 r"), "2", "a", "w", "", of("a 2 w, b 1 w, a 2 r"), "", api.OK},
		{"twice, the second one writes", of("a 2 r, a 2 w"), "2", "a", "w", "", of("a 2 w, a 2 w"), "", api.OK},
		{"twice, a younger one conflicts", of("a 3 w, a 2 r, a 2 w"), "2", "a", "w", "", of("a 2 w, a 2 w"), "3", api.OK},
		{"twice, an elder one conflicts", of("a 2 r, a 2 w, a 1 w"), "2", "a", "w", "", nil, "", api.ErrBusy},
	})
}

// P12.2: Ask where all that conflict are younger: they are wounded, and their holds of all keys go.
func TestAskWounds(t *testing.T) {
	checkAsk(t, []asked{
		{"it writes, to read", of("a 3 w"), "2", "a", "r", "", of("a 2 r"), "3", api.OK},
		{"it writes, to write", of("a 3 w"), "2", "a", "w", "", of("a 2 w"), "3", api.OK},
		{"it reads, to write", of("a 3 r"), "2", "a", "w", "", of("a 2 w"), "3", api.OK},
		{"one age, the Id is above", of("a 2.2 w"), "2.1", "a", "w", "", of("a 2.1 w"), "2.2", api.OK},
		{"younger, though the Id is below", of("a 3.1 w"), "2.9", "a", "w", "", of("a 2.9 w"), "3.1", api.OK},
		{"the transaction 0 is the oldest one", of("a 0.1 w"), "0", "a", "w", "", of("a 0 w"), "0.1", api.OK},
		{"a key of no byte", of(" 3 w, a 1 w"), "2", "", "w", "", of("a 1 w,  2 w"), "3", api.OK},
		{"bytes of 0x80", of("\xff 3 w, \x80 3 w, \x81 4 w"), "2", "\xff", "w", "", of("\x81 4 w, \xff 2 w"), "3", api.OK},
		// Holds of other keys go too, and others' stay in their order.
		{"its other holds, ahead", of("b 3 r, c 3 w, a 3 w"), "2", "a", "w", "", of("a 2 w"), "3", api.OK},
		{"its other holds, behind", of("a 3 w, b 3 r, c 3 w"), "2", "a", "w", "", of("a 2 w"), "3", api.OK},
		{"others' holds", of("d 1 w, b 3 r, c 2 w, a 3 w, b 4 r, e 3 w, f 2.1 r"), "2", "a", "w", "", of("d 1 w, c 2 w, b 4 r, f 2.1 r, a 2 w"), "3", api.OK},
		{"to read: who reads stays", of("a 3 r, a 4 r"), "2", "a", "r", "", of("a 3 r, a 4 r, a 2 r"), "", api.OK},
		// Several, in the order of their first conflicting holds.
		{"two", of("a 3 r, a 4 r"), "2", "a", "w", "", of("a 2 w"), "3, 4", api.OK},
		{"two, the younger one first", of("a 4 r, a 3 r"), "2", "a", "w", "", of("a 2 w"), "4, 3", api.OK},
		{"four, neither by age nor by Id", of("a 5 r, a 3.2 r, a 4 r, a 3.1 r"), "2", "a", "w", "", of("a 2 w"), "5, 3.2, 4, 3.1", api.OK},
		{"holds of other keys tell no order", of("b 3 r, b 4 r, a 4 r, a 3 r"), "2", "a", "w", "", of("a 2 w"), "4, 3", api.OK},
		{"holds of other keys do not conflict", of("b 5 w, a 4 r, c 6 w, a 3 r, b 3.1 r"), "2", "a", "w", "", of("b 5 w, c 6 w, b 3.1 r, a 2 w"), "4, 3", api.OK},
		{"an elder one's holds of other keys", of("b 1 w, a 3 w, c 3 w, d 1 r"), "2", "a", "w", "", of("b 1 w, d 1 r, a 2 w"), "3", api.OK},
		// Lists that are not right: each once, and only holds that conflict tell the order.
		{"twice", of("a 3 w, a 3 w"), "2", "a", "r", "", of("a 2 r"), "3", api.OK},
		{"twice, with another one between", of("a 3 r, a 4 r, a 3 w, a 4 w, a 3 r"), "2", "a", "w", "", of("a 2 w"), "3, 4", api.OK},
		{"to read: a hold that reads does not conflict, its second one does", of("a 3 r, a 4 w, a 3 w"), "2", "a", "r", "", of("a 2 r"), "4, 3", api.OK},
		{"to read: who writes goes, who reads stays", of("a 3 w, a 4 r, a 1 r"), "2", "a", "r", "", of("a 4 r, a 1 r, a 2 r"), "3", api.OK},
		{"to read: who writes goes with its hold that reads", of("a 3 r, a 3 w"), "2", "a", "r", "", of("a 2 r"), "3", api.OK},
	})
	top := api.Tx{Age: math.MaxUint64, Id: math.MaxUint64}
	l, w, e := lock.Ask([]api.Hold{{Key: "a", T: top, Write: true}}, api.Tx{Age: math.MaxUint64, Id: math.MaxUint64 - 1}, "a", true, nil)
	if !slices.Equal(w, []api.Tx{top}) || len(l) != 1 || l[0].T.Id != math.MaxUint64-1 || e != api.OK {
		t.Errorf("of the greatest: %v, %v, %d", l, w, e)
	}
}

// P12.2: Ask where one that conflicts need not give way: ErrBusy, and nobody is wounded.
func TestAskBusy(t *testing.T) {
	for _, x := range []struct{ why, l, t, mode, firm string }{
		{"elder, it writes, to read", "a 1 w", "2", "r", ""},
		{"elder, it writes, to write", "a 1 w", "2", "w", ""},
		{"elder, it reads, to write", "a 1 r", "2", "w", ""},
		{"one age, the Id is below", "a 2.1 w", "2.2", "w", ""},
		{"one age, the Id is 0", "a 2 w", "2.1", "r", ""},
		{"elder, though the Id is above", "a 1.9 w", "2.1", "w", ""},
		{"the transaction 0", "a 0 w", "0.1", "w", ""},
		{"elder, with other holds", "b 1 w, a 1 w, c 3 w", "2", "w", ""},
		{"elder, and firm", "a 1 w", "2", "w", "1"},
		{"firm, it writes, to read", "a 3 w", "2", "r", "3"},
		{"firm, it writes, to write", "a 3 w", "2", "w", "3"},
		{"firm, it reads, to write", "a 3 r", "2", "w", "3"},
		{"firm, of one age", "a 2.2 w", "2.1", "w", "2.2"},
		{"firm, the last of several", "a 3 w", "2", "w", "4, 5, 1, 3"},
		{"firm twice", "a 3 w", "2", "w", "3, 3"},
		{"a younger one, then an elder one", "a 3 r, a 1 r", "2", "w", ""},
		{"an elder one, then a younger one", "a 1 r, a 3 r", "2", "w", ""},
		{"an elder one between younger ones", "b 3 w, a 3 r, a 4 r, a 1 r, a 5 r", "2", "w", ""},
		{"a younger one, then a firm one", "a 3 r, a 4 r", "2", "w", "4"},
		{"a firm one, then a younger one", "a 4 r, a 3 r", "2", "w", "4"},
		{"an elder one that reads beside, to write", "b 1 w, a 1 r", "2", "w", ""},
		// Lists that are not right.
		{"its second hold conflicts, and is elder", "a 1 r, a 1 w", "2", "r", ""},
		{"its second hold conflicts, and is firm", "a 3 r, a 3 w", "2", "r", "3"},
		{"to read: a younger one and an elder one write", "a 3 w, a 1 w", "2", "r", ""},
	} {
		checkAsk(t, []asked{{x.why, of(x.l), x.t, "a", x.mode, x.firm, nil, "", api.ErrBusy}})
	}
	checkAsk(t, []asked{
		{"a key of no byte", of(" 1 w"), "2", "", "w", "", nil, "", api.ErrBusy},
		{"bytes of 0x80", of("\x80 1 w"), "2", "\x80", "r", "", nil, "", api.ErrBusy},
		// Firm ones that do not conflict hold nobody up.
		{"firm, of another key", of("b 4 w, a 3 w"), "2", "a", "w", "4", of("b 4 w, a 2 w"), "3", api.OK},
		{"firm, it reads, to read", of("a 4 r, a 3 w"), "2", "a", "r", "4", of("a 4 r, a 2 r"), "3", api.OK},
		{"firm, not there", of("a 3 w"), "2", "a", "w", "3.1, 4, 1, 0", of("a 2 w"), "3", api.OK},
		{"firm itself", of("a 3 w"), "2", "a", "w", "2", of("a 2 w"), "3", api.OK},
		{"elder, of another key", of("b 1 w, a 3 w"), "2", "a", "w", "", of("b 1 w, a 2 w"), "3", api.OK},
		{"elder, it reads, to read", of("a 1 r, a 3 w"), "2", "a", "r", "", of("a 1 r, a 2 r"), "3", api.OK},
	})
}

// P12.2: at most MaxHold holds, once the wounded ones' are gone; where there is no room the list is as it was, and nobody is wounded.
func TestAskFull(t *testing.T) {
	full, less := many(api.MaxHold, "1"), many(api.MaxHold-1, "1")
	checkAsk(t, []asked{
		{"one less, to read", less, "2", "a", "r", "", join(less, of("a 2 r")), "", api.OK},
		{"one less, to write", less, "2", "a", "w", "", join(less, of("a 2 w")), "", api.OK},
		{"full, to read", full, "2", "a", "r", "", nil, "", api.ErrFull},
		{"full, to write", full, "2", "a", "w", "", nil, "", api.ErrFull},
		{"full, of its own", many(api.MaxHold, "2"), "2", "a", "w", "", nil, "", api.ErrFull},
		{"full, to read what others read", full, "2", "k0", "r", "", nil, "", api.ErrFull},
		{"more than full", many(api.MaxHold+1, "1"), "2", "a", "w", "", nil, "", api.ErrFull},
		{"much more than full", many(5*api.MaxHold, "1"), "2", "a", "w", "", nil, "", api.ErrFull},
		// A wound makes room.
		{"full, one hold goes", join(less, of("a 3 w")), "2", "a", "r", "", join(less, of("a 2 r")), "3", api.OK},
		{"full, one hold goes, ahead", join(of("a 3 w"), less), "2", "a", "w", "", join(less, of("a 2 w")), "3", api.OK},
		{"full, several of one go", join(of("z 3 r"), many(api.MaxHold-3, "1"), of("a 3 r, y 3 w")), "2", "a", "w", "", join(many(api.MaxHold-3, "1"), of("a 2 w")), "3", api.OK},
		{"full, all of one go", many(api.MaxHold, "3"), "2", "k5", "w", "", of("k5 2 w"), "3", api.OK},
		{"more than full, two go", join(less, of("a 3 r, a 4 r")), "2", "a", "w", "", join(less, of("a 2 w")), "3, 4", api.OK},
		{"much more than full, all of one go", join(less, of("a 3 w"), many(api.MaxHold, "3")), "2", "a", "w", "", join(less, of("a 2 w")), "3", api.OK},
		// A wound makes too little room: it is none.
		{"more than full, one goes", join(full, of("a 3 w")), "2", "a", "w", "", nil, "", api.ErrFull},
		{"more than full, one with two goes", join(of("a 3 w"), full, of("b 3 w, c 1 r")), "2", "a", "w", "", nil, "", api.ErrFull},
		{"more than full, two go", join(of("a 3 r"), full, of("a 4 r")), "2", "a", "w", "", nil, "", api.ErrFull},
		// What it has needs no room.
		{"full, it reads and is to write", join(less, of("a 2 r")), "2", "a", "w", "", join(less, of("a 2 w")), "", api.OK},
		{"more than full, it reads and is to write", join(of("a 2 r"), full), "2", "a", "w", "", join(of("a 2 w"), full), "", api.OK},
		{"more than full, it reads and is to write, and one goes", join(of("a 2 r, a 3 r"), full, full), "2", "a", "w", "", join(of("a 2 w"), full, full), "3", api.OK},
		{"full, it has it", join(less, of("a 2 w")), "2", "a", "w", "", join(less, of("a 2 w")), "", api.OK},
		{"full, it has a hold of another key", join(less, of("b 2 w")), "2", "a", "w", "", nil, "", api.ErrFull},
		// Who need not give way is told ahead of what has no room.
		{"full, and an elder one conflicts", full, "2", "k1", "r", "", nil, "", api.ErrBusy},
		{"full, and a firm one conflicts", join(less, of("a 3 w")), "2", "a", "w", "3", nil, "", api.ErrBusy},
		{"more than full, and a younger and an elder one conflict", join(full, of("a 3 r, a 1 r")), "2", "a", "w", "", nil, "", api.ErrBusy},
	})
}

// P12.2: lists of every length near MaxHold, of which one with so many holds is wounded.
func TestAskMakesRoom(t *testing.T) {
	for n := api.MaxHold - 3; n <= api.MaxHold+3; n++ {
		for gone := 1; gone <= 5; gone++ {
			stay := many(n-gone, "1")
			l := join(many(gone, "3")[1:], stay, of("a 3 w"))
			x := asked{strconv.Itoa(n) + " holds, of which so many go: " + strconv.Itoa(gone), l, "2", "a", "w", "", join(stay, of("a 2 w")), "3", api.OK}
			if n-gone >= api.MaxHold {
				x.wounded, x.otherwise = "", api.ErrFull
			}
			checkAsk(t, []asked{x})
		}
	}
}

// R1: long lists of holds and of firm ones are gone through once.
func TestLongLists(t *testing.T) {
	const n = 1 << 17
	var l []api.Hold
	var firm, younger []api.Tx
	for i := range uint64(n) {
		l = append(l, api.Hold{Key: "a", T: api.Tx{Age: 3, Id: i}})
		younger = append(younger, api.Tx{Age: 3, Id: i})
		firm = append(firm, api.Tx{Age: 4, Id: i})
	}
	if !lock.Right(l) || lock.Right(append(l[:n-1:n-1], l[0])) || lock.Right(append(l[:n-1:n-1], of("a 1 w")...)) {
		t.Error("Right of a long list")
	}
	after, w, e := lock.Ask(l, tx("2"), "a", true, firm)
	if !slices.Equal(after, of("a 2 w")) || !slices.Equal(w, younger) || e != api.OK {
		t.Errorf("Ask of a long list: %d holds, %d wounded, %d", len(after), len(w), e)
	}
	after, w, e = lock.Ask(l, tx("2"), "a", true, append(firm, younger[n-1]))
	if !slices.Equal(after, l) || len(w) > 0 || e != api.ErrBusy {
		t.Errorf("Ask of a long list, the last one firm: %d holds, %d wounded, %d", len(after), len(w), e)
	}
}
