package ledgers_test

import (
	"slices"
	"testing"

	"mailcoach/api"
	"mailcoach/ledgers"
)

// two: the ledgers of the chapter's examples.
func two() []api.Ledger { return []api.Ledger{closed(3, 2), unclosed(5)} }

func TestExamples(t *testing.T) {
	l := two()
	if p, ok := ledgers.Next(l, 1, at(3, 2)); p != at(5, 0) || !ok {
		t.Errorf("P13.2: Next of (3, 2): %v, %v", p, ok)
	}
	if p, ok := ledgers.Next(l, 1, at(5, 1)); p != at(5, 1) || ok {
		t.Errorf("P13.2: Next of (5, 1): %v, %v", p, ok)
	}
	if n := ledgers.Between(l, 1, at(3, 1), at(5, 9)); n != 2 {
		t.Errorf("P13.2: Between (3, 1) and (5, 9): %d", n)
	}
	if got := ledgers.Trim(l, at(3, 2)); !slices.Equal(got, []api.Ledger{unclosed(5)}) {
		t.Errorf("P13.3: Trim of (3, 2): %s", text(got))
	}
}

func TestCheck(t *testing.T) {
	for _, c := range []struct {
		name string
		l    []api.Ledger
		want bool
	}{
		{"nil", nil, true},
		{"none", []api.Ledger{}, true},
		{"an open one", []api.Ledger{unclosed(1)}, true},
		{"a closed one without entries", []api.Ledger{closed(1, 0)}, true},
		{"a closed one of 2^20", []api.Ledger{closed(1, 1<<20)}, true},
		{"the least and the greatest number", []api.Ledger{closed(1, 1), unclosed(top)}, true},
		{"closed ones behind one another", []api.Ledger{closed(1, 1), closed(2, 0), closed(9, 3)}, true},
		{"64", many(64, 1), true},
		{"64, the last one open", append(many(63, 1), unclosed(64)), true},
		{"65", many(65, 1), false},
		{"65, the last one open", append(many(64, 1), unclosed(65)), false},
		{"the number 0", []api.Ledger{closed(0, 1)}, false},
		{"the number 0, open", []api.Ledger{unclosed(0)}, false},
		{"the number 0 behind another one", []api.Ledger{closed(1, 1), unclosed(0)}, false},
		{"more than 2^20", []api.Ledger{closed(1, 1<<20+1)}, false},
		{"more than 2^20, ahead of another one", []api.Ledger{closed(1, 1<<20+1), closed(2, 1)}, false},
		{"the greatest count", []api.Ledger{closed(1, top)}, false},
		{"a number twice", []api.Ledger{closed(4, 1), closed(4, 1)}, false},
		{"a number twice, the last one open", []api.Ledger{closed(4, 1), unclosed(4)}, false},
		{"numbers that fall", []api.Ledger{closed(4, 1), unclosed(3)}, false},
		{"numbers that fall behind a while", []api.Ledger{closed(4, 1), closed(6, 1), closed(5, 1)}, false},
		{"an open one ahead of an open one", []api.Ledger{unclosed(5), unclosed(6)}, false},
		{"an open one ahead of a closed one", []api.Ledger{unclosed(5), closed(6, 1)}, false},
		{"an open one between closed ones", []api.Ledger{closed(5, 1), unclosed(6), closed(7, 1)}, false},
		{"an open one with a count", []api.Ledger{{Id: 1, Count: 1}}, false},
		{"an open one with a count behind a closed one", []api.Ledger{closed(1, 1), {Id: 2, Count: 7}}, false},
	} {
		if got := ledgers.Check(c.l); got != c.want {
			t.Errorf("P13.1: Check of %s: %v", c.name, got)
		}
	}
}

func TestOpen(t *testing.T) {
	for _, c := range []struct {
		name string
		l    []api.Ledger
		id   uint64
		e    api.Errno
	}{
		{"none", nil, 1, api.OK},
		{"none, by the greatest number", []api.Ledger{}, top, api.OK},
		{"none, by 0", nil, 0, api.ErrPos},
		{"a closed one, by the next number", []api.Ledger{closed(3, 2)}, 4, api.OK},
		{"a closed one, by a far number", []api.Ledger{closed(3, 2)}, top, api.OK},
		{"a closed one without entries", []api.Ledger{closed(3, 0)}, 4, api.OK},
		{"a closed one, by 0", []api.Ledger{closed(3, 2)}, 0, api.ErrPos},
		{"a closed one, by its number", []api.Ledger{closed(3, 2)}, 3, api.ErrPos},
		{"a closed one, by a number below", []api.Ledger{closed(3, 2)}, 2, api.ErrPos},
		{"two, by one between them", []api.Ledger{closed(3, 2), closed(9, 1)}, 5, api.ErrPos},
		{"the greatest number", []api.Ledger{closed(top, 2)}, top, api.ErrPos},
		{"an open one", two(), 9, api.ErrState},
		{"an open one, by 0", two(), 0, api.ErrState},
		{"an open one, by its number", two(), 5, api.ErrState},
		{"63", many(63, 1), 64, api.OK},
		{"64", many(64, 1), 65, api.ErrMany},
		{"64, by 0", many(64, 1), 0, api.ErrPos},
		{"64, by the last one's number", many(64, 1), 64, api.ErrPos},
		{"64, the last one open", append(many(63, 1), unclosed(64)), 65, api.ErrState},
	} {
		got, e := ledgers.Open(c.l, c.id)
		if e != c.e {
			t.Errorf("P13.1, R2: Open of %s: error %d, not %d", c.name, e, c.e)
		}
		if e != api.OK && len(got) != 0 {
			t.Errorf("R3: Open of %s: %s", c.name, text(got))
		}
		if want := append(slices.Clone(c.l), unclosed(c.id)); e == api.OK && !slices.Equal(got, want) {
			t.Errorf("P13.1: Open of %s: %s, not %s", c.name, text(got), text(want))
		}
	}
}

func TestClose(t *testing.T) {
	for _, c := range []struct {
		name  string
		l     []api.Ledger
		count uint64
		e     api.Errno
	}{
		{"an open one", []api.Ledger{unclosed(3)}, 7, api.OK},
		{"an open one, without entries", []api.Ledger{unclosed(3)}, 0, api.OK},
		{"an open one, of 2^20", []api.Ledger{unclosed(3)}, 1 << 20, api.OK},
		{"one more than 2^20", []api.Ledger{unclosed(3)}, 1<<20 + 1, api.ErrMany},
		{"the greatest count", two(), top, api.ErrMany},
		{"the last of two", two(), 4, api.OK},
		{"the last of 64", append(many(63, 1), unclosed(64)), 1, api.OK},
		{"none", nil, 1, api.ErrState},
		{"none, more than 2^20", []api.Ledger{}, 1<<20 + 1, api.ErrState},
		{"a closed one", []api.Ledger{closed(3, 2)}, 2, api.ErrState},
		{"a closed one without entries", []api.Ledger{closed(3, 0)}, 2, api.ErrState},
		{"a closed one, more than 2^20", []api.Ledger{closed(3, 2)}, 1<<20 + 1, api.ErrState},
	} {
		got, e := ledgers.Close(c.l, c.count)
		if e != c.e {
			t.Errorf("P13.1, R2: Close of %s: error %d, not %d", c.name, e, c.e)
		}
		if e != api.OK {
			if len(got) != 0 {
				t.Errorf("R3: Close of %s: %s", c.name, text(got))
			}
			continue
		}
		want := slices.Clone(c.l)
		want[len(want)-1] = closed(want[len(want)-1].Id, c.count)
		if !slices.Equal(got, want) {
			t.Errorf("P13.1: Close of %s: %s, not %s", c.name, text(got), text(want))
		}
	}
}

func TestOrder(t *testing.T) {
	rising := []api.Pos{{}, at(0, 1), at(0, top), at(1, 0), at(1, 1), at(1, 9), at(1, 1<<63), at(1, top), at(2, 0), at(2, 3), at(1<<63-1, 5), at(1<<63, 4), at(top, 0), at(top, top-1), at(top, top)}
	for i, a := range rising {
		for j, b := range rising {
			want := 0
			if i < j {
				want = -1
			}
			if i > j {
				want = 1
			}
			if got := ledgers.Order(a, b); got != want {
				t.Errorf("P13.2: Order of %v and %v: %d", a, b, got)
			}
		}
	}
}

func TestNext(t *testing.T) {
	l := []api.Ledger{closed(3, 2), closed(4, 0), closed(7, 1), unclosed(9)}
	for _, c := range []struct {
		l       []api.Ledger
		open    uint64
		p, want api.Pos
		ok      bool
	}{
		{l, 1, api.Pos{}, at(3, 0), true},
		{l, 1, at(2, top), at(3, 0), true},
		{l, 1, at(3, 0), at(3, 0), true},
		{l, 1, at(3, 1), at(3, 1), true},
		{l, 1, at(3, 2), at(7, 0), true},
		{l, 1, at(3, top), at(7, 0), true},
		{l, 1, at(4, 0), at(7, 0), true},
		{l, 1, at(5, 8), at(7, 0), true},
		{l, 1, at(7, 1), at(9, 0), true},
		{l, 1, at(9, 0), at(9, 0), true},
		{l, 1, at(9, 1), at(9, 1), false},
		{l, 1, at(9, 7), at(9, 1), false},
		{l, 1, at(10, 0), at(9, 1), false},
		{l, 1, at(top, top), at(9, 1), false},
		{l, 0, at(7, 1), at(9, 0), false},
		{l, 0, at(top, 0), at(9, 0), false},
		{l, top, at(9, top-1), at(9, top-1), true},
		{l, top, at(9, top), at(9, top), false},
		{l[:3], 5, at(7, 0), at(7, 0), true},
		{l[:3], 5, at(7, 1), at(7, 1), false},
		{l[:3], 5, at(9, 0), at(7, 1), false},
		{l[:2], 5, at(3, 2), at(4, 0), false},
		{l[1:2], 5, api.Pos{}, at(4, 0), false},
		{nil, 0, api.Pos{}, api.Pos{}, false},
		{nil, 7, at(3, 1), api.Pos{}, false},
		{[]api.Ledger{}, top, at(top, top), api.Pos{}, false},
		{[]api.Ledger{unclosed(top)}, top, at(top, top), at(top, top), false},
		{[]api.Ledger{unclosed(top)}, top, at(top, top-1), at(top, top-1), true},
	} {
		if got, ok := ledgers.Next(c.l, c.open, c.p); got != c.want || ok != c.ok {
			t.Errorf("P13.2: Next of %s, open %d, %v: %v, %v, not %v, %v", text(c.l), c.open, c.p, got, ok, c.want, c.ok)
		}
		if got := ledgers.Has(c.l, c.open, c.p); got != (c.ok && c.want == c.p) {
			t.Errorf("P13.2: Has of %s, open %d, %v: %v", text(c.l), c.open, c.p, got)
		}
	}
}

func TestBehind(t *testing.T) {
	for _, c := range []struct{ p, want api.Pos }{
		{api.Pos{}, at(0, 1)},
		{at(3, 1), at(3, 2)},
		{at(3, 1<<63-1), at(3, 1<<63)},
		{at(3, top-1), at(3, top)},
		{at(3, top), at(4, 0)},
		{at(0, top), at(1, 0)},
		{at(top, 5), at(top, 6)},
		{at(top-1, top), at(top, 0)},
		{at(top, top), at(0, 0)},
	} {
		if got := ledgers.Behind(c.p); got != c.want {
			t.Errorf("P13.2: Behind of %v: %v, not %v", c.p, got, c.want)
		}
	}
}

func TestBetween(t *testing.T) {
	l := []api.Ledger{closed(3, 2), closed(4, 0), closed(7, 4), unclosed(9)}
	end := at(top, top)
	for _, c := range []struct {
		l    []api.Ledger
		open uint64
		a, b api.Pos
		want uint64
	}{
		{l, 5, api.Pos{}, end, 11},
		{l, 5, at(3, 0), at(9, 5), 11},
		{l, 5, at(3, 1), at(9, 4), 9},
		{l, 5, at(7, 1), at(7, 3), 2},
		{l, 5, at(7, 1), at(7, 9), 3},
		{l, 5, at(7, 1), at(7, 1), 0},
		{l, 5, at(7, 3), at(7, 1), 0},
		{l, 5, at(9, 0), at(3, 0), 0},
		{l, 5, end, api.Pos{}, 0},
		{l, 5, at(3, 2), at(7, 0), 0},
		{l, 5, at(3, top), at(5, 3), 0},
		{l, 5, at(5, 0), at(8, 0), 4},
		{l, 5, at(9, 5), end, 0},
		{l, 0, api.Pos{}, end, 6},
		{l[:3], 5, api.Pos{}, end, 6},
		{nil, 5, api.Pos{}, end, 0},
		{[]api.Ledger{}, top, api.Pos{}, end, 0},
		{many(64, 1), 5, api.Pos{}, end, 64},
		{[]api.Ledger{closed(1, 1<<20), closed(2, 1<<20), closed(top, 1<<20)}, 0, api.Pos{}, end, 3 << 20},
		{[]api.Ledger{unclosed(1)}, top, api.Pos{}, end, top},
		{[]api.Ledger{unclosed(top)}, top, at(top, 1), end, top - 1},
	} {
		if got := ledgers.Between(c.l, c.open, c.a, c.b); got != c.want {
			t.Errorf("P13.2: Between of %s, open %d, %v and %v: %d, not %d", text(c.l), c.open, c.a, c.b, got, c.want)
		}
	}
}

func TestTrim(t *testing.T) {
	l := []api.Ledger{closed(3, 2), closed(4, 0), closed(7, 4), unclosed(9)}
	for _, c := range []struct {
		l    []api.Ledger
		p    api.Pos
		goes int
	}{
		{l, api.Pos{}, 0},
		{l, at(2, top), 0},
		{l, at(3, 0), 0},
		{l, at(3, 1), 0},
		{l, at(3, 2), 1},
		{l, at(3, 3), 1},
		{l, at(3, top), 1},
		{l, at(4, 0), 2},
		{l, at(6, 9), 2},
		{l, at(7, 3), 2},
		{l, at(7, 4), 3},
		{l, at(8, 0), 3},
		{l, at(9, 0), 3},
		{l, at(9, 1), 3},
		{l, at(top, top), 3},
		{l[:3], at(7, 4), 3},
		{l[:3], at(7, 3), 2},
		{l[3:], at(top, top), 0},
		{[]api.Ledger{closed(3, 0)}, at(3, 0), 1},
		{[]api.Ledger{closed(3, 0)}, at(2, top), 0},
		{[]api.Ledger{closed(top, 1<<20)}, at(top, 1<<20-1), 0},
		{[]api.Ledger{closed(top, 1<<20)}, at(top, 1<<20), 1},
		{many(64, 1), at(64, 0), 63},
		{many(64, 1), at(64, 1), 64},
		{nil, at(3, 0), 0},
		{[]api.Ledger{}, at(3, 0), 0},
	} {
		if got := ledgers.Trim(c.l, c.p); !slices.Equal(got, c.l[c.goes:]) {
			t.Errorf("P13.3: Trim of %s and %v: %s", text(c.l), c.p, text(got))
		}
	}
}

// A chain of all that a topic's ledgers go through.
func TestATopicsLife(t *testing.T) {
	var l []api.Ledger
	var e api.Errno
	for id := uint64(1); id <= 64; id++ {
		if l, e = ledgers.Open(l, id); e != api.OK || !ledgers.Check(l) {
			t.Fatalf("P13.1: Open of %d: error %d, %s", id, e, text(l))
		}
		if p, ok := ledgers.Next(l, 3, at(id, 0)); p != at(id, 0) || !ok {
			t.Fatalf("P13.2: Next of (%d, 0): %v, %v", id, p, ok)
		}
		if l, e = ledgers.Close(l, id); e != api.OK || !ledgers.Check(l) {
			t.Fatalf("P13.1: Close of %d: error %d, %s", id, e, text(l))
		}
	}
	if _, e := ledgers.Open(l, 65); e != api.ErrMany {
		t.Errorf("P13.1: Open behind 64: error %d", e)
	}
	if n := ledgers.Between(l, 0, api.Pos{}, at(65, 0)); n != 64*65/2 {
		t.Errorf("P13.2: Between of all: %d", n)
	}
	l = ledgers.Trim(l, at(1, 1))
	if l, e = ledgers.Open(l, 65); e != api.OK || len(l) != 64 || l[0] != closed(2, 2) || l[63] != unclosed(65) {
		t.Errorf("P13.1, P13.3: Open behind a Trim: error %d, %s", e, text(l))
	}
	if l = ledgers.Trim(l, at(top, 0)); !slices.Equal(l, []api.Ledger{unclosed(65)}) {
		t.Errorf("P13.3: Trim of all: %s", text(l))
	}
}

// roomy: l in memory with spare room behind and with other ledgers around it, and the whole of that memory.
func roomy(l []api.Ledger) (part, whole []api.Ledger) {
	mark := closed(77, 7)
	whole = slices.Concat([]api.Ledger{mark}, l, []api.Ledger{mark, mark, mark})
	return whole[1 : 1+len(l)], whole
}

// scribble: over an answer and the spare room behind it.
func scribble(l []api.Ledger) {
	l = l[:cap(l)]
	for i := range l {
		l[i] = closed(99, 9)
	}
}

// lonely: an answer shares no memory with what was handed in, and that was left as it was.
func lonely(t *testing.T, what string, l []api.Ledger, call func(l []api.Ledger) []api.Ledger) {
	t.Helper()
	part, whole := roomy(l)
	before := slices.Clone(whole)
	answer := call(part)
	if !slices.Equal(whole, before) {
		t.Errorf("R6: %s of %s changed what it was handed, or room around it", what, text(l))
	}
	scribble(answer)
	if !slices.Equal(whole, before) {
		t.Errorf("R6: %s of %s answers memory that it was handed", what, text(l))
	}
	again := call(part)
	scribble(part)
	if later := call(slices.Clone(before[1 : 1+len(l)])); !slices.Equal(again, later) {
		t.Errorf("R6, R8: %s of %s: its answer goes with what it was handed", what, text(l))
	}
}

func TestWhatIsHandedInIsLeftAlone(t *testing.T) {
	for _, l := range append(small(3), many(63, 1), many(64, 1), append(many(63, 1), unclosed(64))) {
		lonely(t, "Open", l, func(l []api.Ledger) []api.Ledger {
			out, _ := ledgers.Open(l, 70)
			return out
		})
		lonely(t, "Close", l, func(l []api.Ledger) []api.Ledger {
			out, _ := ledgers.Close(l, 5)
			return out
		})
		for _, p := range []api.Pos{{}, at(3, 0), at(3, 1), at(4, 2), at(6, 1), at(7, 0), at(top, top)} {
			lonely(t, "Trim", l, func(l []api.Ledger) []api.Ledger { return ledgers.Trim(l, p) })
			lonely(t, "Check, Next, Has and Between", l, func(l []api.Ledger) []api.Ledger {
				ledgers.Check(l)
				ledgers.Next(l, 2, p)
				ledgers.Has(l, 2, p)
				ledgers.Between(l, 2, at(3, 1), p)
				return nil
			})
		}
	}
}

// What was asked ahead is of no matter.
func TestNothingIsKept(t *testing.T) {
	l := two()
	for range 3 {
		ledgers.Check([]api.Ledger{unclosed(0)})
		ledgers.Open(many(64, 1), 65)
		ledgers.Close(two(), 4)
		ledgers.Trim(two(), at(9, 9))
		opened, e := ledgers.Open(l[:1], 8)
		if e != api.OK || !slices.Equal(opened, []api.Ledger{closed(3, 2), unclosed(8)}) {
			t.Errorf("R8: Open: %s, error %d", text(opened), e)
		}
		shut, e := ledgers.Close(l, 6)
		if e != api.OK || !slices.Equal(shut, []api.Ledger{closed(3, 2), closed(5, 6)}) {
			t.Errorf("R8: Close: %s, error %d", text(shut), e)
		}
		if !slices.Equal(l, two()) || !ledgers.Check(l) || ledgers.Between(l, 1, api.Pos{}, at(9, 0)) != 3 {
			t.Errorf("R6, R8: %s", text(l))
		}
	}
}
