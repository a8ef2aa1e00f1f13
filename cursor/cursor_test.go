package cursor_test

import (
	"slices"
	"testing"

	"mailcoach/api"
	"mailcoach/cursor"
)

// two: the ledgers of the chapter's example.
func two() []api.Ledger { return []api.Ledger{closed(3, 3), unclosed(5)} }

func TestExamples(t *testing.T) {
	c := api.Cursor{}
	for _, x := range []struct {
		p    api.Pos
		want api.Cursor
	}{
		{at(3, 1), cur(at(0, 0), held(3, 1, 2))},
		{at(3, 0), cur(at(3, 2))},
		{at(3, 2), cur(at(3, 3))},
		{at(5, 0), cur(at(5, 1))},
	} {
		var e api.Errno
		if c, e = cursor.Ack(two(), 1, c, x.p); e != api.OK || !same(c, x.want) {
			t.Fatalf("P14.1: Ack of %v: %v, error %d, not %v", x.p, c, e, x.want)
		}
	}
}

func TestCheck(t *testing.T) {
	for _, c := range []struct {
		name string
		c    api.Cursor
		want bool
	}{
		{"a zero one", api.Cursor{}, true},
		{"an empty list", api.Cursor{Held: []api.Held{}}, true},
		{"a mark alone", cur(at(3, 2)), true},
		{"the greatest mark", cur(at(top, top)), true},
		{"held from the mark on", cur(at(3, 2), held(3, 2, 4)), true},
		{"held behind the mark", cur(at(3, 2), held(3, 3, 4, 5, 9)), true},
		{"a ledger behind the mark's", cur(at(3, 2), held(4, 0, 1)), true},
		{"the mark's ledger and those behind", cur(at(3, 2), held(3, 7, 8), held(4, 0, 1, 2, 3), held(9, 1, 2)), true},
		{"the ledger 0", cur(at(0, 0), held(0, 0, 1)), true},
		{"the greatest ledger's greatest entries", cur(at(top, top-2), held(top, top-2, top)), true},
		{"all entries", cur(at(0, 0), held(1, 0, top), held(top, 0, top)), true},
		{"a ledger twice", cur(at(0, 0), held(3, 1, 2), held(3, 4, 5)), false},
		{"ledgers that fall", cur(at(0, 0), held(3, 1, 2), held(2, 1, 2)), false},
		{"ledgers that fall behind a while", cur(at(0, 0), held(3, 1, 2), held(7, 1, 2), held(5, 1, 2)), false},
		{"no ranges", cur(at(0, 0), held(3)), false},
		{"an empty list of ranges", cur(at(0, 0), api.Held{Ledger: 3, Ranges: []api.Range{}}), false},
		{"no ranges behind others", cur(at(0, 0), held(3, 1, 2), held(4)), false},
		{"no ranges ahead of others", cur(at(0, 0), held(3), held(4, 1, 2)), false},
		{"a range without a number", cur(at(0, 0), held(3, 1, 1)), false},
		{"a range that falls", cur(at(0, 0), held(3, 2, 1)), false},
		{"ranges that touch", cur(at(0, 0), held(3, 1, 2, 2, 3)), false},
		{"ranges that lie over each other", cur(at(0, 0), held(3, 1, 5, 2, 3)), false},
		{"ranges that fall", cur(at(0, 0), held(3, 4, 5, 1, 2)), false},
		{"ranges that touch in a ledger behind", cur(at(0, 0), held(3, 1, 2), held(4, 1, 2, 2, 3)), false},
		{"the place ahead of the mark", cur(at(3, 2), held(3, 1, 2)), false},
		{"a range round the mark", cur(at(3, 2), held(3, 1, 4)), false},
		{"a place ahead of the mark and one behind it", cur(at(3, 2), held(3, 0, 1, 3, 4)), false},
		{"a ledger ahead of the mark's", cur(at(3, 2), held(2, 7, 8)), false},
		{"a ledger ahead of the mark's, with others behind", cur(at(3, 2), held(2, 7, 8), held(3, 2, 3)), false},
		{"all ahead of the greatest mark", cur(at(top, top), held(top, 0, top)), false},
	} {
		if got := cursor.Check(c.c); got != c.want {
			t.Errorf("P14.1: Check of %s: %v", c.name, got)
		}
	}
}

func TestAcked(t *testing.T) {
	c := cur(at(3, 2), held(3, 4, 6, 8, 9), held(7, 0, 1, 5, top))
	for p, want := range map[api.Pos]bool{
		at(0, 0): true, at(2, top): true, at(3, 0): true, at(3, 1): true,
		at(3, 2): false, at(3, 3): false, at(3, 4): true, at(3, 5): true, at(3, 6): false, at(3, 8): true, at(3, 9): false, at(3, top): false,
		at(4, 0): false, at(4, 4): false, at(6, 5): false,
		at(7, 0): true, at(7, 1): false, at(7, 4): false, at(7, 5): true, at(7, top-1): true, at(7, top): false,
		at(8, 0): false, at(top, top): false,
	} {
		if got := cursor.Acked(c, p); got != want {
			t.Errorf("P14.1: Acked of %v: %v", p, got)
		}
	}
	if cursor.Acked(api.Cursor{}, api.Pos{}) || cursor.Acked(cur(at(top, top)), at(top, top)) || !cursor.Acked(cur(at(top, top)), at(top, top-1)) {
		t.Error("P14.1: Acked at the ends of all places")
	}
}

// row: what one Ack or AckAll answers.
type row struct {
	name string
	l    []api.Ledger
	open uint64
	c    api.Cursor
	p    api.Pos
	want api.Cursor
	e    api.Errno
}

// hold: calls against what they must answer.
func hold(t *testing.T, call string, by func([]api.Ledger, uint64, api.Cursor, api.Pos) (api.Cursor, api.Errno), rows []row) {
	t.Helper()
	for _, r := range rows {
		got, e := by(r.l, r.open, r.c, r.p)
		if e != r.e {
			t.Errorf("P14.1, R2: %s, %s: error %d, not %d", call, r.name, e, r.e)
		}
		if e != api.OK && !zero(got) {
			t.Errorf("R3: %s, %s: %v beside an error", call, r.name, got)
		}
		if e == api.OK && (!same(got, r.want) || !cursor.Check(got)) {
			t.Errorf("P14.1: %s, %s: %v, not %v", call, r.name, got, r.want)
		}
	}
}

func TestAck(t *testing.T) {
	three := []api.Ledger{closed(3, 3), closed(4, 0), closed(6, 2), unclosed(9)}
	hold(t, "Ack", cursor.Ack, []row{
		{"the first one", three, 2, api.Cursor{}, at(3, 0), cur(at(3, 1)), api.OK},
		{"another one", three, 2, api.Cursor{}, at(3, 2), cur(at(0, 0), held(3, 2, 3)), api.OK},
		{"one that makes a range longer", three, 2, cur(at(0, 0), held(3, 2, 3)), at(3, 1), cur(at(0, 0), held(3, 1, 3)), api.OK},
		{"one that joins two ranges", []api.Ledger{closed(3, 9)}, 0, cur(at(3, 0), held(3, 2, 3, 4, 6)), at(3, 3), cur(at(3, 0), held(3, 2, 6)), api.OK},
		{"the last one that the mark waits for", []api.Ledger{closed(3, 9)}, 0, cur(at(3, 1), held(3, 2, 5, 7, 8)), at(3, 1), cur(at(3, 5), held(3, 7, 8)), api.OK},
		{"the mark goes over a ledger's end, and one without entries", three, 2, cur(at(3, 1), held(3, 2, 3), held(6, 0, 1)), at(3, 1), cur(at(6, 1)), api.OK},
		{"the mark goes over ledgers' ends to the last entry", three, 2, cur(at(0, 0), held(3, 1, 3), held(6, 0, 2), held(9, 0, 2)), at(3, 0), cur(at(9, 2)), api.OK},
		{"the mark stays at a ledger's end", three, 2, cur(at(3, 2), held(6, 1, 2)), at(3, 2), cur(at(3, 3), held(6, 1, 2)), api.OK},
		{"the mark stays ahead of what isn't acked", three, 2, cur(at(0, 0), held(9, 1, 2)), at(6, 0), cur(at(0, 0), held(6, 0, 1), held(9, 1, 2)), api.OK},
		{"a ledger between two that are held", three, 2, cur(at(3, 1), held(3, 2, 3), held(9, 0, 1)), at(6, 1), cur(at(3, 1), held(3, 2, 3), held(6, 1, 2), held(9, 0, 1)), api.OK},
		{"a ledger behind those that are held", three, 2, cur(at(3, 1), held(3, 2, 3)), at(9, 1), cur(at(3, 1), held(3, 2, 3), held(9, 1, 2)), api.OK},
		{"a cursor that wasn't tight", three, 2, cur(at(0, 0), held(3, 0, 2)), at(9, 0), cur(at(3, 2), held(9, 0, 1)), api.OK},
		{"what is held of a ledger that was trimmed goes", three[2:], 2, cur(at(3, 1), held(3, 2, 3), held(6, 1, 2)), at(6, 0), cur(at(6, 2)), api.OK},
		{"what is held of one that was trimmed stays, where the mark does", three[2:], 2, cur(at(3, 1), held(3, 2, 3)), at(6, 1), cur(at(3, 1), held(3, 2, 3), held(6, 1, 2)), api.OK},
		{"the mark goes over what is held beyond the entries that there are", []api.Ledger{unclosed(3)}, 2, cur(at(3, 0), held(3, 1, 5)), at(3, 0), cur(at(3, 5)), api.OK},
		{"what is held behind the last entry stays, where the mark doesn't pass it", []api.Ledger{unclosed(3)}, 2, cur(at(3, 1), held(3, 3, 5)), at(3, 1), cur(at(3, 2), held(3, 3, 5)), api.OK},
		{"what is held of a ledger without entries doesn't move the mark", []api.Ledger{closed(3, 2), unclosed(5)}, 0, cur(at(3, 1), held(5, 0, 2)), at(3, 1), cur(at(3, 2), held(5, 0, 2)), api.OK},
		{"the mark goes on over what is held where there are entries alone", []api.Ledger{closed(3, 2), closed(4, 0), unclosed(5)}, 1, cur(at(3, 1), held(4, 0, 3), held(5, 0, 2)), at(3, 1), cur(at(5, 2)), api.OK},
		{"the greatest entry", []api.Ledger{unclosed(5)}, top, cur(at(5, top-2)), at(5, top-1), cur(at(5, top-2), held(5, top-1, top)), api.OK},
		{"up to the greatest entry", []api.Ledger{unclosed(5)}, top, cur(at(5, top-2), held(5, top-1, top)), at(5, top-2), cur(at(5, top)), api.OK},
		{"the greatest place", []api.Ledger{unclosed(top)}, top, cur(at(top, top-1)), at(top, top-1), cur(at(top, top)), api.OK},
		{"no ledgers", nil, 5, api.Cursor{}, at(1, 0), api.Cursor{}, api.ErrPos},
		{"a ledger that isn't there", three, 2, api.Cursor{}, at(5, 0), api.Cursor{}, api.ErrPos},
		{"behind a closed ledger's last entry", three, 2, api.Cursor{}, at(3, 3), api.Cursor{}, api.ErrPos},
		{"a ledger without entries", three, 2, api.Cursor{}, at(4, 0), api.Cursor{}, api.ErrPos},
		{"behind the open ledger's last entry", three, 2, api.Cursor{}, at(9, 2), api.Cursor{}, api.ErrPos},
		{"the greatest place of all", []api.Ledger{unclosed(top)}, top, api.Cursor{}, at(top, top), api.Cursor{}, api.ErrPos},
		{"no entry, ahead of the mark", three, 2, cur(at(9, 0)), at(4, 0), api.Cursor{}, api.ErrPos},
		{"no entry, held", three, 2, cur(at(3, 0), held(3, 5, 7)), at(3, 5), api.Cursor{}, api.ErrPos},
		{"ahead of the mark", three, 2, cur(at(3, 2)), at(3, 1), api.Cursor{}, api.ErrAcked},
		{"a ledger ahead of the mark's", three, 2, cur(at(6, 0)), at(3, 2), api.Cursor{}, api.ErrAcked},
		{"held", three, 2, cur(at(3, 0), held(3, 1, 2), held(6, 1, 2)), at(6, 1), api.Cursor{}, api.ErrAcked},
		{"held at the mark", three, 2, cur(at(3, 0), held(3, 0, 1)), at(3, 0), api.Cursor{}, api.ErrAcked},
	})
}

func TestAckAll(t *testing.T) {
	three := []api.Ledger{closed(3, 3), closed(4, 0), closed(6, 2), unclosed(9)}
	hold(t, "AckAll", cursor.AckAll, []row{
		{"the first one", three, 2, api.Cursor{}, at(3, 0), cur(at(3, 1)), api.OK},
		{"up to another one", three, 2, api.Cursor{}, at(6, 0), cur(at(6, 1)), api.OK},
		{"up to a ledger's end", three, 2, cur(at(3, 1)), at(3, 2), cur(at(3, 3)), api.OK},
		{"up to the last one", three, 2, cur(at(3, 1)), at(9, 1), cur(at(9, 2)), api.OK},
		{"what is held ahead goes", three, 2, cur(at(0, 0), held(3, 1, 3), held(6, 1, 2)), at(6, 1), cur(at(6, 2)), api.OK},
		{"what is held behind stays", three, 2, cur(at(0, 0), held(3, 2, 3), held(6, 1, 2), held(9, 1, 2)), at(3, 0), cur(at(3, 1), held(3, 2, 3), held(6, 1, 2), held(9, 1, 2)), api.OK},
		{"a range is cut", []api.Ledger{closed(3, 9)}, 0, cur(at(3, 0), held(3, 1, 5, 7, 8)), at(3, 2), cur(at(3, 5), held(3, 7, 8)), api.OK},
		{"the mark goes on over what is held", three, 2, cur(at(0, 0), held(3, 1, 3), held(6, 0, 1)), at(3, 0), cur(at(6, 1)), api.OK},
		{"a place that is held", three, 2, cur(at(0, 0), held(3, 1, 2)), at(3, 1), cur(at(3, 2)), api.OK},
		{"the mark's own place, held", three, 2, cur(at(3, 0), held(3, 0, 2)), at(3, 0), cur(at(3, 2)), api.OK},
		{"what is held of a ledger that was trimmed goes", three[2:], 2, cur(at(0, 0), held(3, 2, 3)), at(6, 0), cur(at(6, 1)), api.OK},
		{"what is held at the mark, where there is no entry, doesn't move it", []api.Ledger{unclosed(3)}, 2, cur(at(3, 0), held(3, 2, 5)), at(3, 1), cur(at(3, 2), held(3, 2, 5)), api.OK},
		{"what is held behind the last entry stays", []api.Ledger{unclosed(3)}, 2, cur(at(3, 0), held(3, 3, 5)), at(3, 1), cur(at(3, 2), held(3, 3, 5)), api.OK},
		{"up to the greatest entry", []api.Ledger{unclosed(5)}, top, api.Cursor{}, at(5, top-1), cur(at(5, top)), api.OK},
		{"up to the greatest place", []api.Ledger{unclosed(top)}, top, cur(at(7, 7), held(top, 3, top-2)), at(top, top-1), cur(at(top, top)), api.OK},
		{"no ledgers", nil, 5, api.Cursor{}, at(1, 0), api.Cursor{}, api.ErrPos},
		{"a ledger that isn't there", three, 2, api.Cursor{}, at(5, 0), api.Cursor{}, api.ErrPos},
		{"behind a closed ledger's last entry", three, 2, api.Cursor{}, at(3, 3), api.Cursor{}, api.ErrPos},
		{"behind the open ledger's last entry", three, 2, api.Cursor{}, at(9, 2), api.Cursor{}, api.ErrPos},
		{"the greatest place of all", []api.Ledger{unclosed(top)}, top, api.Cursor{}, at(top, top), api.Cursor{}, api.ErrPos},
		{"no entry, ahead of the mark", three, 2, cur(at(9, 0)), at(4, 0), api.Cursor{}, api.ErrPos},
		{"no entry, held", three, 2, cur(at(3, 0), held(3, 5, 7)), at(3, 5), api.Cursor{}, api.ErrPos},
		{"ahead of the mark", three, 2, cur(at(3, 2)), at(3, 1), api.Cursor{}, api.ErrAcked},
		{"a ledger ahead of the mark's", three, 2, cur(at(6, 0)), at(3, 2), api.Cursor{}, api.ErrAcked},
	})
}

func TestNext(t *testing.T) {
	l := []api.Ledger{closed(3, 6), closed(4, 0), closed(6, 2), unclosed(9)}
	c := cur(at(3, 1), held(3, 2, 4, 5, 6), held(6, 0, 2), held(9, 1, 2))
	all := cur(at(3, 1), held(3, 1, 6), held(6, 0, 2), held(9, 0, 3))
	for _, x := range []struct {
		l        []api.Ledger
		open     uint64
		c        api.Cursor
		from, to api.Pos
		ok       bool
	}{
		{l, 3, c, at(0, 0), at(3, 1), true},
		{l, 3, c, at(3, 0), at(3, 1), true},
		{l, 3, c, at(3, 1), at(3, 1), true},
		{l, 3, c, at(3, 2), at(3, 4), true},
		{l, 3, c, at(3, 3), at(3, 4), true},
		{l, 3, c, at(3, 4), at(3, 4), true},
		{l, 3, c, at(3, 5), at(9, 0), true},
		{l, 3, c, at(3, top), at(9, 0), true},
		{l, 3, c, at(6, 0), at(9, 0), true},
		{l, 3, c, at(9, 1), at(9, 2), true},
		{l, 3, c, at(9, 3), api.Pos{}, false},
		{l, 2, c, at(9, 1), api.Pos{}, false},
		{l, 1, c, at(3, 5), at(9, 0), true},
		{l, 0, c, at(3, 5), api.Pos{}, false},
		{l, 3, c, at(top, top), api.Pos{}, false},
		{l, 3, all, at(0, 0), api.Pos{}, false},
		{l, 4, all, at(0, 0), at(9, 3), true},
		{l, 3, api.Cursor{}, at(0, 0), at(3, 0), true},
		{l, 3, cur(at(7, 0)), at(3, 0), at(9, 0), true},
		{l, 3, cur(at(9, 3)), at(3, 0), api.Pos{}, false},
		{l, 3, cur(at(top, top)), at(0, 0), api.Pos{}, false},
		{nil, 3, api.Cursor{}, at(0, 0), api.Pos{}, false},
		{nil, 3, c, at(3, 0), api.Pos{}, false},
		{[]api.Ledger{unclosed(5)}, top, cur(at(5, 0), held(5, 0, top-1)), at(0, 0), at(5, top-1), true},
		{[]api.Ledger{unclosed(5)}, top, cur(at(5, 0), held(5, 0, top)), at(0, 0), api.Pos{}, false},
		{[]api.Ledger{unclosed(top)}, top, cur(at(top, 1), held(top, 1, top)), at(0, 0), api.Pos{}, false},
		{[]api.Ledger{unclosed(top)}, top, cur(at(top, 1), held(top, 1, top-1)), at(top, top), api.Pos{}, false},
	} {
		if p, ok := cursor.Next(x.l, x.open, x.c, x.from); p != x.to || ok != x.ok {
			t.Errorf("P14.2, R3: Next of %v, open %d, %v, from %v: %v, %v, not %v, %v", x.l, x.open, x.c, x.from, p, ok, x.to, x.ok)
		}
	}
}

func TestBacklog(t *testing.T) {
	l := []api.Ledger{closed(3, 6), closed(4, 0), closed(6, 2), unclosed(9)}
	for _, x := range []struct {
		l    []api.Ledger
		open uint64
		c    api.Cursor
		want uint64
	}{
		{l, 3, api.Cursor{}, 11},
		{l, 0, api.Cursor{}, 8},
		{l, 3, cur(at(3, 1)), 10},
		{l, 3, cur(at(3, 6)), 5},
		{l, 3, cur(at(3, top)), 5},
		{l, 3, cur(at(7, 0)), 3},
		{l, 3, cur(at(9, 3)), 0},
		{l, 3, cur(at(top, top)), 0},
		{l, 3, cur(at(3, 1), held(3, 2, 4, 5, 6), held(6, 0, 2), held(9, 1, 2)), 4},
		{l, 3, cur(at(0, 0), held(3, 0, 6), held(6, 0, 2), held(9, 0, 3)), 0},
		{l, 3, cur(at(0, 0), held(3, 5, 9, 11, 12)), 10},
		{l, 3, cur(at(0, 0), held(2, 0, 5), held(4, 0, 5), held(5, 0, 5), held(10, 0, top)), 11},
		{l, 3, cur(at(0, 0), held(9, 2, 3, 4, 7)), 10},
		{l, 5, cur(at(0, 0), held(9, 2, 3, 4, 7)), 11},
		{l, 3, cur(at(0, 0), held(9, 3, 7)), 11},
		{l[2:], 3, cur(at(0, 0), held(3, 2, 4), held(6, 1, 2)), 4},
		{nil, 3, cur(at(0, 0), held(3, 2, 4)), 0},
		{[]api.Ledger{closed(1, 1<<20), closed(top, 1<<20)}, 0, cur(at(1, 0), held(top, 7, 1<<20)), 1<<20 + 7},
		{[]api.Ledger{unclosed(5)}, top, api.Cursor{}, top},
		{[]api.Ledger{unclosed(5)}, top, cur(at(5, 1), held(5, 2, top)), 1},
		{[]api.Ledger{unclosed(top)}, top, cur(at(0, 0), held(top, 0, top)), 0},
		// There are 2^64 + 1 entries, but not so many that aren't acked.
		{[]api.Ledger{closed(4, 2), unclosed(5)}, top, cur(at(0, 0), held(5, 0, top-4)), 6},
	} {
		if got := cursor.Backlog(x.l, x.open, x.c); got != x.want {
			t.Errorf("P14.2: Backlog of %v, open %d, %v: %d, not %d", x.l, x.open, x.c, got, x.want)
		}
	}
}

// wide: ledgers and cursors of which something goes, stays, grows, is cut and joined.
func wide() ([]api.Ledger, []api.Cursor) {
	l := []api.Ledger{closed(3, 9), closed(6, 4), unclosed(9)}
	return l, []api.Cursor{
		{},
		cur(at(3, 2)),
		cur(at(3, 1), held(3, 2, 3, 4, 6)),
		cur(at(3, 1), held(3, 2, 3, 4, 6, 8, 9), held(6, 0, 1, 2, 4), held(9, 1, 2)),
		cur(at(3, 0), held(6, 0, 1, 2, 3), held(9, 0, 1, 2, 3), held(12, 5, 6, 7, 8)),
		cur(at(0, 0), held(1, 0, 1), held(2, 4, 5), held(3, 1, 9)),
	}
}

func TestWhatIsHandedInIsLeftAlone(t *testing.T) {
	l, all := wide()
	for _, c := range all {
		for _, p := range placed(l, 4) {
			for name, by := range map[string]func([]api.Ledger, uint64, api.Cursor, api.Pos) (api.Cursor, api.Errno){"Ack": cursor.Ack, "AckAll": cursor.AckAll} {
				lonely(t, name, l, c, func(l []api.Ledger, c api.Cursor) api.Cursor {
					out, _ := by(l, 4, c, p)
					return out
				})
			}
			lonely(t, "a call that answers no cursor", l, c, func(l []api.Ledger, c api.Cursor) api.Cursor {
				cursor.Check(c)
				cursor.Acked(c, p)
				cursor.Next(l, 4, c, p)
				cursor.Backlog(l, 4, c)
				cursor.Encode(c)
				return api.Cursor{}
			})
		}
	}
}

// lonely: a call changes nothing that it was handed, and its answer shares memory with nothing.
func lonely(t *testing.T, name string, l []api.Ledger, c api.Cursor, call func([]api.Ledger, api.Cursor) api.Cursor) {
	t.Helper()
	own, room := roomy(c), append(slices.Clone(l), closed(77, 7), closed(78, 7))
	before, roomBefore := whole(own), slices.Clone(room)
	out := call(room[:len(l)], own)
	want := call(slices.Clone(l), roomy(c))
	if whole(own) != before || !slices.Equal(room, roomBefore) {
		t.Fatalf("R6: %s of %v changed what it was handed, or room behind it", name, c)
	}
	for i := range out.Held {
		scribbleRanges(out.Held[i].Ranges)
		if rest := out.Held[i+1:]; !same(cur(at(0, 0), rest...), cur(at(0, 0), want.Held[i+1:]...)) {
			t.Fatalf("R6: two lists of what %s of %v answers share memory", name, c)
		}
	}
	scribble(out)
	if whole(own) != before {
		t.Fatalf("R6: %s of %v answers memory that it was handed", name, c)
	}
	again := call(room[:len(l)], own)
	scribble(own)
	if !same(again, want) {
		t.Fatalf("R6, R8: what %s of %v answers goes with what it was handed", name, c)
	}
}

// What was asked ahead is of no matter.
func TestNothingIsKept(t *testing.T) {
	l, all := wide()
	c := all[3]
	for range 3 {
		cursor.Ack(l, 4, all[4], at(3, 0))
		cursor.AckAll(l, 4, all[5], at(9, 3))
		cursor.Decode([]byte{1, 2, 3})
		cursor.Encode(all[2])
		if got, e := cursor.Ack(l, 4, c, at(3, 1)); e != api.OK || !same(got, cur(at(3, 3), held(3, 4, 6, 8, 9), held(6, 0, 1, 2, 4), held(9, 1, 2))) {
			t.Errorf("R8: Ack: %v, error %d", got, e)
		}
		if n := cursor.Backlog(l, 4, c); n != 8 {
			t.Errorf("R8: Backlog: %d", n)
		}
		if p, ok := cursor.Next(l, 4, c, at(6, 2)); p != at(9, 0) || !ok {
			t.Errorf("R8: Next: %v, %v", p, ok)
		}
	}
}
