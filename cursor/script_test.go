package cursor_test

import (
	"math/rand"
	"slices"
	"testing"

	"mailcoach/api"
	"mailcoach/cursor"
	"mailcoach/ledgers"
)

// bases: where the small worlds' ledgers begin: at the least number, about the middle, and so that the last one is the greatest that there is.
var bases = []uint64{1, 1<<63 - 1, top - 2}

// world is ledgers, and how many of the open one's entries are confirmed.
type world struct {
	l    []api.Ledger
	open uint64
}

// worlds: all of two ledgers at most, numbered base and base + 2, with up to two entries each.
func worlds(base uint64) []world {
	lists := [][]api.Ledger{nil}
	for _, id := range []uint64{base, base + 2} {
		for _, l := range slices.Clone(lists) {
			for count := range uint64(3) {
				lists = append(lists, append(slices.Clone(l), closed(id, count)))
			}
		}
	}
	var all []world
	for _, l := range lists {
		all = append(all, world{l, 1})
		for _, id := range []uint64{base, base + 2} {
			if len(l) > 0 && id <= l[len(l)-1].Id {
				continue
			}
			for open := range uint64(3) {
				all = append(all, world{append(slices.Clone(l), unclosed(id)), open})
			}
		}
	}
	return all
}

// cursors: all whose marks are in or about a small world, and that hold some of its places, and of those right beside them.
func cursors(base uint64) []api.Cursor {
	places := []api.Pos{at(base, 0), at(base, 1), at(base, 2), at(base+1, 0), at(base+2, 0), at(base+2, 1), at(base+2, 2)}
	marks := []api.Pos{{}, at(base-1, top), at(base, 0), at(base, 1), at(base, 2), at(base, 3), at(base, top), at(base+1, 0), at(base+2, 0), at(base+2, 1), at(base+2, 2), at(base+2, 3), at(top, top)}
	var all []api.Cursor
	for _, mark := range marks {
		for set := range 1 << len(places) {
			m := model{mark, map[api.Pos]bool{}}
			right := true
			for i, p := range places {
				if set>>i&1 == 1 {
					m.held[p] = true
					right = right && !ahead(p, mark)
				}
			}
			if right {
				all = append(all, m.shut())
			}
		}
	}
	return all
}

// around: all places in and about a small world; where numbers go round, those at the other end are among them.
func around(base uint64) []api.Pos {
	var l []api.Pos
	for i := range uint64(5) {
		for _, entry := range []uint64{0, 1, 2, 3, top} {
			l = append(l, at(base-1+i, entry))
		}
	}
	return l
}

func TestAllSmallWorlds(t *testing.T) {
	for _, base := range bases {
		all, places := cursors(base), around(base)
		for _, w := range worlds(base) {
			if !ledgers.Check(w.l) {
				t.Fatalf("%v aren't right", w.l)
			}
			for _, c := range all {
				holdAll(t, w, c, places)
			}
		}
	}
}

// holdAll: what is told of a small cursor, and what it comes to by an ack of each place.
func holdAll(t *testing.T, w world, c api.Cursor, places []api.Pos) {
	t.Helper()
	m, all := opened(c), placed(w.l, w.open)
	if !cursor.Check(c) {
		t.Fatalf("P14.1: Check of %v", c)
	}
	if got, want := cursor.Backlog(w.l, w.open, c), plainBacklog(all, m); got != want {
		t.Fatalf("P14.2: Backlog of %v and %v: %d, not %d", w, c, got, want)
	}
	for _, p := range places {
		if got := cursor.Acked(c, p); got != m.acked(p) {
			t.Fatalf("P14.1: Acked of %v, %v: %v", c, p, got)
		}
		want, wantOk := plainNext(all, m, p)
		if got, ok := cursor.Next(w.l, w.open, c, p); got != want || ok != wantOk {
			t.Fatalf("P14.2: Next of %v and %v, from %v: %v, %v, not %v, %v", w, c, p, got, ok, want, wantOk)
		}
		next, e := cursor.Ack(w.l, w.open, c, p)
		if want, wantE := plainAck(all, c, p); e != wantE || !same(next, want) {
			t.Fatalf("P14.1: Ack of %v and %v, %v: %v, error %d, not %v, %d", w, c, p, next, e, want, wantE)
		}
		next, e = cursor.AckAll(w.l, w.open, c, p)
		if want, wantE := plainAckAll(all, c, p); e != wantE || !same(next, want) {
			t.Fatalf("P14.1: AckAll of %v and %v, %v: %v, error %d, not %v, %d", w, c, p, next, e, want, wantE)
		}
	}
}

// lists: all lists of ranges, right ones and others, of few numbers.
func lists() [][]api.Range {
	var one []api.Range
	for lo := range uint64(4) {
		for hi := range uint64(4) {
			one = append(one, api.Range{Lo: lo, Hi: hi})
		}
	}
	all := [][]api.Range{nil}
	for _, a := range one {
		all = append(all, []api.Range{a})
		for _, b := range one {
			all = append(all, []api.Range{a, b})
		}
	}
	return all
}

func TestCheckOfAllSmallCursors(t *testing.T) {
	random := rand.New(rand.NewSource(1))
	few := [][]api.Range{nil, {{Lo: 0, Hi: 1}}, {{Lo: 2, Hi: 3}}, {{Lo: 0, Hi: 1}, {Lo: 2, Hi: 3}}, {{Lo: 1, Hi: 1}}}
	right := 0
	holdCheck := func(c api.Cursor) {
		want := plainCheck(c)
		if cursor.Check(c) != want {
			t.Fatalf("P14.1: Check of %v: %v", c, !want)
		}
		b, e := cursor.Encode(c)
		got, f := cursor.Decode(plainBytes(c))
		if want {
			right++
		}
		if want && (e != api.OK || f != api.OK || !same(got, c)) || !want && (e != api.ErrState || f != api.ErrState || len(b) > 0 || !zero(got)) {
			t.Fatalf("P14.3: Encode of %v: error %d; Decode: %v, error %d", c, e, got, f)
		}
	}
	for _, mark := range []api.Pos{{}, at(1, 1), at(2, 0), at(2, 1), at(2, 2), at(3, 0)} {
		for _, id := range []uint64{1, 2, 3} {
			for _, l := range lists() {
				h := api.Held{Ledger: id, Ranges: l}
				holdCheck(cur(mark, h))
				for i := range 5 * len(few) {
					o := api.Held{Ledger: uint64(i / len(few)), Ranges: few[i%len(few)]}
					holdCheck(cur(mark, h, o))
					holdCheck(cur(mark, o, h))
					holdCheck(cur(mark, o, h, api.Held{Ledger: uint64(random.Intn(5)), Ranges: few[random.Intn(len(few))]}))
				}
			}
		}
	}
	if right < 500 {
		t.Errorf("%d were right", right)
	}
}

// topic is one that lives: its ledgers, how far the open one is, and what was acked of its places.
type topic struct {
	world
	last  uint64
	c     api.Cursor
	acked map[api.Pos]bool
}

// grow: an entry more; or another ledger; or what is acked is trimmed.
func (x *topic) grow(random *rand.Rand) {
	n := len(x.l)
	switch r := random.Intn(12); {
	case r == 0:
		x.l = ledgers.Trim(x.l, x.c.Mark)
	case n == 0 || x.l[n-1].Closed:
		x.last += 1 + uint64(random.Intn(2))
		if l, e := ledgers.Open(x.l, x.last); e == api.OK {
			x.l, x.open = l, uint64(random.Intn(3))
		}
	case r < 3:
		x.l, _ = ledgers.Close(x.l, x.open)
	default:
		x.open += uint64(random.Intn(4))
	}
}

// ack: a place, or all up to it.
func (x *topic) ack(t *testing.T, random *rand.Rand, p api.Pos, alls int) {
	t.Helper()
	all, was := placed(x.l, x.open), x.acked[p] || ahead(p, x.c.Mark)
	by := cursor.Ack
	goes := func(q api.Pos) bool { return q == p }
	if random.Intn(alls) == 0 {
		by, was = cursor.AckAll, ahead(p, x.c.Mark)
		goes = func(q api.Pos) bool { return !ahead(p, q) }
	}
	c, e := by(x.l, x.open, x.c, p)
	switch {
	case !slices.Contains(all, p):
		if e != api.ErrPos || !zero(c) {
			t.Fatalf("P14.1: an ack of %v, where there is no entry: %v, error %d", p, c, e)
		}
		return
	case was:
		if e != api.ErrAcked || !zero(c) {
			t.Fatalf("P14.1: an ack of %v, that is acked: %v, error %d", p, c, e)
		}
		return
	case e != api.OK:
		t.Fatalf("P14.1: an ack of %v: error %d", p, e)
	}
	for _, q := range all {
		if goes(q) {
			x.acked[q] = true
		}
	}
	if ahead(c.Mark, x.c.Mark) {
		t.Fatalf("P14.1: by an ack of %v the mark went from %v to %v", p, x.c.Mark, c.Mark)
	}
	x.c = c
	holdTight(t, x)
}

// holdTight: the next entry from the mark on isn't acked, and nothing is held that isn't there.
func holdTight(t *testing.T, x *topic) {
	t.Helper()
	if p, ok := ledgers.Next(x.l, x.open, x.c.Mark); ok && x.acked[p] {
		t.Fatalf("P14.1: %v of %v isn't tight", x.c, x.world)
	}
	if !cursor.Check(x.c) {
		t.Fatalf("P14.1: %v isn't right", x.c)
	}
	for p := range opened(x.c).held {
		if !x.acked[p] {
			t.Fatalf("P14.1: %v holds %v", x.c, p)
		}
	}
}

// holdTopic: what is told of all places is what was acked; a cursor's bytes tell the same.
func holdTopic(t *testing.T, x *topic) {
	t.Helper()
	all, n := placed(x.l, x.open), uint64(0)
	var open []api.Pos
	for _, p := range all {
		if cursor.Acked(x.c, p) != x.acked[p] {
			t.Fatalf("P14.1: Acked of %v and %v: %v", x.c, p, !x.acked[p])
		}
		if !x.acked[p] {
			n++
			open = append(open, p)
		}
	}
	if got := cursor.Backlog(x.l, x.open, x.c); got != n {
		t.Fatalf("P14.2: Backlog of %v and %v: %d, not %d", x.world, x.c, got, n)
	}
	from := api.Pos{}
	for _, p := range open {
		if got, ok := cursor.Next(x.l, x.open, x.c, from); got != p || !ok {
			t.Fatalf("P14.2: Next of %v and %v, from %v: %v, %v, not %v", x.world, x.c, from, got, ok, p)
		}
		from = ledgers.Behind(p)
	}
	if got, ok := cursor.Next(x.l, x.open, x.c, from); got != (api.Pos{}) || ok {
		t.Fatalf("P14.2: Next of %v and %v, from %v: %v, %v", x.world, x.c, from, got, ok)
	}
	b, e := cursor.Encode(x.c)
	c, f := cursor.Decode(b)
	if e != api.OK || f != api.OK || !same(c, x.c) {
		t.Fatalf("P14.3: Encode and Decode of %v: errors %d, %d, %v", x.c, e, f, c)
	}
	x.c = c
}

// Topics that grow and are trimmed, while their places are acked in any order.
func TestLives(t *testing.T) {
	random := rand.New(rand.NewSource(41))
	for life := range 40 {
		x := &topic{acked: map[api.Pos]bool{}}
		alls := []int{4, 40, 100000}[life%3]
		for range 300 {
			if random.Intn(3) == 0 {
				x.grow(random)
			}
			all := placed(x.l, x.open)
			p := at(uint64(random.Intn(int(x.last)+2)), uint64(random.Intn(6)))
			if len(all) > 0 && random.Intn(5) > 0 {
				p = all[random.Intn(len(all))]
			}
			x.ack(t, random, p, alls)
			holdTopic(t, x)
		}
		if len(x.acked) < 50 {
			t.Errorf("the life %d has %d acked", life, len(x.acked))
		}
	}
}

// far: right ledgers and a right cursor anywhere among all numbers.
func far(random *rand.Rand) (world, api.Cursor) {
	var ids []uint64
	for range 1 + random.Intn(12) {
		ids = append(ids, 1+random.Uint64()>>(1+random.Intn(63)))
	}
	slices.Sort(ids)
	ids = slices.Compact(ids)
	var w world
	var c api.Cursor
	w.open = random.Uint64() >> random.Intn(64)
	for _, id := range ids {
		if random.Intn(3) > 0 {
			w.l = append(w.l, closed(id, uint64(random.Intn(1<<20+1))>>random.Intn(21)))
		}
		if h := farHeld(random, id, w); len(h.Ranges) > 0 && random.Intn(3) > 0 {
			c.Held = append(c.Held, h)
		}
	}
	if n := len(w.l); n > 0 && random.Intn(2) == 0 {
		w.l[n-1] = unclosed(w.l[n-1].Id)
	}
	if len(c.Held) > 0 {
		c.Mark = at(c.Held[0].Ledger, c.Held[0].Ranges[0].Lo-min(c.Held[0].Ranges[0].Lo, uint64(random.Intn(2))))
	}
	return w, c
}

// farHeld: ranges of a ledger, between few numbers where something ends, and any others.
func farHeld(random *rand.Rand, id uint64, w world) api.Held {
	ends := []uint64{0, 1, w.open, w.open - min(1, w.open), random.Uint64() >> random.Intn(64), random.Uint64() >> random.Intn(64), 1 << 20, top}
	for _, x := range w.l {
		ends = append(ends, x.Count, x.Count+1)
	}
	random.Shuffle(len(ends), func(i, j int) { ends[i], ends[j] = ends[j], ends[i] })
	ends = ends[:2*(1+random.Intn(4))]
	slices.Sort(ends)
	ends = slices.Compact(ends)
	return held(id, ends[:len(ends)/2*2]...)
}

// turns: places at which something may change: in order, all that lie between two of them, that aren't beside one, are alike.
func turns(w world, c api.Cursor) []api.Pos {
	l := []api.Pos{{}, c.Mark}
	for _, x := range w.l {
		l = append(l, at(x.Id, 0), at(x.Id, size(x, w.open)))
	}
	for _, h := range c.Held {
		for _, r := range h.Ranges {
			l = append(l, at(h.Ledger, r.Lo), at(h.Ledger, r.Hi))
		}
	}
	slices.SortFunc(l, ledgers.Order)
	return slices.Compact(l)
}

// there: is there an entry?
func (w world) there(p api.Pos) bool {
	return slices.ContainsFunc(w.l, func(x api.Ledger) bool { return x.Id == p.Ledger && p.Entry < size(x, w.open) })
}

// farAcked: by the document's words.
func farAcked(c api.Cursor, p api.Pos) bool {
	return ahead(p, c.Mark) || slices.ContainsFunc(c.Held, func(h api.Held) bool {
		return h.Ledger == p.Ledger && slices.ContainsFunc(h.Ranges, func(r api.Range) bool { return r.Lo <= p.Entry && p.Entry < r.Hi })
	})
}

// farNext: what isn't acked begins at a turn, or at the place that is asked from.
func farNext(w world, c api.Cursor, l []api.Pos, from api.Pos) (api.Pos, bool) {
	for _, p := range append([]api.Pos{from}, l...) {
		if !ahead(p, from) && w.there(p) && !farAcked(c, p) {
			return p, true
		}
	}
	return api.Pos{}, false
}

// farBacklog: stretch by stretch, from each turn to the next one; as a uint64 it goes round.
func farBacklog(w world, c api.Cursor, l []api.Pos) uint64 {
	var n uint64
	for i, p := range l {
		if w.there(p) && !farAcked(c, p) {
			// A ledger's end is a turn: what is there ends in the same ledger.
			n += l[i+1].Entry - p.Entry
		}
	}
	return n
}

// farTight: the first entry from the mark on isn't held; where it is, at the mark or behind it, there is a turn.
func farTight(w world, c api.Cursor) bool {
	l := turns(w, c)
	i := slices.IndexFunc(l, func(p api.Pos) bool { return !ahead(p, c.Mark) && w.there(p) })
	return i < 0 || !farAcked(c, l[i])
}

func TestFarCursors(t *testing.T) {
	random := rand.New(rand.NewSource(5))
	for range 3000 {
		w, c := far(random)
		if !ledgers.Check(w.l) || !cursor.Check(c) {
			t.Fatalf("P14.1: %v or %v isn't right", w.l, c)
		}
		l := turns(w, c)
		if got, want := cursor.Backlog(w.l, w.open, c), farBacklog(w, c, l); got != want {
			t.Fatalf("P14.2: Backlog of %v and %v: %d, not %d", w, c, got, want)
		}
		for _, p := range l {
			for _, q := range []api.Pos{p, at(p.Ledger, p.Entry-1), at(p.Ledger, p.Entry+1), at(p.Ledger, p.Entry+uint64(random.Intn(1<<20))), at(p.Ledger+1, p.Entry)} {
				holdFar(t, w, c, l, q)
			}
		}
	}
}

// holdFar: what is told of one place, and what its ack comes to.
func holdFar(t *testing.T, w world, c api.Cursor, l []api.Pos, p api.Pos) {
	t.Helper()
	if got := cursor.Acked(c, p); got != farAcked(c, p) {
		t.Fatalf("P14.1: Acked of %v and %v: %v", c, p, got)
	}
	want, wantOk := farNext(w, c, l, p)
	if got, ok := cursor.Next(w.l, w.open, c, p); got != want || ok != wantOk {
		t.Fatalf("P14.2: Next of %v and %v, from %v: %v, %v, not %v, %v", w, c, p, got, ok, want, wantOk)
	}
	one, e := cursor.Ack(w.l, w.open, c, p)
	all, f := cursor.AckAll(w.l, w.open, c, p)
	if !w.there(p) {
		if e != api.ErrPos || f != api.ErrPos || !zero(one) || !zero(all) {
			t.Fatalf("P14.1: Ack and AckAll of %v and %v, at %v: errors %d, %d", w, c, p, e, f)
		}
		return
	}
	if (e == api.ErrAcked) != farAcked(c, p) || (f == api.ErrAcked) != ahead(p, c.Mark) {
		t.Fatalf("P14.1: Ack and AckAll of %v and %v, at %v: errors %d, %d", w, c, p, e, f)
	}
	if e == api.OK {
		holdNew(t, w, c, one, p, func(q api.Pos) bool { return q == p || farAcked(c, q) })
	}
	if f == api.OK {
		holdNew(t, w, c, all, p, func(q api.Pos) bool { return !ahead(p, q) || farAcked(c, q) })
	}
}

// holdNew: the cursor that c came to by an ack at p is right and tight, and of all places at which something may change, and those beside them, just those are acked that must be.
func holdNew(t *testing.T, w world, c, next api.Cursor, p api.Pos, acked func(api.Pos) bool) {
	t.Helper()
	if !cursor.Check(next) || ahead(next.Mark, c.Mark) || !farTight(w, next) {
		t.Fatalf("P14.1: of %v, %v came by %v to %v", w, c, p, next)
	}
	for _, q := range slices.Concat(turns(w, c), turns(w, next), []api.Pos{p, ledgers.Behind(p), at(p.Ledger, p.Entry-1)}) {
		for _, q := range []api.Pos{q, at(q.Ledger, q.Entry-1), at(q.Ledger, q.Entry+1)} {
			// Where there is no entry, the mark may go over a place.
			if got := farAcked(next, q); w.there(q) && got != acked(q) {
				t.Fatalf("P14.1: of %v, %v came by %v to %v: %v is acked: %v", w, c, p, next, q, got)
			}
		}
	}
	for _, h := range next.Held {
		for _, r := range h.Ranges {
			if lo := at(h.Ledger, r.Lo); !acked(lo) && lo != p {
				t.Fatalf("P14.1: of %v, %v came by %v to %v", w, c, p, next)
			}
		}
	}
}
