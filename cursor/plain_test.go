package cursor_test

import (
	"encoding/binary"
	"fmt"
	"math"
	"slices"

	"mailcoach/api"
)

// top: the greatest number that there is.
const top = math.MaxUint64

// at: a place.
func at(ledger, entry uint64) api.Pos { return api.Pos{Ledger: ledger, Entry: entry} }

// closed: a ledger that is, with so many entries.
func closed(id, count uint64) api.Ledger { return api.Ledger{Id: id, Closed: true, Count: count} }

// unclosed: a ledger that isn't.
func unclosed(id uint64) api.Ledger { return api.Ledger{Id: id} }

// held: of a ledger, ranges by their ends.
func held(ledger uint64, ends ...uint64) api.Held {
	h := api.Held{Ledger: ledger}
	for i := 0; i < len(ends); i += 2 {
		h.Ranges = append(h.Ranges, api.Range{Lo: ends[i], Hi: ends[i+1]})
	}
	return h
}

// cur: a cursor.
func cur(mark api.Pos, l ...api.Held) api.Cursor { return api.Cursor{Mark: mark, Held: l} }

// same: two cursors, in all that they have.
func same(a, b api.Cursor) bool {
	return a.Mark == b.Mark && slices.EqualFunc(a.Held, b.Held, func(x, y api.Held) bool {
		return x.Ledger == y.Ledger && slices.Equal(x.Ranges, y.Ranges)
	})
}

// zero: has a cursor nothing?
func zero(c api.Cursor) bool { return same(c, api.Cursor{}) }

// ahead: is a place ahead of another one? By the document's words.
func ahead(a, b api.Pos) bool {
	return a.Ledger < b.Ledger || a.Ledger == b.Ledger && a.Entry < b.Entry
}

// size: how many entries a ledger has.
func size(x api.Ledger, open uint64) uint64 {
	if x.Closed {
		return x.Count
	}
	return open
}

// placed: all places at which small ledgers have entries, in order.
func placed(l []api.Ledger, open uint64) []api.Pos {
	var out []api.Pos
	for _, x := range l {
		for entry := range size(x, open) {
			out = append(out, at(x.Id, entry))
		}
	}
	return out
}

// model is a cursor place by place.
type model struct {
	mark api.Pos
	held map[api.Pos]bool
}

// opened: a cursor of few held entries, place by place.
func opened(c api.Cursor) model {
	m := model{c.Mark, map[api.Pos]bool{}}
	for _, h := range c.Held {
		for _, r := range h.Ranges {
			for entry := r.Lo; entry < r.Hi; entry++ {
				m.held[at(h.Ledger, entry)] = true
			}
		}
	}
	return m
}

// shut: back; the places that lie side by side are a range.
func (m model) shut() api.Cursor {
	var l []api.Pos
	for p := range m.held {
		l = append(l, p)
	}
	slices.SortFunc(l, func(a, b api.Pos) int {
		if ahead(a, b) {
			return -1
		}
		return 1
	})
	c := cur(m.mark)
	for _, p := range l {
		if n := len(c.Held); n == 0 || c.Held[n-1].Ledger != p.Ledger {
			c.Held = append(c.Held, api.Held{Ledger: p.Ledger})
		}
		h := &c.Held[len(c.Held)-1]
		if n := len(h.Ranges); n > 0 && h.Ranges[n-1].Hi == p.Entry {
			h.Ranges[n-1].Hi++
		} else {
			h.Ranges = append(h.Ranges, api.Range{Lo: p.Entry, Hi: p.Entry + 1})
		}
	}
	return c
}

// acked: is a place?
func (m model) acked(p api.Pos) bool { return ahead(p, m.mark) || m.held[p] }

// tight: step by step, by the document's words.
func (m model) tight(all []api.Pos) model {
	for {
		i := slices.IndexFunc(all, func(p api.Pos) bool { return !ahead(p, m.mark) })
		if i < 0 || !m.held[all[i]] {
			break
		}
		m.mark = all[i]
		for m.held[m.mark] {
			m.mark.Entry++
		}
	}
	for p := range m.held {
		if ahead(p, m.mark) {
			delete(m.held, p)
		}
	}
	return m
}

// plainAck: of small ledgers, whose places are all.
func plainAck(all []api.Pos, c api.Cursor, p api.Pos) (api.Cursor, api.Errno) {
	m := opened(c)
	if !slices.Contains(all, p) {
		return api.Cursor{}, api.ErrPos
	}
	if m.acked(p) {
		return api.Cursor{}, api.ErrAcked
	}
	m.held[p] = true
	return m.tight(all).shut(), api.OK
}

// plainAckAll: so, too.
func plainAckAll(all []api.Pos, c api.Cursor, p api.Pos) (api.Cursor, api.Errno) {
	m := opened(c)
	if !slices.Contains(all, p) {
		return api.Cursor{}, api.ErrPos
	}
	if ahead(p, m.mark) {
		return api.Cursor{}, api.ErrAcked
	}
	m.mark = at(p.Ledger, p.Entry+1)
	return m.tight(all).shut(), api.OK
}

// plainNext: the first one of all places.
func plainNext(all []api.Pos, m model, from api.Pos) (api.Pos, bool) {
	for _, p := range all {
		if !ahead(p, from) && !m.acked(p) {
			return p, true
		}
	}
	return api.Pos{}, false
}

// plainBacklog: one by one.
func plainBacklog(all []api.Pos, m model) uint64 {
	var n uint64
	for _, p := range all {
		if !m.acked(p) {
			n++
		}
	}
	return n
}

// plainCheck: of small numbers, by the document's words.
func plainCheck(c api.Cursor) bool {
	for i, h := range c.Held {
		for _, other := range c.Held[:i] {
			if other.Ledger >= h.Ledger {
				return false
			}
		}
		if len(h.Ranges) == 0 {
			return false
		}
		for j, r := range h.Ranges {
			if r.Lo >= r.Hi || j > 0 && r.Lo <= h.Ranges[j-1].Hi {
				return false
			}
		}
	}
	for p := range opened(c).held {
		if ahead(p, c.Mark) {
			return false
		}
	}
	return true
}

// plainBytes: number by number.
func plainBytes(c api.Cursor) []byte {
	b := binary.BigEndian.AppendUint64(nil, c.Mark.Ledger)
	b = binary.BigEndian.AppendUint64(b, c.Mark.Entry)
	b = append(b, byte(len(c.Held)>>8), byte(len(c.Held)))
	for _, h := range c.Held {
		b = binary.BigEndian.AppendUint64(b, h.Ledger)
		b = append(b, byte(len(h.Ranges)>>8), byte(len(h.Ranges)))
		for _, r := range h.Ranges {
			b = binary.BigEndian.AppendUint64(b, r.Lo)
			b = binary.BigEndian.AppendUint64(b, r.Hi)
		}
	}
	return b
}

// roomy: a cursor whose lists have spare room behind them, in which something stands.
func roomy(c api.Cursor) api.Cursor {
	l := make([]api.Held, 0, len(c.Held)+2)
	for _, h := range c.Held {
		own := append(slices.Clone(h.Ranges), api.Range{Lo: 71, Hi: 72}, api.Range{Lo: 73, Hi: 74})
		l = append(l, api.Held{Ledger: h.Ledger, Ranges: own[:len(h.Ranges)]})
	}
	l = append(l, held(77, 7, 8), held(78, 7, 8))
	return api.Cursor{Mark: c.Mark, Held: l[:len(c.Held)]}
}

// whole: all that lies in a cursor's memory, spare room included, as a text.
func whole(c api.Cursor) string {
	s := fmt.Sprint(c.Mark)
	for _, h := range c.Held[:cap(c.Held)] {
		s += fmt.Sprint(h.Ledger, h.Ranges[:cap(h.Ranges)])
	}
	return s
}

// scribble: over a cursor and all its spare room.
func scribble(c api.Cursor) {
	for i := range c.Held {
		scribbleRanges(c.Held[i].Ranges)
	}
	for i := range c.Held[:cap(c.Held)] {
		c.Held[:cap(c.Held)][i] = held(99, 9, 10)
	}
}

// scribbleRanges: over one list.
func scribbleRanges(l []api.Range) {
	for i := range l[:cap(l)] {
		l[:cap(l)][i] = api.Range{Lo: 98, Hi: 99}
	}
}
