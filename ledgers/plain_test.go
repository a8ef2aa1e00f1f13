package ledgers_test

import (
	"math"
	"math/big"
	"slices"
	"strconv"
	"strings"

	"mailcoach/api"
)

// top: the greatest number that there is.
const top = math.MaxUint64

// at: a place.
func at(ledger, entry uint64) api.Pos { return api.Pos{Ledger: ledger, Entry: entry} }

// closed: a ledger that is, with so many entries.
func closed(id, count uint64) api.Ledger { return api.Ledger{Id: id, Closed: true, Count: count} }

// unclosed: a ledger that isn't.
func unclosed(id uint64) api.Ledger { return api.Ledger{Id: id} }

// many: n closed ledgers of one entry each, numbered from a number on.
func many(n int, from uint64) []api.Ledger {
	var l []api.Ledger
	for i := range uint64(n) {
		l = append(l, closed(from+i, 1))
	}
	return l
}

// text: ledgers as a text.
func text(l []api.Ledger) string {
	var out []string
	for _, x := range l {
		s := strconv.FormatUint(x.Id, 10) + " (open"
		if x.Closed {
			s = strconv.FormatUint(x.Id, 10) + " (closed"
		}
		out = append(out, s+", "+strconv.FormatUint(x.Count, 10)+")")
	}
	return "[" + strings.Join(out, " ") + "]"
}

// placed: all places at which small ledgers have entries, in order.
func placed(l []api.Ledger, open uint64) []api.Pos {
	var out []api.Pos
	for _, x := range l {
		n := open
		if x.Closed {
			n = x.Count
		}
		for entry := range n {
			out = append(out, at(x.Id, entry))
		}
	}
	return out
}

// notAhead: is a the place b, or behind it? By the document's words.
func notAhead(a, b api.Pos) bool {
	if a.Ledger != b.Ledger {
		return a.Ledger > b.Ledger
	}
	return a.Entry >= b.Entry
}

// plainNext: the first one of all places that isn't ahead.
func plainNext(l []api.Ledger, open uint64, p api.Pos) (api.Pos, bool) {
	for _, q := range placed(l, open) {
		if notAhead(q, p) {
			return q, true
		}
	}
	return plainEnd(l, open), false
}

// plainEnd: the last ledger's number with how many entries it has.
func plainEnd(l []api.Ledger, open uint64) api.Pos {
	if len(l) == 0 {
		return api.Pos{}
	}
	x := l[len(l)-1]
	if !x.Closed {
		return at(x.Id, open)
	}
	return at(x.Id, x.Count)
}

// plainBetween: one by one.
func plainBetween(l []api.Ledger, open uint64, a, b api.Pos) uint64 {
	var n uint64
	for _, q := range placed(l, open) {
		if notAhead(q, a) && !notAhead(q, b) {
			n++
		}
	}
	return n
}

// plainTrim: the first one goes, as long as it may.
func plainTrim(l []api.Ledger, p api.Pos) []api.Ledger {
	for len(l) > 0 && l[0].Closed && notAhead(p, at(l[0].Id, l[0].Count)) {
		l = l[1:]
	}
	return l
}

// plainOpen: by the document's words.
func plainOpen(l []api.Ledger, id uint64) ([]api.Ledger, api.Errno) {
	if len(l) > 0 && !l[len(l)-1].Closed {
		return nil, api.ErrState
	}
	if id == 0 {
		return nil, api.ErrPos
	}
	if len(l) > 0 && id <= l[len(l)-1].Id {
		return nil, api.ErrPos
	}
	if len(l) == 64 {
		return nil, api.ErrMany
	}
	return append(slices.Clone(l), unclosed(id)), api.OK
}

// plainClose: by the document's words.
func plainClose(l []api.Ledger, count uint64) ([]api.Ledger, api.Errno) {
	if len(l) == 0 || l[len(l)-1].Closed {
		return nil, api.ErrState
	}
	if count > 1<<20 {
		return nil, api.ErrMany
	}
	l = slices.Clone(l)
	l[len(l)-1].Closed = true
	l[len(l)-1].Count = count
	return l, api.OK
}

// spot: a place as one number of 128 bits, so that the places of all ledgers lie on one line.
func spot(p api.Pos) *big.Int {
	n := new(big.Int).Lsh(new(big.Int).SetUint64(p.Ledger), 64)
	return n.Add(n, new(big.Int).SetUint64(p.Entry))
}

// place: the one that such a number is, modulo 2^128.
func place(n *big.Int) api.Pos {
	low := new(big.Int).SetUint64(top)
	entry := new(big.Int).And(n, low).Uint64()
	return at(new(big.Int).And(new(big.Int).Rsh(n, 64), low).Uint64(), entry)
}

// stretch: the piece of the line on which a ledger has entries: from the first one on and below the second one.
func stretch(x api.Ledger, open uint64) (*big.Int, *big.Int) {
	n := open
	if x.Closed {
		n = x.Count
	}
	from := spot(at(x.Id, 0))
	return from, new(big.Int).Add(from, new(big.Int).SetUint64(n))
}

// greater: of two numbers.
func greater(a, b *big.Int) *big.Int {
	if a.Cmp(b) > 0 {
		return a
	}
	return b
}

// less: of two numbers.
func less(a, b *big.Int) *big.Int {
	if a.Cmp(b) < 0 {
		return a
	}
	return b
}

// lineNext: the least spot from p's on that some stretch has.
func lineNext(l []api.Ledger, open uint64, p api.Pos) (api.Pos, bool) {
	var best *big.Int
	for _, x := range l {
		from, to := stretch(x, open)
		first := greater(from, spot(p))
		if first.Cmp(to) < 0 && (best == nil || first.Cmp(best) < 0) {
			best = first
		}
	}
	if best == nil {
		return plainEnd(l, open), false
	}
	return place(best), true
}

// lineBetween: how much of the stretches lies from a on and below b; as a uint64 it goes round.
func lineBetween(l []api.Ledger, open uint64, a, b api.Pos) uint64 {
	n := new(big.Int)
	for _, x := range l {
		from, to := stretch(x, open)
		piece := new(big.Int).Sub(less(to, spot(b)), greater(from, spot(a)))
		if piece.Sign() > 0 {
			n.Add(n, piece)
		}
	}
	return n.And(n, new(big.Int).SetUint64(top)).Uint64()
}

// lineTrim: what isn't a first one that is closed and ends at p's spot or below it.
func lineTrim(l []api.Ledger, p api.Pos) []api.Ledger {
	for i, x := range l {
		if _, to := stretch(x, 0); !x.Closed || to.Cmp(spot(p)) > 0 {
			return l[i:]
		}
	}
	return nil
}
