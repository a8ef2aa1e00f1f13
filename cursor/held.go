package cursor

import (
	"cmp"
	"math"
	"slices"

	"mailcoach/api"
	"mailcoach/ledgers"
	"mailcoach/ranges"
)

// find: at which number a ledger's Held is, or would be; is it there?
func find(held []api.Held, ledger uint64) (int, bool) {
	return slices.BinarySearchFunc(held, ledger, func(h api.Held, id uint64) int {
		return cmp.Compare(h.Ledger, id)
	})
}

// of: which entries of a ledger are held.
func of(held []api.Held, ledger uint64) []api.Range {
	i, found := find(held, ledger)
	if !found {
		return nil
	}
	return held[i].Ranges
}

// with: a place more, at which there is an entry. The other ledgers' ranges are those of held.
func with(held []api.Held, p api.Pos) []api.Held {
	i, found := find(held, p.Ledger)
	behind := i
	if found {
		behind++
	}
	own := ranges.Add(of(held, p.Ledger), api.Range{Lo: p.Entry, Hi: p.Entry + 1})
	return slices.Concat(held[:i], []api.Held{{Ledger: p.Ledger, Ranges: own}}, held[behind:])
}

// left: what is held from a place on, in memory of its own.
func left(held []api.Held, p api.Pos) []api.Held {
	var out []api.Held
	for _, h := range held {
		if l := leftOf(h, p); len(l) > 0 {
			out = append(out, api.Held{Ledger: h.Ledger, Ranges: l})
		}
	}
	return out
}

// leftOf: what of one ledger's.
func leftOf(h api.Held, p api.Pos) []api.Range {
	switch {
	case h.Ledger < p.Ledger:
		return nil
	case h.Ledger == p.Ledger:
		return ranges.Remove(h.Ranges, api.Range{Hi: p.Entry})
	}
	return slices.Clone(h.Ranges)
}

// there: how many of those that are held of a ledger it has: a cursor may hold more than there is.
func there(l []api.Ledger, open uint64, h api.Held) uint64 {
	size := ledgers.Between(l, open, api.Pos{Ledger: h.Ledger}, api.Pos{Ledger: h.Ledger, Entry: math.MaxUint64})
	return ranges.Count(ranges.Remove(h.Ranges, api.Range{Lo: size, Hi: math.MaxUint64}))
}
