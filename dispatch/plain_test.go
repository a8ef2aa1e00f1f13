package dispatch_test

import (
	"hash/crc32"
	"slices"
	"strconv"
	"strings"

	"mailcoach/api"
	"mailcoach/dispatch"
)

// plain is a desk by the chapter's words: what is out stands in a map, and is put in order only when it is told.
type plain struct {
	kind  api.SubKind
	came  []uint64
	left  map[uint64]int // how many permits each one has
	outs  map[api.Pos]api.Out
	turns []uint64 // who got something, in order
}

func newPlain(kind api.SubKind) *plain {
	return &plain{kind: kind, left: map[uint64]int{}, outs: map[api.Pos]api.Out{}}
}

// copied: a plain desk of its own.
func (p *plain) copied() *plain {
	q := newPlain(p.kind)
	q.came, q.turns = slices.Clone(p.came), slices.Clone(p.turns)
	for c, n := range p.left {
		q.left[c] = n
	}
	for at, o := range p.outs {
		q.outs[at] = o
	}
	return q
}

func (p *plain) join(c uint64) api.Errno {
	if c == 0 {
		return api.ErrRange
	}
	if slices.Contains(p.came, c) {
		return api.ErrExists
	}
	if p.kind == api.SOne && len(p.came) != 0 {
		return api.ErrOwner
	}
	if len(p.came) == 8 {
		return api.ErrMany
	}
	p.came = append(p.came, c)
	p.left[c] = 0
	return api.OK
}

func (p *plain) leave(c uint64) ([]api.Out, api.Errno) {
	if !slices.Contains(p.came, c) {
		return nil, api.ErrConsumer
	}
	var had []api.Out
	for _, o := range p.all() {
		if o.Consumer == c {
			had = append(had, o)
			delete(p.outs, o.Pos)
		}
	}
	p.came = slices.DeleteFunc(p.came, func(one uint64) bool { return one == c })
	delete(p.left, c)
	return had, api.OK
}

func (p *plain) flow(c uint64, n int) api.Errno {
	if !slices.Contains(p.came, c) {
		return api.ErrConsumer
	}
	if n < 1 || n > 1000 || p.left[c]+n > 1000 {
		return api.ErrPermits
	}
	p.left[c] += n
	return api.OK
}

func (p *plain) offer(at api.Pos, key string) (uint64, api.Errno) {
	if _, out := p.outs[at]; out {
		return 0, api.ErrOut
	}
	if len(p.outs) == 256 {
		return 0, api.ErrMany
	}
	for _, c := range p.may(key) {
		if p.left[c] == 0 {
			continue
		}
		p.left[c]--
		p.outs[at] = api.Out{Pos: at, Consumer: c, Key: key}
		p.turns = append(p.turns, c)
		return c, api.OK
	}
	return 0, api.ErrPermits
}

// may: who may have something of a key, in order.
func (p *plain) may(key string) []uint64 {
	if len(p.came) == 0 {
		return nil
	}
	switch p.kind {
	case api.SAll:
		return p.round()
	case api.SKeys:
		for _, o := range p.outs {
			if o.Key == key {
				return []uint64{o.Consumer}
			}
		}
		rising := slices.Sorted(slices.Values(p.came))
		sum := uint64(crc32.Checksum([]byte(key), crc32.MakeTable(crc32.Castagnoli)))
		return []uint64{rising[sum%uint64(len(rising))]}
	default:
		return []uint64{p.came[0]}
	}
}

// round: all, from behind the one that got something last.
func (p *plain) round() []uint64 {
	round := slices.Clone(p.came)
	if len(p.turns) == 0 || !slices.Contains(round, p.turns[len(p.turns)-1]) {
		return round
	}
	for {
		one := round[0]
		round = append(round[1:], one)
		if one == p.turns[len(p.turns)-1] {
			return round
		}
	}
}

func (p *plain) done(c uint64, at api.Pos) api.Errno {
	o, out := p.outs[at]
	if !out {
		return api.ErrNone
	}
	if o.Consumer != c {
		return api.ErrConsumer
	}
	delete(p.outs, at)
	return api.OK
}

// all: by the places, as whoever reads them number by number.
func (p *plain) all() []api.Out {
	var l []api.Out
	for _, o := range p.outs {
		l = append(l, o)
	}
	slices.SortFunc(l, func(a, b api.Out) int {
		return slices.Compare([]uint64{a.Pos.Ledger, a.Pos.Entry}, []uint64{b.Pos.Ledger, b.Pos.Entry})
	})
	return l
}

func (p *plain) consumers() []api.Taker {
	var l []api.Taker
	for _, c := range p.came {
		l = append(l, api.Taker{Id: c, Permits: p.left[c]})
	}
	return l
}

// step is one call: its name, and what it is given.
type step struct {
	call string
	c    uint64
	n    int
	at   api.Pos
	key  string
}

// answer is what a call answers, whichever it is.
type answer struct {
	c uint64
	l []api.Out
	e api.Errno
}

func (a answer) equal(b answer) bool {
	return a.c == b.c && a.e == b.e && slices.Equal(a.l, b.l)
}

// of: what a desk answers to a step.
func (s step) of(d *dispatch.Desk) (a answer) {
	switch s.call {
	case "Join":
		a.e = d.Join(s.c)
	case "Leave":
		a.l, a.e = d.Leave(s.c)
	case "Flow":
		a.e = d.Flow(s.c, s.n)
	case "Offer":
		a.c, a.e = d.Offer(s.at, s.key)
	case "Done":
		a.e = d.Done(s.c, s.at)
	}
	return a
}

// by: what a plain one answers to it.
func (s step) by(p *plain) (a answer) {
	switch s.call {
	case "Join":
		a.e = p.join(s.c)
	case "Leave":
		a.l, a.e = p.leave(s.c)
	case "Flow":
		a.e = p.flow(s.c, s.n)
	case "Offer":
		a.c, a.e = p.offer(s.at, s.key)
	case "Done":
		a.e = p.done(s.c, s.at)
	}
	return a
}

// The steps.
func join(c uint64) step                { return step{call: "Join", c: c} }
func leave(c uint64) step               { return step{call: "Leave", c: c} }
func flow(c uint64, n int) step         { return step{call: "Flow", c: c, n: n} }
func offer(at api.Pos, key string) step { return step{call: "Offer", at: at, key: key} }
func done(c uint64, at api.Pos) step    { return step{call: "Done", c: c, at: at} }

// names: of a script's last steps.
func names(script []step) string {
	var l []string
	for _, s := range script[max(0, len(script)-12):] {
		one := s.call
		switch s.call {
		case "Offer":
			one += " " + place(s.at) + " " + short(s.key)
		case "Done":
			one += " " + strconv.FormatUint(s.c, 10) + " " + place(s.at)
		case "Flow":
			one += " " + strconv.FormatUint(s.c, 10) + " " + strconv.Itoa(s.n)
		default:
			one += " " + strconv.FormatUint(s.c, 10)
		}
		l = append(l, one)
	}
	return strings.Join(l, "; ")
}

// place: as a text.
func place(p api.Pos) string {
	return strconv.FormatUint(p.Ledger, 10) + "/" + strconv.FormatUint(p.Entry, 10)
}

// short: a key as a text, short enough for a test's word.
func short(key string) string { return strconv.Quote(key[:min(len(key), 20)]) }

// told: what is out as a text.
func told(l []api.Out) string {
	var b strings.Builder
	for _, o := range l {
		b.WriteString(" " + place(o.Pos) + "-" + strconv.FormatUint(o.Consumer, 10) + "-" + short(o.Key))
	}
	return b.String()
}

// taken: consumers as a text.
func taken(l []api.Taker) string {
	var b strings.Builder
	for _, one := range l {
		b.WriteString(" " + strconv.FormatUint(one.Id, 10) + ":" + strconv.Itoa(one.Permits))
	}
	return b.String()
}
