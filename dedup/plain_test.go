package dedup_test

import (
	"encoding/binary"
	"slices"
	"strconv"
	"strings"

	"mailcoach/api"
	"mailcoach/dedup"
)

// plain is a table by the chapter's words: lines one behind the other, as they came.
type plain []api.Line

// at: where a name's line stands; -1: there is none.
func (p plain) at(name string) int {
	for i, l := range p {
		if l.Name == name {
			return i
		}
	}
	return -1
}

func (p *plain) begin(name string, seq uint64) api.Errno {
	i := p.at(name)
	if len(name) < 1 || len(name) > 64 {
		return api.ErrName
	}
	if seq == 0 {
		return api.ErrRange
	}
	if i >= 0 && (*p)[i].Done >= seq {
		return api.ErrOld
	}
	if i >= 0 && (*p)[i].Top >= seq {
		return api.ErrPending
	}
	if i < 0 && len(*p) == 16 {
		return api.ErrMany
	}
	if i < 0 {
		*p = append(*p, api.Line{Name: name, Top: seq})
	} else {
		(*p)[i].Top = seq
	}
	return api.OK
}

func (p plain) done(name string, seq uint64, at api.Pos) api.Errno {
	i := p.at(name)
	if i < 0 {
		return api.ErrNone
	}
	if seq > p[i].Top {
		return api.ErrNone
	}
	if seq <= p[i].Done {
		return api.ErrOld
	}
	p[i] = api.Line{Name: name, Top: p[i].Top, Done: seq, At: at}
	return api.OK
}

func (p *plain) forget() {
	var left plain
	for _, l := range *p {
		if l.Done != 0 {
			left = append(left, api.Line{Name: l.Name, Top: l.Done, Done: l.Done, At: l.At})
		}
	}
	*p = left
}

func (p plain) last(name string) (api.Line, bool) {
	i := p.at(name)
	if i < 0 {
		return api.Line{}, false
	}
	return p[i], true
}

// all: by their names, byte by byte.
func (p plain) all() []api.Line {
	l := slices.Clone(p)
	slices.SortFunc(l, func(a, b api.Line) int { return slices.Compare([]byte(a.Name), []byte(b.Name)) })
	return l
}

// plainBytes: lines as bytes, those that are done.
func plainBytes(l []api.Line) []byte {
	b := []byte{0}
	for _, l := range l {
		if l.Done == 0 {
			continue
		}
		b[0]++
		b = binary.BigEndian.AppendUint32(b, uint32(len(l.Name)))
		b = append(b, l.Name...)
		for _, n := range []uint64{l.Done, l.At.Ledger, l.At.Entry} {
			b = binary.BigEndian.AppendUint64(b, n)
		}
	}
	return b
}

// step is one call: its name, and what it is given.
type step struct {
	call, name string
	seq        uint64
	at         api.Pos
}

// of: what a table answers to a step.
func (s step) of(x *dedup.Table) api.Errno {
	switch s.call {
	case "Begin":
		return x.Begin(s.name, s.seq)
	case "Done":
		return x.Done(s.name, s.seq, s.at)
	default:
		x.Forget()
		return api.OK
	}
}

// by: what a plain one answers to it.
func (s step) by(p *plain) api.Errno {
	switch s.call {
	case "Begin":
		return p.begin(s.name, s.seq)
	case "Done":
		return p.done(s.name, s.seq, s.at)
	default:
		p.forget()
		return api.OK
	}
}

// names: of a script's last steps.
func names(script []step) string {
	var l []string
	for _, s := range script[max(0, len(script)-8):] {
		switch s.call {
		case "Forget":
			l = append(l, "Forget")
		default:
			l = append(l, s.call+"("+strconv.Quote(s.name[:min(len(s.name), 20)])+", "+strconv.FormatUint(s.seq, 10)+")")
		}
	}
	return strings.Join(l, " ")
}

// told: lines as a text, short enough for a test's word.
func told(l []api.Line) string {
	var b strings.Builder
	for _, l := range l {
		b.WriteString(" " + strconv.Quote(l.Name[:min(len(l.Name), 20)]))
		for _, n := range []uint64{l.Top, l.Done, l.At.Ledger, l.At.Entry} {
			b.WriteString("/" + strconv.FormatUint(n, 10))
		}
	}
	return b.String()
}
