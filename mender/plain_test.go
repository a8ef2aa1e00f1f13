package mender_test

import (
	"strconv"
	"strings"
	"testing"

	"mailcoach/api"
	"mailcoach/mender"
)

// plain is what was heard by the chapters' words: of whom, what, and the greatest sure.
type plain struct {
	q     api.Quorum
	heard map[int]bool
	data  map[uint64]string
	sure  uint64
}

// plainOf: one that has heard nothing.
func plainOf(q api.Quorum) *plain {
	return &plain{q: q, heard: map[int]bool{}, data: map[uint64]string{}}
}

// copied: one of its own that has heard the same.
func (p *plain) copied() *plain {
	c := plainOf(p.q)
	c.sure = p.sure
	for place := range p.heard {
		c.heard[place] = true
	}
	for n, s := range p.data {
		c.data[n] = s
	}
	return c
}

func (p *plain) hear(place int, sure uint64, l []api.Item) api.Errno {
	if place < 0 || place >= p.q.Places || sure > 1<<20 {
		return api.ErrRange
	}
	for i, item := range l {
		if s, ok := p.data[item.Entry]; ok && s != string(item.Data) {
			return api.ErrOther
		}
		for _, other := range l[:i] {
			if other.Entry == item.Entry && string(other.Data) != string(item.Data) {
				return api.ErrOther
			}
		}
	}
	p.heard[place] = true
	for _, item := range l {
		p.data[item.Entry] = string(item.Data)
	}
	if sure > p.sure {
		p.sure = sure
	}
	return api.OK
}

// ready: of the Set of each entry more than Write - Ack places were heard.
func (p *plain) ready() bool {
	for n := range p.q.Places {
		told := 0
		place := n
		for range p.q.Write {
			if p.heard[place] {
				told++
			}
			if place++; place == p.q.Places {
				place = 0
			}
		}
		if told <= p.q.Write-p.q.Ack {
			return false
		}
	}
	return true
}

func (p *plain) result() ([]api.Item, api.Errno) {
	if !p.ready() {
		return nil, api.ErrState
	}
	var l []api.Item
	for n := uint64(0); ; n++ {
		s, ok := p.data[n]
		if !ok {
			break
		}
		l = append(l, api.Item{Entry: n, Data: []byte(s)})
	}
	if p.sure > uint64(len(l)) {
		return nil, api.ErrQuorum
	}
	return l, api.OK
}

// items: entries as a text.
func items(l []api.Item) string {
	var s []string
	for _, i := range l[:min(len(l), 20)] {
		s = append(s, strconv.FormatUint(i.Entry, 10)+"="+strconv.Quote(string(i.Data)))
	}
	return strconv.Itoa(len(l)) + " [" + strings.Join(s, " ") + "]"
}

// same: are they the same entries?
func same(a, b []api.Item) bool {
	if len(a) != len(b) {
		return false
	}
	for i := range a {
		if a[i].Entry != b[i].Entry || string(a[i].Data) != string(b[i].Data) {
			return false
		}
	}
	return true
}

// hold: what a mender tells without being changed, against a plain one; what is a text that is made only where they differ.
func hold(t *testing.T, what func() string, m *mender.Mender, p *plain) {
	t.Helper()
	if got, want := m.Ready(), p.ready(); got != want {
		t.Fatalf("P12.1: %s: Ready: %v", what(), got)
	}
	l, e := m.Result()
	wantL, want := p.result()
	if e != want || !same(l, wantL) {
		t.Fatalf("P12.2: %s: Result: %s, error %d; not %s, error %d", what(), items(l), e, items(wantL), want)
	}
}
