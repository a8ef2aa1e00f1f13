package writer_test

import (
	"strconv"
	"strings"
	"testing"

	"mailcoach/api"
	"mailcoach/writer"
)

// plain is a ledger's writer by the chapters' words: all entries, and of each who has it.
type plain struct {
	q      api.Quorum
	data   []string
	has    []map[int]bool
	sure   int
	closed bool
}

// set: from entry modulo Places on, place by place, round behind the last one.
func (p *plain) set(n int) []int {
	var l []int
	for place := n % p.q.Places; len(l) < p.q.Write; {
		l = append(l, place)
		if place++; place == p.q.Places {
			place = 0
		}
	}
	return l
}

// lacking: the places of an entry's Set that don't have it.
func (p *plain) lacking(n int) []int {
	var l []int
	for _, place := range p.set(n) {
		if !p.has[n][place] {
			l = append(l, place)
		}
	}
	return l
}

// goes: is the place one of an entry's Set?
func (p *plain) goes(n, place int) bool {
	for _, other := range p.set(n) {
		if other == place {
			return true
		}
	}
	return false
}

func (p *plain) add(data []byte) (uint64, api.Errno) {
	if p.closed {
		return 0, api.ErrClosed
	}
	if len(data) > 256 {
		return 0, api.ErrLong
	}
	if len(p.data)-p.sure >= 64 || len(p.data) >= 1<<20 {
		return 0, api.ErrMany
	}
	p.data = append(p.data, string(data))
	p.has = append(p.has, map[int]bool{})
	return uint64(len(p.data) - 1), api.OK
}

func (p *plain) ack(place int, n uint64) []api.Item {
	if n < uint64(p.sure) || n >= uint64(len(p.data)) || !p.goes(int(n), place) {
		return nil
	}
	p.has[n][place] = true
	var l []api.Item
	for p.sure < len(p.data) && p.q.Write-len(p.lacking(p.sure)) >= p.q.Ack {
		l = append(l, api.Item{Entry: uint64(p.sure), Data: []byte(p.data[p.sure])})
		p.sure++
	}
	return l
}

func (p *plain) replace(place int) []uint64 {
	var l []uint64
	for n := p.sure; n < len(p.data); n++ {
		if p.goes(n, place) {
			delete(p.has[n], place)
			l = append(l, uint64(n))
		}
	}
	return l
}

func (p *plain) waiting() ([]api.Item, [][]int) {
	var l []api.Item
	var lacking [][]int
	for n := p.sure; n < len(p.data); n++ {
		l = append(l, api.Item{Entry: uint64(n), Data: []byte(p.data[n])})
		lacking = append(lacking, p.lacking(n))
	}
	return l, lacking
}

func (p *plain) close() (uint64, api.Errno) {
	if p.sure < len(p.data) {
		return 0, api.ErrState
	}
	p.closed = true
	return uint64(len(p.data)), api.OK
}

// items: entries as a text.
func items(l []api.Item) string {
	var s []string
	for _, i := range l {
		s = append(s, strconv.FormatUint(i.Entry, 10)+"="+strconv.Quote(string(i.Data)))
	}
	return "[" + strings.Join(s, " ") + "]"
}

// numbers: such as a text.
func numbers[N int | uint64](l []N) string {
	var s []string
	for _, n := range l {
		if n < 0 {
			s = append(s, strconv.Itoa(int(n)))
		} else {
			s = append(s, strconv.FormatUint(uint64(n), 10))
		}
	}
	return "[" + strings.Join(s, " ") + "]"
}

// lists: lists of places as a text.
func lists(l [][]int) string {
	var s []string
	for _, n := range l {
		s = append(s, numbers(n))
	}
	return "[" + strings.Join(s, " ") + "]"
}

// hold: what a writer tells without being changed, against a plain one; what is a text that is made only where they differ.
func hold(t *testing.T, what func() string, w *writer.Writer, p *plain) {
	t.Helper()
	if n := w.Count(); n != uint64(len(p.data)) {
		t.Fatalf("P11.1: %s: Count: %d, not %d", what(), n, len(p.data))
	}
	if n := w.Sure(); n != uint64(p.sure) {
		t.Fatalf("P11.1: %s: Sure: %d, not %d", what(), n, p.sure)
	}
	l, lacking := w.Waiting()
	wantL, wantLacking := p.waiting()
	if !sameItems(l, wantL) || !sameLists(lacking, wantLacking) {
		t.Fatalf("P11.2: %s: Waiting: %s, %s; not %s, %s", what(), items(l), lists(lacking), items(wantL), lists(wantLacking))
	}
}

// sameItems: are they the same entries?
func sameItems(a, b []api.Item) bool {
	if len(a) != len(b) {
		return false
	}
	for i := range a {
		if a[i].Entry != b[i].Entry || string(a[i].Data) != string(b[i].Data) {
			return false
		}
	}
	return true
}

// sameLists: are they the same lists of places?
func sameLists(a, b [][]int) bool {
	if len(a) != len(b) {
		return false
	}
	for i := range a {
		if len(a[i]) != len(b[i]) {
			return false
		}
		for j := range a[i] {
			if a[i][j] != b[i][j] {
				return false
			}
		}
	}
	return true
}
