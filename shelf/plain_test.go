package shelf_test

import (
	"encoding/binary"
	"hash/crc32"
	"maps"
	"slices"

	"mailcoach/api"
)

// held is what a node has of a ledger.
type held struct {
	fenced, gone bool
	sure         uint64
	entries      map[uint64]string
}

// with: the same, and an entry.
func (h held) with(entry uint64, data string) held {
	h.entries = maps.Clone(h.entries)
	if h.entries == nil {
		h.entries = map[uint64]string{}
	}
	h.entries[entry] = data
	return h
}

// has: entries from 0 on, and a sure.
func has(sure uint64, data ...string) held {
	h := held{sure: sure}
	for i, b := range data {
		h = h.with(uint64(i), b)
	}
	return h
}

// fence: the same, but fenced.
func (h held) fence() held {
	h.fenced = true
	return h
}

// items: a ledger's entries, rising.
func (h held) items() []api.Item {
	var l []api.Item
	for _, n := range slices.Sorted(maps.Keys(h.entries)) {
		l = append(l, item(n, h.entries[n]))
	}
	return l
}

func item(entry uint64, data string) api.Item { return api.Item{Entry: entry, Data: []byte(data)} }

// plain is a node by the chapter's words: ledgers in a map, and the bytes of its disk.
type plain struct {
	ledgers map[uint64]held
	room    int
	disk    string
}

func newPlain(room int) *plain { return &plain{ledgers: map[uint64]held{}, room: room} }

// do: a call; P9.1, P9.2.
func (p *plain) do(c call) (uint64, api.Errno) {
	switch c.kind {
	case 'f':
		return p.fence(c.ledger)
	case 'd':
		return 0, p.drop(c.ledger)
	}
	return 0, p.add(c)
}

func (p *plain) add(c call) api.Errno {
	l := p.ledgers[c.ledger]
	old, there := l.entries[c.entry]
	if c.ledger == 0 {
		return api.ErrRange
	}
	if len(c.data) > 256 {
		return api.ErrLong
	}
	if l.gone {
		return api.ErrClosed
	}
	if l.fenced && c.kind != 'm' {
		return api.ErrFenced
	}
	if there && old != c.data {
		return api.ErrOther
	}
	if there && c.sure <= l.sure {
		return api.OK
	}
	if e := p.write(adding(c.ledger, c.entry, c.sure, c.data)); e != api.OK {
		return e
	}
	l = l.with(c.entry, c.data)
	l.sure = max(l.sure, c.sure)
	p.ledgers[c.ledger] = l
	return api.OK
}

func (p *plain) fence(ledger uint64) (uint64, api.Errno) {
	l := p.ledgers[ledger]
	if ledger == 0 {
		return 0, api.ErrRange
	}
	if l.gone {
		return 0, api.ErrClosed
	}
	if !l.fenced {
		if e := p.write(fencing(ledger)); e != api.OK {
			return 0, e
		}
	}
	p.ledgers[ledger] = l.fence()
	return l.sure, api.OK
}

func (p *plain) drop(ledger uint64) api.Errno {
	if ledger == 0 {
		return api.ErrRange
	}
	if p.ledgers[ledger].gone {
		return api.OK
	}
	if e := p.write(dropping(ledger)); e != api.OK {
		return e
	}
	p.ledgers[ledger] = held{gone: true}
	return api.OK
}

// write: a record more, if there is room.
func (p *plain) write(record string) api.Errno {
	if len(p.disk)+8+len(record) > p.room {
		return api.ErrFull
	}
	p.disk += frames(record)
	return api.OK
}

// adding, fencing, dropping: records.
func adding(ledger, entry, sure uint64, data string) string {
	return "\x01" + u64(ledger, entry, sure) + counted(data)
}

func fencing(ledger uint64) string { return "\x02" + u64(ledger) }

func dropping(ledger uint64) string { return "\x03" + u64(ledger) }

// u64: numbers as bytes, the greatest first.
func u64(l ...uint64) string {
	var b []byte
	for _, n := range l {
		b = binary.BigEndian.AppendUint64(b, n)
	}
	return string(b)
}

// counted: how many bytes, and they.
func counted(s string) string {
	return string(binary.BigEndian.AppendUint32(nil, uint32(len(s)))) + s
}

// frames: those of bodies, one behind the other.
func frames(bodies ...string) string {
	var all []byte
	for _, b := range bodies {
		all = binary.BigEndian.AppendUint32(all, uint32(len(b)))
		all = binary.BigEndian.AppendUint32(all, crc32.Checksum([]byte(b), crc32.MakeTable(crc32.Castagnoli)))
		all = append(all, b...)
	}
	return string(all)
}
