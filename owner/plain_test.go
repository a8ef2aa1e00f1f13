package owner_test

import (
	"encoding/binary"
	"maps"
	"slices"
	"strings"

	"mailcoach/api"
)

// lease is a session of a plain keeper: when it ends, how long it lives.
type lease struct{ ends, life uint64 }

// plain is a keeper and its bundles by the chapters' words: keys and sessions in maps, and how much room its disk has left.
type plain struct {
	now, last uint64
	sessions  map[uint64]lease
	nodes     map[string]api.Node
	room      int
}

func newPlain(room int) *plain {
	return &plain{sessions: map[uint64]lease{}, nodes: map[string]api.Node{}, room: room}
}

// acquire: P17.1.
func (p *plain) acquire(session, broker uint64, bundle string) (uint64, api.Errno) {
	if session == 0 {
		return 0, api.ErrExpired
	}
	if _, owned := p.nodes["own/"+bundle]; owned {
		return 0, api.ErrOwner
	}
	if e := p.put("own/"+bundle, u64(broker), 0, session); e != api.OK {
		return 0, e
	}
	want, times := uint64(0), uint64(1)
	if n, there := p.nodes["epoch/"+bundle]; there {
		want, times = n.Version, plainNumber(n.Value)+1
	}
	if e := p.put("epoch/"+bundle, u64(times), want, 0); e != api.OK {
		return 0, e
	}
	return times, api.OK
}

// holder: P17.2.
func (p *plain) holder(bundle string) (broker, epoch uint64, ok bool) {
	own, owned := p.nodes["own/"+bundle]
	if !owned {
		return 0, 0, false
	}
	return plainNumber(own.Value), plainNumber(p.nodes["epoch/"+bundle].Value), true
}

// release: P17.2.
func (p *plain) release(session uint64, bundle string) api.Errno {
	own, owned := p.nodes["own/"+bundle]
	if !owned {
		return api.ErrNone
	}
	if own.Owner != session {
		return api.ErrOwner
	}
	return p.delete("own/"+bundle, own.Version)
}

// put: a KPut.
func (p *plain) put(key, value string, want, session uint64) api.Errno {
	old, there := p.nodes[key]
	switch {
	case session != 0 && !p.live(session):
		return api.ErrExpired
	case len(key) < 1 || len(key) > 64:
		return api.ErrName
	case want == 0 && there:
		return api.ErrExists
	case want != 0 && !there:
		return api.ErrNone
	case there && old.Version != want:
		return api.ErrVersion
	case !there && len(p.nodes) == 256:
		return api.ErrMany
	case !p.written(key, value):
		return api.ErrFull
	}
	if there {
		session = old.Owner
	}
	p.nodes[key] = node(key, value, want+1, session)
	return api.OK
}

// delete: a KDelete.
func (p *plain) delete(key string, want uint64) api.Errno {
	old, there := p.nodes[key]
	switch {
	case !there:
		return api.ErrNone
	case old.Version != want:
		return api.ErrVersion
	case !p.written(key, ""):
		return api.ErrFull
	}
	delete(p.nodes, key)
	return api.OK
}

// open, renew, end, tick: KOpen, KRenew, KClose and KTick, of lives and ticks that are far below their bounds.
func (p *plain) open(life uint64) api.Errno {
	if len(p.sessions) == 16 {
		return api.ErrMany
	}
	if !p.written("", "") {
		return api.ErrFull
	}
	p.last++
	p.sessions[p.last] = lease{p.now + life, life}
	return api.OK
}

func (p *plain) renew(id uint64) api.Errno {
	switch {
	case id == 0:
		return api.ErrNone
	case !p.live(id):
		return api.ErrExpired
	case !p.written("", ""):
		return api.ErrFull
	}
	p.sessions[id] = lease{p.now + p.sessions[id].life, p.sessions[id].life}
	return api.OK
}

func (p *plain) end(id uint64) api.Errno {
	if _, there := p.sessions[id]; !there {
		return api.ErrNone
	}
	if !p.written("", "") {
		return api.ErrFull
	}
	p.drop(id)
	return api.OK
}

func (p *plain) tick(ticks uint64) api.Errno {
	if !p.written("", "") {
		return api.ErrFull
	}
	p.now += ticks
	for id := range p.sessions {
		if !p.live(id) {
			p.drop(id)
		}
	}
	return api.OK
}

// drop: a session goes, with its keys.
func (p *plain) drop(id uint64) {
	delete(p.sessions, id)
	maps.DeleteFunc(p.nodes, func(_ string, n api.Node) bool { return n.Owner == id })
}

func (p *plain) live(id uint64) bool { return p.sessions[id].ends > p.now }

// written: is there room for a command's record? It is taken.
func (p *plain) written(key, value string) bool {
	size := recordSize(key, value)
	if size > p.room {
		return false
	}
	p.room -= size
	return true
}

func (p *plain) list() []api.Node {
	return slices.SortedFunc(maps.Values(p.nodes), func(a, b api.Node) int { return strings.Compare(a.Key, b.Key) })
}

// recordSize: how many bytes a command's record has on a disk: a frame's head, a kind, two counted texts, three numbers.
func recordSize(key, value string) int { return 8 + 1 + 4 + len(key) + 4 + len(value) + 3*8 }

// node: a key's, with a text as its value.
func node(key, value string, version, session uint64) api.Node {
	return api.Node{Key: key, Value: []byte(value), Version: version, Owner: session}
}

// u64: a number as a value.
func u64(n uint64) string { return string(binary.BigEndian.AppendUint64(nil, n)) }

// plainNumber: that of a value.
func plainNumber(b []byte) uint64 {
	if len(b) != 8 {
		return 0
	}
	return binary.BigEndian.Uint64(b)
}
