package meta_test

import (
	"cmp"
	"encoding/binary"
	"hash/crc32"
	"maps"
	"slices"
	"strings"

	"mailcoach/api"
)

// plain is a keeper by the chapter's words: sessions and nodes in maps, and the bytes of its disk.
type plain struct {
	now, last uint64
	sessions  map[uint64]api.Session
	nodes     map[string]api.Node
	room      int
	disk      string
}

func newPlain(room int) *plain {
	return &plain{sessions: map[uint64]api.Session{}, nodes: map[string]api.Node{}, room: room}
}

// do: a command; P8.1.
func (p *plain) do(c api.Cmd) (uint64, []uint64, api.Errno) {
	next := *p
	next.sessions, next.nodes = maps.Clone(p.sessions), maps.Clone(p.nodes)
	n, gone, e := next.command(c)
	if e != api.OK {
		return 0, nil, e
	}
	body := command(c.Kind, c.Key, string(c.Value), c.Want, c.Session, c.Ticks)
	if c.Kind == 7 {
		body = snapshot(p.now, p.last, p.openSessions(), p.list(""))
	}
	if len(body) > 4096 {
		return 0, nil, api.ErrLong
	}
	if len(p.disk)+8+len(body) > p.room {
		return 0, nil, api.ErrFull
	}
	next.disk += frames(body)
	*p = next
	return n, gone, api.OK
}

// command: what a command does by its kind; beside an error it may have done a part.
func (p *plain) command(c api.Cmd) (uint64, []uint64, api.Errno) {
	switch c.Kind {
	case 1:
		n, e := p.put(c)
		return n, nil, e
	case 2:
		return 0, nil, p.delete(c)
	case 3:
		n, e := p.open(c.Ticks)
		return n, nil, e
	case 4:
		return 0, nil, p.renew(c.Session)
	case 5:
		if _, ok := p.sessions[c.Session]; !ok {
			return 0, nil, api.ErrNone
		}
		p.end(c.Session)
		return 0, nil, api.OK
	case 6:
		gone := p.tick(c.Ticks)
		return p.now, gone, api.OK
	case 7:
		return 0, nil, api.OK
	}
	return 0, nil, api.ErrKind
}

func (p *plain) put(c api.Cmd) (uint64, api.Errno) {
	old, there := p.nodes[c.Key]
	switch {
	case c.Session != 0 && !p.live(c.Session):
		return 0, api.ErrExpired
	case len(c.Key) < 1 || len(c.Key) > 64:
		return 0, api.ErrName
	case len(c.Value) > 3840:
		return 0, api.ErrLong
	case c.Want == 0 && there:
		return 0, api.ErrExists
	case c.Want != 0 && !there:
		return 0, api.ErrNone
	case there && old.Version != c.Want:
		return 0, api.ErrVersion
	case !there && len(p.nodes) == 256:
		return 0, api.ErrMany
	}
	owner := c.Session
	if there {
		owner = old.Owner
	}
	p.nodes[c.Key] = node(c.Key, string(c.Value), c.Want+1, owner)
	return c.Want + 1, api.OK
}

func (p *plain) delete(c api.Cmd) api.Errno {
	old, there := p.nodes[c.Key]
	if !there {
		return api.ErrNone
	}
	if old.Version != c.Want {
		return api.ErrVersion
	}
	delete(p.nodes, c.Key)
	return api.OK
}

func (p *plain) open(life uint64) (uint64, api.Errno) {
	if life < 1 || life > 1<<40 {
		return 0, api.ErrTime
	}
	if len(p.sessions) == 16 || p.last == top {
		return 0, api.ErrMany
	}
	p.last++
	p.sessions[p.last] = session(p.last, p.now+life, life) // neither is above 2^40
	return p.last, api.OK
}

func (p *plain) renew(id uint64) api.Errno {
	if id != 0 && !p.live(id) {
		return api.ErrExpired
	}
	s, ok := p.sessions[id]
	if !ok {
		return api.ErrNone
	}
	s.Ends = max(s.Ends, p.now+s.Life)
	p.sessions[id] = s
	return api.OK
}

// tick: the time, and the sessions that went.
func (p *plain) tick(ticks uint64) []uint64 {
	if ticks > 1<<40 || p.now+ticks > 1<<40 {
		p.now = 1 << 40
	} else {
		p.now += ticks
	}
	var gone []uint64
	for id, s := range p.sessions {
		if s.Ends <= p.now {
			gone = append(gone, id)
		}
	}
	for _, id := range gone {
		p.end(id)
	}
	slices.Sort(gone)
	return gone
}

// end: a session goes, with its keys.
func (p *plain) end(id uint64) {
	delete(p.sessions, id)
	maps.DeleteFunc(p.nodes, func(_ string, n api.Node) bool { return n.Owner == id })
}

func (p *plain) live(id uint64) bool {
	s, ok := p.sessions[id]
	return ok && s.Ends > p.now
}

func (p *plain) openSessions() []api.Session {
	return slices.SortedFunc(maps.Values(p.sessions), func(a, b api.Session) int { return cmp.Compare(a.Id, b.Id) })
}

func (p *plain) list(prefix string) []api.Node {
	var l []api.Node
	for key, n := range p.nodes {
		if strings.HasPrefix(key, prefix) {
			l = append(l, n)
		}
	}
	slices.SortFunc(l, func(a, b api.Node) int { return strings.Compare(a.Key, b.Key) })
	return l
}

// node: a key's, with a text as its value.
func node(key, value string, version, owner uint64) api.Node {
	return api.Node{Key: key, Value: []byte(value), Version: version, Owner: owner}
}

// session: of a number, that ends then and lives so long.
func session(id, ends, life uint64) api.Session {
	return api.Session{Id: id, Ends: ends, Life: life}
}

// u16, u64: numbers as bytes, the greatest first.
func u16(n int) string { return string(binary.BigEndian.AppendUint16(nil, uint16(n))) }

func u64(l ...uint64) string {
	var b []byte
	for _, n := range l {
		b = binary.BigEndian.AppendUint64(b, n)
	}
	return string(b)
}

// counted: how many bytes, and they.
func counted(s string) string {
	return string(binary.BigEndian.AppendUint32(nil, uint32(len(s)))) + s
}

// command: the record of one that isn't KSnap.
func command(kind api.CmdKind, key, value string, want, session, ticks uint64) string {
	return string([]byte{byte(kind)}) + counted(key) + counted(value) + u64(want, session, ticks)
}

// snapshot: the record of a KSnap.
func snapshot(now, last uint64, sessions []api.Session, nodes []api.Node) string {
	b := "\x07" + u64(now, last) + u16(len(sessions))
	for _, s := range sessions {
		b += u64(s.Id, s.Ends, s.Life)
	}
	b += u16(len(nodes))
	for _, n := range nodes {
		b += counted(n.Key) + counted(string(n.Value)) + u64(n.Version, n.Owner)
	}
	return b
}

// frames: those of bodies, one behind the other.
func frames(bodies ...string) string {
	var all []byte
	for _, b := range bodies {
		all = binary.BigEndian.AppendUint32(all, uint32(len(b)))
		all = binary.BigEndian.AppendUint32(all, crc32.Checksum([]byte(b), crc32.MakeTable(crc32.Castagnoli)))
		all = append(all, b...)
	}
	return string(all)
}
