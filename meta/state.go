package meta

import (
	"math"

	"mailcoach/api"
	"mailcoach/lease"
	"mailcoach/tree"
)

// state is a time, keys, and the sessions to which they belong.
type state struct {
	now  uint64
	tree *tree.Tree
	book *lease.Book
}

// begun: the state at first.
func begun() state {
	b, _ := lease.New(0, nil)
	return state{0, tree.New(), b}
}

// twin: the same state, in memory of its own.
func (s *state) twin() state {
	b, _ := lease.New(s.book.All()) // it isn't refused: what a book has is right
	return state{s.now, twinTree(s.tree), b}
}

// twinTree: a tree of the same nodes.
func twinTree(t *tree.Tree) *tree.Tree {
	l := t.List("")
	var round []api.Node
	for i, n := range l {
		// A version that has gone round to 0 is one that Load refuses: it goes round once more.
		if n.Version == 0 {
			l[i].Version = math.MaxUint64
			round = append(round, n)
		}
	}
	twin, _ := tree.Load(l)
	for _, n := range round {
		twin.Put(n.Key, n.Value, math.MaxUint64, n.Owner)
	}
	return twin
}

// do: a command: its number, the sessions that went. Where it answers an error nothing is changed.
func (s *state) do(c api.Cmd) (n uint64, gone []uint64, e api.Errno) {
	switch c.Kind {
	case api.KPut:
		n, e = s.put(c)
	case api.KDelete:
		e = s.tree.Delete(c.Key, c.Want)
	case api.KOpen:
		n, e = s.book.Open(s.now, c.Ticks)
	case api.KRenew:
		e = s.renew(c.Session)
	case api.KClose:
		e = s.close(c.Session)
	case api.KTick:
		n, gone = s.tick(c.Ticks)
	case api.KSnap:
	default:
		e = api.ErrKind
	}
	return n, gone, e
}

// put: a key's value; its version.
func (s *state) put(c api.Cmd) (uint64, api.Errno) {
	if s.expired(c.Session) {
		return 0, api.ErrExpired
	}
	return s.tree.Put(c.Key, c.Value, c.Want, c.Session)
}

// renew: a session lives from now on so long again.
func (s *state) renew(id uint64) api.Errno {
	if s.expired(id) {
		return api.ErrExpired
	}
	return s.book.Renew(id, s.now)
}

// close: a session ends, and its keys go.
func (s *state) close(id uint64) api.Errno {
	e := s.book.Close(id)
	if e == api.OK {
		s.tree.Drop(id)
	}
	return e
}

// tick: so many ticks go by; the time then, and the sessions that went with their keys.
func (s *state) tick(ticks uint64) (uint64, []uint64) {
	// Of more ticks than there is time left for, the sum might go round.
	s.now += min(ticks, api.MaxTime-s.now)
	gone := s.book.Expire(s.now)
	for _, id := range gone {
		s.tree.Drop(id)
	}
	return s.now, gone
}

// live: is a session there, and not over?
func (s *state) live(id uint64) bool { return s.book.Live(id, s.now) }

// expired: is it a session's number, but none that is live? (0 is none's.)
func (s *state) expired(id uint64) bool { return id != 0 && !s.live(id) }
