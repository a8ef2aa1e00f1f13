package meta

import (
	"mailcoach/api"
	"mailcoach/disk"
	"mailcoach/journal"
	"mailcoach/lease"
	"mailcoach/pack"
	"mailcoach/tree"
)

// record: a command's bytes; a KSnap's are those of the state.
func (s *state) record(c api.Cmd) []byte {
	w := &pack.Writer{}
	w.U8(uint8(c.Kind))
	if c.Kind == api.KSnap {
		s.lay(w)
	} else {
		layCommand(w, c)
	}
	return w.Done()
}

// lay: the state as bytes.
func (s *state) lay(w *pack.Writer) {
	last, sessions := s.book.All()
	w.U64(s.now)
	w.U64(last)
	w.U16(uint16(len(sessions)))
	for _, one := range sessions {
		w.U64(one.Id)
		w.U64(one.Ends)
		w.U64(one.Life)
	}
	nodes := s.tree.List("")
	w.U16(uint16(len(nodes)))
	for _, n := range nodes {
		w.Bytes([]byte(n.Key))
		w.Bytes(n.Value)
		w.U64(n.Version)
		w.U64(n.Owner)
	}
}

// layCommand: all that a command says behind its kind, what its kind doesn't ask for too.
func layCommand(w *pack.Writer, c api.Cmd) {
	w.Bytes([]byte(c.Key))
	w.Bytes(c.Value)
	w.U64(c.Want)
	w.U64(c.Session)
	w.U64(c.Ticks)
}

// told: the state behind a disk's records.
func told(d *disk.Disk) (state, api.Errno) {
	// To open a journal is to cut its disk, but one that is refused stays as it is: another one is opened.
	_, records, e := journal.Open(twinDisk(d))
	if e != api.OK {
		return state{}, e
	}
	s := begun()
	for _, record := range records {
		if s.replay(record) != api.OK {
			return state{}, api.ErrState
		}
	}
	return s, api.OK
}

// twinDisk: a disk of the same bytes; of no disk one without bytes.
func twinDisk(d *disk.Disk) *disk.Disk {
	b := d.Bytes()
	twin, _ := disk.New(len(b)) // it isn't refused: no disk has more bytes than there may be
	twin.Append(b)
	return twin
}

// replay: a record's command is done. Where it answers an error, the state is of no more use.
func (s *state) replay(record []byte) api.Errno {
	return pack.Read(record, func(r *pack.Reader) {
		kind := api.CmdKind(r.U8())
		if kind == api.KSnap {
			*s = takeState(r)
			return
		}
		_, _, e := s.do(takeCommand(kind, r))
		r.Fail(e)
	})
}

// takeState: a state from its bytes.
func takeState(r *pack.Reader) state {
	now, last := r.U64(), r.U64()
	b, whole := lease.New(last, takeSessions(r))
	t, right := tree.Load(takeNodes(r))
	if now > api.MaxTime || !whole || !right {
		r.Fail(api.ErrState)
	}
	return state{now, t, b}
}

// takeSessions: how many sessions, and they.
func takeSessions(r *pack.Reader) []api.Session {
	var l []api.Session
	for range r.U16() {
		l = append(l, api.Session{Id: r.U64(), Ends: r.U64(), Life: r.U64()})
	}
	return l
}

// takeNodes: how many nodes, and they.
func takeNodes(r *pack.Reader) []api.Node {
	var l []api.Node
	for range r.U16() {
		l = append(l, api.Node{Key: string(r.Bytes()), Value: r.Bytes(), Version: r.U64(), Owner: r.U64()})
	}
	return l
}

// takeCommand: what a command of a kind says behind that.
func takeCommand(kind api.CmdKind, r *pack.Reader) api.Cmd {
	return api.Cmd{Kind: kind, Key: string(r.Bytes()), Value: r.Bytes(), Want: r.U64(), Session: r.U64(), Ticks: r.U64()}
}
