package shelf

import (
	"mailcoach/api"
	"mailcoach/disk"
	"mailcoach/journal"
	"mailcoach/pack"
)

// The kinds of records.
const (
	adds uint8 = iota + 1
	fences
	drops
)

// addition: the record of an entry, and of up to where all are confirmed.
func addition(ledger uint64, i api.Item, sure uint64) []byte {
	w := &pack.Writer{}
	w.U8(adds)
	w.U64(ledger)
	w.U64(i.Entry)
	w.U64(sure)
	w.Bytes(i.Data)
	return w.Done()
}

// whole: the record of what befalls a ledger as a whole.
func whole(kind uint8, ledger uint64) []byte {
	w := &pack.Writer{}
	w.U8(kind)
	w.U64(ledger)
	return w.Done()
}

// write: a record more; when it is sure, it is replayed, so that what is kept is what Open will find.
func (s *Shelf) write(record []byte) api.Errno {
	if e := s.journal.Write(record); e != api.OK {
		return e
	}
	return pack.Read(record, s.replay)
}

// replay: what a record says comes to be. Where Read answers an error, the ledgers are of no more use.
func (s *Shelf) replay(r *pack.Reader) {
	kind, ledger := r.U8(), r.U64()
	has := s.ledgers[ledger]
	if has.gone {
		r.Fail(api.ErrState)
	}
	switch kind {
	case adds:
		has.add(r.U64(), r.U64(), r.Bytes())
	case fences:
		has.fenced = true
	case drops:
		has = stock{gone: true}
	default:
		r.Fail(api.ErrState)
	}
	s.ledgers[ledger] = has
}

// add: an entry is there with these bytes; what was sure stays so.
func (has *stock) add(entry, sure uint64, data []byte) {
	if has.entries == nil {
		has.entries = map[uint64][]byte{}
	}
	has.entries[entry] = data
	has.sure = max(has.sure, sure)
}

// told: the ledgers behind a disk's records.
func told(d *disk.Disk) (map[uint64]stock, api.Errno) {
	// To open a journal is to cut its disk, but one that is refused stays as it is: another one is opened.
	_, records, e := journal.Open(twin(d))
	if e != api.OK {
		return nil, e
	}
	s := &Shelf{ledgers: map[uint64]stock{}}
	for _, record := range records {
		if pack.Read(record, s.replay) != api.OK {
			return nil, api.ErrState
		}
	}
	return s.ledgers, api.OK
}

// twin: a disk of the same bytes; of no disk one without bytes.
func twin(d *disk.Disk) *disk.Disk {
	b := d.Bytes()
	other, _ := disk.New(len(b)) // it isn't refused: no disk has more bytes than there may be
	other.Append(b)
	return other
}
