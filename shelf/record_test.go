package shelf_test

import (
	"slices"
	"strconv"
	"strings"
	"testing"

	"mailcoach/api"
	"mailcoach/disk"
	"mailcoach/shelf"
)

// laid: a disk with these bytes, the first of them sure, and room for more.
func laid(t *testing.T, sure, others string) *disk.Disk {
	t.Helper()
	d := fresh(t, len(sure)+len(others)+1<<20)
	d.Append([]byte(sure))
	d.Sync()
	d.Append([]byte(others))
	return d
}

// opened: the node of a disk on which these records stand; it has what is wanted.
func opened(t *testing.T, what string, want map[uint64]held, records ...string) (*shelf.Shelf, *disk.Disk) {
	t.Helper()
	d := laid(t, "", frames(records...))
	s := node(t, d)
	holdDisk(t, "P9.3: behind Open, "+what, d, frames(records...))
	hold(t, "P9.3: opened, "+what, s, want)
	return s, d
}

// notOpened: a disk with these records is refused, and stays as it is: just the first of them sure, with ruins behind them, too.
func notOpened(t *testing.T, what string, records ...string) {
	t.Helper()
	for _, ruins := range []string{"", "ruins", frames("behind")[:9]} {
		sure, others := frames(records[:len(records)-1]...), frames(records[len(records)-1])+ruins
		d := laid(t, sure, others)
		if s, e := shelf.Open(d); s != nil || e != api.ErrState {
			t.Errorf("P9.3, R3: Open, %s: %v, error %d", what, s != nil, e)
		}
		if string(d.Bytes()) != sure+others || d.Sure() != len(sure) {
			t.Errorf("R4: behind Open, %s: %d bytes, %d of them sure; there were %d, %d", what, len(d.Bytes()), d.Sure(), len(sure+others), len(sure))
		}
	}
}

func TestRecordsByteByByte(t *testing.T) {
	s, d := began(t, add(258, 3, "ab", 4))
	want := "\x00\x00\x00\x1f\x66\x43\xf0\x03" + "\x01" + "\x00\x00\x00\x00\x00\x00\x01\x02" +
		"\x00\x00\x00\x00\x00\x00\x00\x03" + "\x00\x00\x00\x00\x00\x00\x00\x04" + "\x00\x00\x00\x02ab"
	holdDisk(t, "P9.1: a record, byte by byte", d, want)
	does(t, s, fence(258), 4)
	want += "\x00\x00\x00\x09\xa4\xed\x5a\x42" + "\x02" + "\x00\x00\x00\x00\x00\x00\x01\x02"
	holdDisk(t, "P9.2: two records, byte by byte", d, want)
	does(t, s, mend(258, 4, "", 1<<63), 0)
	want += frames("\x01" + "\x00\x00\x00\x00\x00\x00\x01\x02" +
		"\x00\x00\x00\x00\x00\x00\x00\x04" + "\x80\x00\x00\x00\x00\x00\x00\x00" + "\x00\x00\x00\x00")
	does(t, s, drop(258), 0)
	want += "\x00\x00\x00\x09\x50\xd3\x8c\x0a" + "\x03" + "\x00\x00\x00\x00\x00\x00\x01\x02"
	holdDisk(t, "P9.2: four records, byte by byte", d, want)
}

// What is there has its own sure in its record, a lesser one than the ledger's too.
func TestRecordsOfLesserSures(t *testing.T) {
	s, d := began(t, add(5, 0, "a", 9), add(5, 1, "b", 2), mend(5, 2, "c", 0))
	want := frames(adding(5, 0, 9, "a"), adding(5, 1, 2, "b"), adding(5, 2, 0, "c"))
	holdDisk(t, "P9.1: records of lesser sures", d, want)
	hold(t, "behind lesser sures", s, map[uint64]held{5: has(9, "a", "b", "c")})
	hold(t, "P9.4: opened behind lesser sures", node(t, d), map[uint64]held{5: has(9, "a", "b", "c")})
}

// all: calls that each write a record, and these.
func all() ([]call, []string) {
	l := []call{add(5, 0, "a", 0), add(6, top, "", 7), add(5, 0, "a", 1), fence(5), mend(5, 1, "bc", 3), fence(9), drop(6), drop(top), mend(9, 2, "d", 0), drop(9)}
	r := []string{
		adding(5, 0, 0, "a"), adding(6, top, 7, ""), adding(5, 0, 1, "a"), fencing(5), adding(5, 1, 3, "bc"),
		fencing(9), dropping(6), dropping(top), adding(9, 2, 0, "d"), dropping(9),
	}
	return l, r
}

func TestRecords(t *testing.T) {
	l, records := all()
	p := newPlain(1 << 20)
	for i := range l {
		p.do(l[i])
		s, d := began(t, l[:i+1]...)
		holdDisk(t, "P9.1, P9.2: the records", d, frames(records[:i+1]...))
		hold(t, "behind "+l[i].said(), s, p.ledgers)
		opened(t, "behind "+l[i].said(), p.ledgers, records[:i+1]...)
	}
	want := map[uint64]held{5: has(3, "a", "bc").fence(), 6: {gone: true}, 9: {gone: true}, top: {gone: true}}
	opened(t, "all records", want, records...)
}

// Open refuses less than Add does: of records that are whole, those of a ledger that is gone alone.
func TestOpenOfWhatAddRefuses(t *testing.T) {
	opened(t, "other bytes", map[uint64]held{5: has(0, "new", "b")}, adding(5, 0, 0, "old"), adding(5, 1, 0, "b"), adding(5, 0, 0, "new"))
	opened(t, "other bytes, and back", map[uint64]held{5: has(0, "old")}, adding(5, 0, 0, "old"), adding(5, 0, 0, ""), adding(5, 0, 0, "old"))
	opened(t, "sures that fall", map[uint64]held{5: has(9, "a", "b", "c")}, adding(5, 0, 3, "a"), adding(5, 1, 9, "b"), adding(5, 2, 8, "c"))
	opened(t, "the same twice", map[uint64]held{5: has(9, "a")}, adding(5, 0, 9, "a"), adding(5, 0, 9, "a"), adding(5, 0, 1, "a"))
	opened(t, "other bytes with a lesser sure", map[uint64]held{5: has(9, "b")}, adding(5, 0, 9, "a"), adding(5, 0, 1, "b"))
	opened(t, "an entry of a fenced one", map[uint64]held{5: has(2, "b").fence()}, adding(5, 0, 1, "a"), fencing(5), adding(5, 0, 2, "b"))
	opened(t, "fenced twice", map[uint64]held{5: has(0).fence()}, fencing(5), fencing(5))
	long := strings.Repeat("x", 257)
	s, d := opened(t, "more bytes than Add takes", map[uint64]held{5: has(0, long)}, adding(5, 0, 0, long))
	refuses(t, s, d, add(5, 0, long, 0), api.ErrLong)
	refuses(t, s, d, add(5, 0, "x", 0), api.ErrOther)
	longest := strings.Repeat("x", 4096-29)
	opened(t, "the longest record", map[uint64]held{5: has(0, longest)}, adding(5, 0, 0, longest))
	s, d = opened(t, "the ledger 0", map[uint64]held{0: has(3, "a").fence()}, adding(0, 0, 3, "a"), fencing(0))
	refuses(t, s, d, add(0, 0, "a", 3), api.ErrRange)
	refuses(t, s, d, fence(0), api.ErrRange)
	refuses(t, s, d, drop(0), api.ErrRange)
}

func TestOpenCutsRuins(t *testing.T) {
	_, records := all()
	want := map[uint64]held{5: has(1, "a"), 6: held{sure: 7}.with(top, "")}
	whole := frames(records[:3]...)
	for _, ruins := range []string{"r", "ruins", frames(records[3])[:16], frames(fencing(5))[:8] + "\x02" + u64(6), "\xff\xff\xff\xff\xff\xff\xff\xff\xff" + frames(fencing(5))} {
		d := laid(t, whole[:40], whole[40:]+ruins)
		s := node(t, d)
		hold(t, "P9.3: opened on ruins", s, want)
		holdDisk(t, "P9.3: opened on ruins", d, whole)
		does(t, s, fence(5), 1)
		holdDisk(t, "P9.2: behind Open on ruins", d, frames(records[:4]...))
	}
}

func TestOpenOfRecordsThatAreNotRight(t *testing.T) {
	_, records := all()
	for i, record := range records {
		for n := range record {
			notOpened(t, "a record cut to "+strconv.Itoa(n), append(slices.Clone(records[:i]), record[:n])...)
		}
		notOpened(t, "a record with a byte more", append(slices.Clone(records[:i]), record+"\x00")...)
		notOpened(t, "a record twice in one", append(slices.Clone(records[:i]), record+record)...)
	}
	for kind := range 256 {
		for _, rest := range []string{u64(5), u64(5, 0, 0) + counted("a")} {
			record := string([]byte{byte(kind)}) + rest
			if record == adding(5, 0, 0, "a") || record == fencing(5) || record == dropping(5) {
				continue
			}
			notOpened(t, "the kind "+strconv.Itoa(kind)+" with "+strconv.Itoa(len(rest))+" bytes", record)
			notOpened(t, "the kind "+strconv.Itoa(kind)+" behind others", records[0], record)
		}
	}
	notOpened(t, "eight bytes 0, a frame of no bytes", "")
	notOpened(t, "fewer bytes than it says", "\x01"+u64(5, 0, 0)+"\x00\x00\x00\x02a")
	notOpened(t, "more bytes than it says", "\x01"+u64(5, 0, 0)+"\x00\x00\x00\x01ab")
	notOpened(t, "far more than there may be", "\x01"+u64(5, 0, 0)+"\xff\xff\xff\xffa")
	notOpened(t, "one that isn't right, and a right one behind it", "\x04"+u64(5), records[0])
	notOpened(t, "one that is cut, and a right one behind it", records[0][:9], records[0])
}

func TestOpenOfRecordsOfOneThatIsGone(t *testing.T) {
	for _, ahead := range [][]string{{dropping(5)}, {adding(5, 0, 0, "a"), dropping(5)}, {adding(5, 0, 0, "a"), fencing(5), adding(6, 0, 0, "b"), dropping(5), fencing(6)}} {
		for what, record := range map[string]string{"an entry": adding(5, 0, 0, "a"), "another entry": adding(5, 1, 0, "c"), "Fence": fencing(5), "Drop": dropping(5)} {
			notOpened(t, what+" of one that is gone", append(slices.Clone(ahead), record)...)
			notOpened(t, what+" of one that is gone, and others", append(slices.Clone(ahead), record, fencing(7))...)
		}
		d := laid(t, "", frames(append(slices.Clone(ahead), adding(6, 0, 0, "b"), fencing(7), dropping(8), adding(1<<32+5, 0, 0, "e"))...))
		s := node(t, d) // of others all is well
		if _, gone, _ := s.About(5); !gone {
			t.Errorf("P9.3: opened, one that is gone isn't")
		}
	}
}
