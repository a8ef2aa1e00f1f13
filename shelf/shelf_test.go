package shelf_test

import (
	"bytes"
	"maps"
	"math"
	"math/rand"
	"slices"
	"strconv"
	"strings"
	"testing"

	"mailcoach/api"
	"mailcoach/disk"
	"mailcoach/shelf"
)

const top = math.MaxUint64

// call is one of a node's that may change it: 'a' Add, 'm' Add that mends, 'f' Fence, 'd' Drop.
type call struct {
	kind                byte
	ledger, entry, sure uint64
	data                string
}

func add(ledger, entry uint64, data string, sure uint64) call {
	return call{'a', ledger, entry, sure, data}
}

func mend(ledger, entry uint64, data string, sure uint64) call {
	return call{'m', ledger, entry, sure, data}
}

func fence(ledger uint64) call { return call{kind: 'f', ledger: ledger} }

func drop(ledger uint64) call { return call{kind: 'd', ledger: ledger} }

// said: a call as a text, short enough for a test's word.
func (c call) said() string {
	id := strconv.FormatUint(c.ledger, 10)
	switch c.kind {
	case 'f':
		return "Fence(" + id + ")"
	case 'd':
		return "Drop(" + id + ")"
	}
	data := strconv.Quote(c.data[:min(len(c.data), 10)])
	if len(c.data) > 10 {
		data += ".." + strconv.Itoa(len(c.data))
	}
	return "Add(" + id + ", " + strconv.FormatUint(c.entry, 10) + " " + data + ", " + strconv.FormatUint(c.sure, 10) + ", " + strconv.FormatBool(c.kind == 'm') + ")"
}

// do: a call to a node; what it answers.
func do(s *shelf.Shelf, c call) (uint64, api.Errno) {
	switch c.kind {
	case 'f':
		return s.Fence(c.ledger)
	case 'd':
		return 0, s.Drop(c.ledger)
	}
	return 0, s.Add(c.ledger, item(c.entry, c.data), c.sure, c.kind == 'm')
}

// fresh: a new disk with room for so many bytes.
func fresh(t *testing.T, room int) *disk.Disk {
	t.Helper()
	d, e := disk.New(room)
	if e != api.OK {
		t.Fatalf("disk.New(%d): error %d", room, e)
	}
	return d
}

// node: the one of a disk.
func node(t *testing.T, d *disk.Disk) *shelf.Shelf {
	t.Helper()
	s, e := shelf.Open(d)
	if e != api.OK || s == nil {
		t.Fatalf("P9.3: Open: %v, error %d", s != nil, e)
	}
	return s
}

// began: a node of a new disk behind some calls.
func began(t *testing.T, l ...call) (*shelf.Shelf, *disk.Disk) {
	t.Helper()
	d := fresh(t, 1<<20)
	s := node(t, d)
	for _, c := range l {
		if _, e := do(s, c); e != api.OK {
			t.Fatalf("P9.1, P9.2: %s: error %d", c.said(), e)
		}
	}
	return s, d
}

// same: two entries.
func same(a, b api.Item) bool { return a.Entry == b.Entry && bytes.Equal(a.Data, b.Data) }

// hold: what a node tells of some ledgers; of others, some of which are looked at, it has nothing.
func hold(t *testing.T, what string, s *shelf.Shelf, want map[uint64]held) {
	t.Helper()
	for _, id := range append(slices.Collect(maps.Keys(want)), 0, 1, 2, 5, 6, 7, 1<<32+5, top-5, top) {
		holdLedger(t, what, s, id, want[id])
	}
}

// holdLedger: what a node tells of one.
func holdLedger(t *testing.T, what string, s *shelf.Shelf, id uint64, want held) {
	t.Helper()
	fenced, gone, sure := s.About(id)
	if fenced != want.fenced || gone != want.gone || sure != want.sure {
		t.Fatalf("P9.3: %s: About(%d): fenced %v, gone %v, sure %d; want %v, %v, %d", what, id, fenced, gone, sure, want.fenced, want.gone, want.sure)
	}
	if l := s.List(id); !slices.EqualFunc(l, want.items(), same) {
		t.Fatalf("P9.3: %s: List(%d): %.300v; want %.300v", what, id, l, want.items())
	}
	look := []uint64{0, 1, 2, 3, 1 << 32, top}
	for n := range want.entries {
		look = append(look, n-1, n, n+1, n^1<<32)
	}
	for _, n := range look {
		b, ok := s.Read(id, n)
		data, there := want.entries[n]
		if ok != there || string(b) != data {
			t.Fatalf("P9.3, R3: %s: Read(%d, %d): %.20q, %v; want %.20q, %v", what, id, n, b, ok, data, there)
		}
	}
}

// holdDisk: what stands on a disk; all is sure.
func holdDisk(t *testing.T, what string, d *disk.Disk, want string) {
	t.Helper()
	if got := string(d.Bytes()); got != want {
		t.Fatalf("%s: on the disk stand %.400q, want %.400q", what, got, want)
	}
	if got := d.Sure(); got != len(want) {
		t.Fatalf("%s: %d bytes are sure, want %d", what, got, len(want))
	}
}

// does: a call that is answered a number (0, but of Fence), and OK.
func does(t *testing.T, s *shelf.Shelf, c call, n uint64) {
	t.Helper()
	if got, e := do(s, c); got != n || e != api.OK {
		t.Fatalf("P9.1, P9.2: %s: %d, error %d; want %d", c.said(), got, e, n)
	}
}

// shown: what a node tells of the ledgers up to 9, and of some others.
func shown(s *shelf.Shelf) map[uint64]held {
	all := map[uint64]held{}
	for _, id := range []uint64{0, 1, 2, 3, 4, 5, 6, 7, 8, 9, 1<<32 + 5, top} {
		fenced, gone, sure := s.About(id)
		h := held{fenced: fenced, gone: gone, sure: sure, entries: map[uint64]string{}}
		for _, i := range s.List(id) {
			h.entries[i.Entry] = string(i.Data)
		}
		all[id] = h
	}
	return all
}

// changesNothing: a call that is answered so, and leaves all as it was, the disk too.
func changesNothing(t *testing.T, s *shelf.Shelf, d *disk.Disk, c call, n uint64, code api.Errno) {
	t.Helper()
	before, b := shown(s), string(d.Bytes())
	got, e := do(s, c)
	if got != n || e != code {
		t.Errorf("P9.1, P9.2, R3: %s: %d, error %d; want %d, error %d", c.said(), got, e, n, code)
	}
	hold(t, "R4: behind "+c.said(), s, before)
	holdDisk(t, "R4: behind "+c.said(), d, b)
}

// refuses: a call that is answered an error, and changes nothing.
func refuses(t *testing.T, s *shelf.Shelf, d *disk.Disk, c call, code api.Errno) {
	t.Helper()
	changesNothing(t, s, d, c, 0, code)
}

func TestExamples(t *testing.T) {
	s, d := began(t)
	does(t, s, add(5, 0, "a", 0), 0)
	does(t, s, fence(5), 0)
	refuses(t, s, d, add(5, 1, "b", 0), api.ErrFenced)
	does(t, s, mend(5, 1, "b", 0), 0)
	hold(t, "the chapter's example", s, map[uint64]held{5: has(0, "a", "b").fence()})
}

func TestNothingAtFirst(t *testing.T) {
	s, d := began(t)
	hold(t, "a new node", s, nil)
	holdDisk(t, "a new node", d, "")
}

func TestAdd(t *testing.T) {
	s, _ := began(t)
	want := held{}
	for i, n := range []uint64{7, 0, 3, top, 1 << 32, 1 << 63, top - 1, 255, 256, 65536} { // in any order, with gaps
		data := strconv.Itoa(i)
		does(t, s, add(5, n, data, 0), 0)
		want = want.with(n, data)
		hold(t, "behind Add", s, map[uint64]held{5: want})
	}
	does(t, s, add(top, top, "z", top), 0)
	does(t, s, add(1, 0, "", 3), 0)
	does(t, s, add(6, 7, "other", 1), 0)
	does(t, s, mend(6, 8, "mended", 0), 0) // mends where nothing is fenced
	six := held{sure: 1}.with(7, "other").with(8, "mended")
	hold(t, "behind Add to others", s, map[uint64]held{5: want, 6: six, 1: has(3, ""), top: held{sure: top}.with(top, "z")})
}

func TestSureIsTheGreaterOne(t *testing.T) {
	s, _ := began(t)
	sure := uint64(0)
	want := held{}
	for n, told := range []uint64{3, 0, 2, 3, 4, 1 << 40, 1, top - 1, top, 0} {
		does(t, s, add(5, uint64(n), "x", told), 0)
		sure = max(sure, told)
		want = want.with(uint64(n), "x")
		want.sure = sure
		hold(t, "behind Add with "+strconv.FormatUint(told, 10), s, map[uint64]held{5: want})
	}
}

func TestAddOfWhatIsThere(t *testing.T) {
	for _, fenced := range []bool{false, true} {
		s, d := began(t, add(5, 4, "ab", 2), add(5, 9, "", 3))
		want, again := held{sure: 3}.with(4, "ab").with(9, ""), add
		if fenced {
			does(t, s, fence(5), 3)
			want, again = want.fence(), mend
		}
		for _, sure := range []uint64{0, 1, 2, 3} {
			changesNothing(t, s, d, again(5, 4, "ab", sure), 0, api.OK)
			changesNothing(t, s, d, again(5, 9, "", sure), 0, api.OK)
			changesNothing(t, s, d, mend(5, 4, "ab", sure), 0, api.OK)
			for _, other := range []string{"", "a", "abc", "Ab", "ab\x00", "\x00"} {
				refuses(t, s, d, again(5, 4, other, sure), api.ErrOther)
				refuses(t, s, d, mend(5, 4, other, sure), api.ErrOther)
			}
			refuses(t, s, d, again(5, 9, "\x00", sure), api.ErrOther)
		}
		refuses(t, s, d, again(5, 4, "other", 9), api.ErrOther) // a greater sure doesn't stand beside an error
		b := string(d.Bytes())
		does(t, s, again(5, 4, "ab", 4), 0)
		want.sure = 4
		hold(t, "behind Add of what is there, with a greater sure", s, map[uint64]held{5: want})
		holdDisk(t, "P9.1: Add of what is there, with a greater sure", d, b+frames(adding(5, 4, 4, "ab")))
		does(t, s, again(5, 9, "", top), 0)
		want.sure = top
		hold(t, "behind Add of what is there, with the greatest sure", s, map[uint64]held{5: want})
		changesNothing(t, s, d, again(5, 4, "ab", top), 0, api.OK)
		hold(t, "P9.4: opened behind all", node(t, d), map[uint64]held{5: want})
	}
}

func TestHowManyBytes(t *testing.T) {
	s, d := began(t)
	want := held{}
	for n, size := range []int{0, 1, 2, 255, 256} {
		data := strings.Repeat("x", size)
		does(t, s, add(5, uint64(n), data, 0), 0)
		want = want.with(uint64(n), data)
	}
	hold(t, "from none to 256 bytes", s, map[uint64]held{5: want})
	for _, size := range []int{257, 258, 4096, 5000, 1 << 16} {
		for _, entry := range []uint64{0, 4, 9} {
			refuses(t, s, d, add(5, entry, strings.Repeat("x", size), 0), api.ErrLong)
			refuses(t, s, d, mend(6, entry, strings.Repeat("x", size), 7), api.ErrLong)
		}
	}
	does(t, s, add(6, 0, "", 0), 0)
	if e := s.Add(6, api.Item{Entry: 1}, 0, false); e != api.OK {
		t.Errorf("P9.1: Add of nil: error %d", e)
	}
	if e := s.Add(6, api.Item{Entry: 1, Data: []byte{}}, 0, false); e != api.OK {
		t.Errorf("R5: Add of no bytes where nil is: error %d", e)
	}
	hold(t, "behind all", s, map[uint64]held{5: want, 6: has(0, "", "")})
}

// R2: all that may be wrong with an Add, in each of the states in which a ledger may be.
func TestAddAnswersTheFirstError(t *testing.T) {
	long := strings.Repeat("x", 257)
	for _, c := range []struct {
		what    string
		l       []call
		refused map[call]api.Errno
	}{
		{"nothing there", nil, nil},
		{"the entry there", []call{add(5, 1, "there", 2)}, map[call]api.Errno{
			add(5, 1, "other", 0): api.ErrOther, mend(5, 1, "other", 9): api.ErrOther,
		}},
		{"fenced", []call{add(5, 1, "there", 2), fence(5)}, map[call]api.Errno{
			add(5, 1, "other", 0): api.ErrFenced, add(5, 1, "there", 0): api.ErrFenced, add(5, 2, "new", 9): api.ErrFenced,
			mend(5, 1, "other", 0): api.ErrOther,
		}},
		{"gone", []call{add(5, 1, "there", 2), fence(5), drop(5)}, map[call]api.Errno{
			add(5, 1, "other", 0): api.ErrClosed, add(5, 1, "there", 0): api.ErrClosed, add(5, 2, "new", 9): api.ErrClosed,
			mend(5, 1, "other", 0): api.ErrClosed, mend(5, 1, "there", 0): api.ErrClosed, mend(5, 2, "new", 9): api.ErrClosed,
			fence(5): api.ErrClosed,
		}},
	} {
		s, d := began(t, c.l...)
		for again, code := range c.refused {
			refuses(t, s, d, again, code)
		}
		for _, entry := range []uint64{0, 1} {
			for _, sure := range []uint64{0, 9} {
				refuses(t, s, d, add(5, entry, long, sure), api.ErrLong)
				refuses(t, s, d, mend(5, entry, long, sure), api.ErrLong)
				for _, data := range []string{"there", "other", long} {
					refuses(t, s, d, add(0, entry, data, sure), api.ErrRange)
					refuses(t, s, d, mend(0, entry, data, sure), api.ErrRange)
				}
			}
		}
	}
}

func TestFence(t *testing.T) {
	s, d := began(t, add(5, 0, "a", 7), add(6, 0, "b", 9))
	does(t, s, fence(5), 7)
	want := map[uint64]held{5: has(7, "a").fence(), 6: has(9, "b")}
	hold(t, "behind Fence", s, want)
	for range 3 {
		changesNothing(t, s, d, fence(5), 7, api.OK)
	}
	for _, entry := range []uint64{0, 1, top} {
		refuses(t, s, d, add(5, entry, "a", 8), api.ErrFenced)
	}
	does(t, s, mend(5, 1, "m", 8), 0)
	want[5] = has(8, "a", "m").fence()
	hold(t, "behind Fence, and Add that mends", s, want)
	changesNothing(t, s, d, fence(5), 8, api.OK)
	refuses(t, s, d, add(5, 1, "m", 0), api.ErrFenced)
	does(t, s, add(6, 1, "c", 0), 0) // another one isn't fenced
	want[6] = has(9, "b", "c")
	hold(t, "behind Add to another one", s, want)
	refuses(t, s, d, fence(0), api.ErrRange)
}

func TestFenceOfNothing(t *testing.T) {
	s, d := began(t)
	for _, id := range []uint64{1, 5, top} {
		does(t, s, fence(id), 0)
		changesNothing(t, s, d, fence(id), 0, api.OK)
		refuses(t, s, d, add(id, 0, "a", 0), api.ErrFenced)
	}
	want := map[uint64]held{1: has(0).fence(), 5: has(0).fence(), top: has(0).fence()}
	hold(t, "behind Fence of ledgers without entries", s, want)
	does(t, s, mend(5, 3, "a", 2), 0)
	want[5] = held{fenced: true, sure: 2}.with(3, "a")
	hold(t, "behind Add that mends one without entries", s, want)
}

func TestDrop(t *testing.T) {
	s, d := began(t, add(5, 0, "a", 7), add(5, 1, "b", 0), add(6, 0, "c", 9), fence(6), add(7, 0, "d", 3))
	refuses(t, s, d, drop(0), api.ErrRange)
	does(t, s, drop(5), 0)
	want := map[uint64]held{5: {gone: true}, 6: has(9, "c").fence(), 7: has(3, "d")}
	hold(t, "behind Drop", s, want)
	does(t, s, drop(6), 0) // a fenced one isn't fenced any more
	want[6] = held{gone: true}
	hold(t, "behind Drop of a fenced one", s, want)
	does(t, s, drop(1), 0) // nothing was there
	want[1] = held{gone: true}
	does(t, s, drop(top), 0)
	want[top] = held{gone: true}
	hold(t, "behind Drop of ledgers without entries", s, want)
	for _, id := range []uint64{1, 5, 6, top} {
		changesNothing(t, s, d, drop(id), 0, api.OK)
		refuses(t, s, d, fence(id), api.ErrClosed)
		refuses(t, s, d, add(id, 0, "a", 0), api.ErrClosed)
		refuses(t, s, d, mend(id, 0, "a", 9), api.ErrClosed)
		refuses(t, s, d, mend(id, 9, "new", 0), api.ErrClosed)
	}
	does(t, s, add(7, 1, "e", 0), 0)
	want[7] = has(3, "d", "e")
	hold(t, "behind all", s, want)
	hold(t, "P9.4: opened behind all", node(t, d), want)
}

func TestListRises(t *testing.T) {
	random := rand.New(rand.NewSource(1))
	s, d := began(t)
	want := held{}
	for i := range 2000 {
		n := random.Uint64() >> random.Intn(64)
		if _, there := want.entries[n]; there {
			continue
		}
		data := strconv.Itoa(i)
		does(t, s, add(5, n, data, 0), 0)
		if want.entries == nil {
			want.entries = map[uint64]string{}
		}
		want.entries[n] = data
	}
	for range 5 { // a map is gone over in another order each time
		hold(t, "many entries", s, map[uint64]held{5: want})
	}
	hold(t, "P9.4: many entries, opened", node(t, d), map[uint64]held{5: want})
}

func TestNilShelf(t *testing.T) {
	var s *shelf.Shelf
	for _, id := range []uint64{0, 5, top} {
		for _, c := range []call{add(id, 0, "a", 0), mend(id, 1, strings.Repeat("x", 257), 2), fence(id), drop(id)} {
			if n, e := do(s, c); n != 0 || e != api.ErrNil {
				t.Errorf("R7: %s of a nil node: %d, error %d", c.said(), n, e)
			}
		}
	}
	hold(t, "R7: a nil node", s, nil)
}

func TestOpenOfNoDisk(t *testing.T) {
	if s, e := shelf.Open(nil); s != nil || e != api.ErrNil {
		t.Errorf("P9.3: Open of no disk: %v, error %d", s != nil, e)
	}
}

// P1: a zero node has nothing, not even a disk.
func TestZeroShelf(t *testing.T) {
	s := &shelf.Shelf{}
	for c, code := range map[call]api.Errno{
		add(0, 0, "a", 0): api.ErrRange, fence(0): api.ErrRange, drop(0): api.ErrRange,
		add(5, 0, strings.Repeat("x", 257), 0): api.ErrLong,
		add(5, 0, "a", 0):                      api.ErrNil, mend(5, 0, "a", 3): api.ErrNil, fence(5): api.ErrNil, drop(5): api.ErrNil,
	} {
		if n, e := do(s, c); n != 0 || e != code {
			t.Errorf("P1: %s of a zero node: %d, error %d; want error %d", c.said(), n, e, code)
		}
	}
	hold(t, "R4: a zero node", s, nil)
}

func TestZeroDisk(t *testing.T) {
	s := node(t, &disk.Disk{})
	for _, c := range []call{add(5, 0, "a", 0), fence(5), drop(5)} {
		if n, e := do(s, c); n != 0 || e != api.ErrFull {
			t.Errorf("P9.1: %s on a disk without room: %d, error %d", c.said(), n, e)
		}
	}
	hold(t, "R4: on a disk without room", s, nil)
}

func TestWhatIsHandedInIsLeftAlone(t *testing.T) {
	all := []byte("ahead, the bytes, and spare room")
	before, part := bytes.Clone(all), all[7:16]
	s, d := began(t)
	if s.Add(5, api.Item{Entry: 0, Data: part}, 0, false) != api.OK || s.Add(6, api.Item{Entry: 0, Data: part}, 0, true) != api.OK {
		t.Fatal("P9.1: Add")
	}
	if !bytes.Equal(all, before) {
		t.Errorf("R6: what was handed in, or room around it, was changed: %q", all)
	}
	b := string(d.Bytes())
	copy(part, "scribbled")
	hold(t, "R6: behind scribbles in what was handed in", s, map[uint64]held{5: has(0, "the bytes"), 6: has(0, "the bytes")})
	holdDisk(t, "R6: behind scribbles in what was handed in", d, b)
}

func TestAnswersAreNewMemory(t *testing.T) {
	s, d := began(t, add(5, 0, "abc", 0), add(5, 1, "def", 0))
	want := map[uint64]held{5: has(0, "abc", "def")}
	scribble := func(b []byte) {
		b = b[:cap(b)]
		for i := range b {
			b[i] = 'x'
		}
	}
	l := s.List(5)
	scribble(l[0].Data)
	if string(l[1].Data) != "def" {
		t.Errorf("R6: two entries of an answer share memory: %q", l[1].Data)
	}
	scribble(l[1].Data)
	l[0].Entry, l[1] = 77, api.Item{}
	hold(t, "R6: behind scribbles in List's answer", s, want)
	b, _ := s.Read(5, 0)
	scribble(b)
	hold(t, "R6: behind scribbles in Read's answer", s, want)
	hold(t, "R6: opened behind scribbles in answers", node(t, d), want)

	b, _ = s.Read(5, 0)
	l = s.List(5)
	does(t, s, drop(5), 0)
	if string(b) != "abc" || string(l[0].Data) != "abc" || string(l[1].Data) != "def" {
		t.Errorf("R6: answers go with their ledger: %q, %v", b, l)
	}
}

func TestNodesAreNotInOneAnothersWay(t *testing.T) {
	one, d := began(t)
	other, f := began(t)
	does(t, one, add(5, 0, "a", 3), 0)
	does(t, one, fence(6), 0)
	does(t, one, drop(7), 0)
	hold(t, "R8: the other node", other, nil)
	holdDisk(t, "R8: the other node", f, "")
	does(t, other, add(5, 0, "b", 0), 0)
	does(t, other, add(6, 0, "c", 0), 0)
	does(t, other, fence(7), 0)
	want := map[uint64]held{5: has(3, "a"), 6: has(0).fence(), 7: {gone: true}}
	hold(t, "R8: the one node", one, want)
	hold(t, "R8: the one node, opened again", node(t, d), want)
}

func TestACopyIsTheSameNode(t *testing.T) {
	one, d := began(t, add(5, 0, "a", 0))
	other := *one
	does(t, &other, add(5, 1, "b", 2), 0)
	does(t, one, fence(5), 2)
	does(t, &other, drop(6), 0)
	for what, s := range map[string]*shelf.Shelf{"a copy": &other, "what was copied": one, "opened again": node(t, d)} {
		hold(t, what, s, map[uint64]held{5: has(2, "a", "b").fence(), 6: {gone: true}})
	}
}
