package shelf_test

import (
	"math/rand"
	"slices"
	"strconv"
	"strings"
	"testing"

	"mailcoach/api"
	"mailcoach/disk"
	"mailcoach/shelf"
)

// holdPlain: all that a node tells, and its disk, against a plain one.
func holdPlain(t *testing.T, what string, s *shelf.Shelf, d *disk.Disk, p *plain) {
	t.Helper()
	hold(t, what, s, p.ledgers)
	holdDisk(t, what, d, p.disk)
}

// step: a call to both, and its answers.
func step(t *testing.T, what string, s *shelf.Shelf, p *plain, c call) {
	t.Helper()
	n, e := do(s, c)
	wantN, wantE := p.do(c)
	if n != wantN || e != wantE {
		t.Fatalf("P9.1, P9.2: behind %s, %s: %d, error %d; want %d, error %d", what, c.said(), n, e, wantN, wantE)
	}
}

// names: of a script's last calls.
func names(script []call) string {
	var l []string
	for _, c := range script[max(0, len(script)-6):] {
		l = append(l, c.said())
	}
	return strings.Join(l, "; ")
}

// fallen: a node that is opened behind a crash of its disk, against the plain one that saw none.
func fallen(t *testing.T, what string, d *disk.Disk, keep, bit int, p *plain) *shelf.Shelf {
	t.Helper()
	d.Crash(keep, bit)
	s := node(t, d)
	holdPlain(t, "P9.4: opened behind Crash("+strconv.Itoa(keep)+", "+strconv.Itoa(bit)+") behind "+what, s, d, p)
	return s
}

func TestAllShortScripts(t *testing.T) {
	steps := []call{
		add(5, 0, "a", 0), add(5, 0, "a", 2), add(5, 0, "b", 1), add(5, 1, "", 1), mend(5, 0, "a", 1), mend(5, 1, "b", 3),
		fence(5), drop(5), add(6, 0, "c", 1), mend(6, 0, "c", 0), fence(6), drop(6),
	}
	const length = 4
	var script [length]call
	for n := range 12 * 12 * 12 * 12 { // twelve calls at four places
		for i := range script {
			script[i] = steps[n%len(steps)]
			n /= len(steps)
		}
		d, p := fresh(t, 500), newPlain(500)
		s := node(t, d)
		for i, c := range script {
			step(t, names(script[:i]), s, p, c)
		}
		holdPlain(t, names(script[:]), s, d, p)
		fallen(t, names(script[:]), d, n%50, n%9-1, p)
	}
}

func TestEachCrash(t *testing.T) {
	script, _ := all()
	for i := range len(script) + 1 {
		for _, keep := range []int{-1, 0, 1, 7, 30, 1 << 30} {
			for bit := -1; bit <= 8; bit++ {
				d, p := fresh(t, 2000), newPlain(2000)
				s := node(t, d)
				for _, c := range script[:i] {
					step(t, "the script", s, p, c)
				}
				s = fallen(t, names(script[:i]), d, keep, bit, p)
				for _, c := range script[i:] {
					step(t, "the crash", s, p, c)
				}
				holdPlain(t, "the crash, and the rest of the script", s, d, p)
			}
		}
	}
}

// A node that falls while it writes: its disk has a part of the record, not sure, of which a crash keeps some.
func TestEachCrashWithinARecord(t *testing.T) {
	script, records := all()
	p := newPlain(1 << 20)
	for i, record := range records {
		b := frames(record)
		for cut := range len(b) {
			for bit := -1; bit < 8; bit++ {
				d := laid(t, p.disk, b)
				d.Crash(cut, bit)
				s := node(t, d)
				holdPlain(t, "P9.4: opened behind a crash within "+script[i].said(), s, d, p)
			}
		}
		d := laid(t, p.disk, b)
		d.Crash(len(b), 3)
		holdPlain(t, "P9.4: opened behind a turned bit of "+script[i].said(), node(t, d), d, p)
		d = laid(t, p.disk, b)
		d.Crash(len(b), -1)
		p.do(script[i])
		holdPlain(t, "P9.4: opened behind all of "+script[i].said(), node(t, d), d, p)
	}
}

// pick: a call that random picks; more often than not one that is taken.
func pick(random *rand.Rand, p *plain) call {
	c := call{kind: "aaaaaaaammmmffd"[random.Intn(15)], ledger: uint64(random.Intn(7)), entry: uint64(random.Intn(6))}
	c.sure = uint64(random.Intn(8))
	c.data = strings.Repeat("x", random.Intn(3))
	if random.Intn(10) == 0 {
		c.data = string(make([]byte, random.Intn(300)))
	}
	if old, there := p.ledgers[c.ledger].entries[c.entry]; there && random.Intn(3) > 0 {
		c.data = old
	}
	if random.Intn(20) == 0 {
		c.ledger, c.entry, c.sure = random.Uint64(), random.Uint64()>>random.Intn(64), random.Uint64()>>random.Intn(64)
	}
	if c.kind == 'd' && random.Intn(3) > 0 {
		c.kind = 'a' // else all would be gone too soon
	}
	return c
}

func TestLongScripts(t *testing.T) {
	random := rand.New(rand.NewSource(1))
	for round := range 300 {
		room := random.Intn(6000)
		if round%2 == 0 {
			room = 1 << 20
		}
		d, p := fresh(t, room), newPlain(room)
		s := node(t, d)
		var script []call
		for range 150 {
			c := pick(random, p)
			step(t, names(script), s, p, c)
			script = append(script, c)
			holdPlain(t, names(script), s, d, p)
			if random.Intn(20) == 0 {
				s = fallen(t, names(script), d, random.Intn(60)-5, random.Intn(12)-2, p)
			}
		}
	}
}

func TestAFullDisk(t *testing.T) {
	script, records := all()
	for i, c := range script {
		size := len(frames(records[:i+1]...))
		for _, room := range []int{size - 1, size - 8, size - len(frames(records[i])), size} {
			d, p := fresh(t, room), newPlain(room)
			s := node(t, d)
			for _, ahead := range script[:i] {
				step(t, "the script", s, p, ahead)
			}
			if room < size {
				refuses(t, s, d, c, api.ErrFull)
				refuses(t, s, d, c, api.ErrFull)
			} else {
				step(t, "the script, that just fits", s, p, c)
			}
			holdPlain(t, "a full disk", s, d, p)
			holdPlain(t, "P9.4: opened on a full disk", node(t, d), d, p)
		}
	}
}

// What needs no record needs no room; and a call's own errors are ahead of the disk's.
func TestWhatNeedsNoRoom(t *testing.T) {
	l := []call{add(5, 0, "a", 3), add(6, 0, "b", 4), fence(6), drop(7)}
	records := []string{adding(5, 0, 3, "a"), adding(6, 0, 4, "b"), fencing(6), dropping(7)}
	d := fresh(t, len(frames(records...)))
	s := node(t, d)
	for _, c := range l {
		do(s, c)
	}
	changesNothing(t, s, d, add(5, 0, "a", 3), 0, api.OK)
	changesNothing(t, s, d, mend(6, 0, "b", 0), 0, api.OK)
	changesNothing(t, s, d, fence(6), 4, api.OK)
	changesNothing(t, s, d, drop(7), 0, api.OK)
	for c, code := range map[call]api.Errno{
		add(0, 1, "a", 0): api.ErrRange, fence(0): api.ErrRange, drop(0): api.ErrRange,
		add(5, 1, strings.Repeat("x", 257), 0): api.ErrLong,
		add(7, 0, "a", 0):                      api.ErrClosed, fence(7): api.ErrClosed,
		add(6, 1, "a", 0):  api.ErrFenced,
		add(5, 0, "b", 9):  api.ErrOther,
		add(5, 0, "a", 4):  api.ErrFull,
		add(5, 1, "b", 0):  api.ErrFull,
		mend(6, 0, "b", 5): api.ErrFull,
		fence(5):           api.ErrFull,
		fence(8):           api.ErrFull,
		drop(5):            api.ErrFull,
		drop(6):            api.ErrFull,
		drop(8):            api.ErrFull,
	} {
		refuses(t, s, d, c, code)
	}
}

func TestTheGreatestDisk(t *testing.T) {
	d := fresh(t, api.MaxDisk)
	s := node(t, d)
	const size = 8 + 29 + 256
	data := strings.Repeat("x", 256)
	count := uint64(0)
	for s.Add(1+count%9, item(count, data), count, false) == api.OK {
		count++
	}
	if want := uint64(api.MaxDisk / size); count != want {
		t.Errorf("P9.1: on the greatest disk there fit %d entries, want %d", count, want)
	}
	refuses(t, s, d, add(1, count, data, 0), api.ErrFull)
	again := node(t, d)
	for id := range uint64(9) {
		l := s.List(1 + id)
		if uint64(len(l)) != (count-id+8)/9 || !slices.EqualFunc(l, again.List(1+id), same) {
			t.Errorf("P9.4: on the greatest disk the ledger %d has %d entries, opened %d", 1+id, len(l), len(again.List(1+id)))
		}
	}
}

func TestTheSameCallsAreAnsweredTheSame(t *testing.T) {
	random := rand.New(rand.NewSource(2))
	d := fresh(t, 1<<20)
	one, p := node(t, d), newPlain(1<<20)
	for range 500 {
		c := pick(random, p)
		step(t, "others", one, p, c)
	}
	f := laid(t, "", p.disk)
	other := node(t, f) // one that was opened is as good as one that was there
	for range 500 {
		c := pick(random, p)
		n, e := do(one, c)
		m, g := do(other, c)
		p.do(c)
		if n != m || e != g {
			t.Fatalf("R8: %s: %d, error %d, and elsewhere %d, error %d", c.said(), n, e, m, g)
		}
	}
	hold(t, "R8: the one", one, p.ledgers)
	hold(t, "R8: the other", other, p.ledgers)
}
