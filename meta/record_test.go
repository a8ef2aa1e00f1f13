package meta_test

import (
	"slices"
	"strconv"
	"strings"
	"testing"

	"mailcoach/api"
	"mailcoach/disk"
	"mailcoach/meta"
)

// opened: the keeper of a disk on which these records stand.
func opened(t *testing.T, records ...string) (*meta.Keeper, *disk.Disk) {
	t.Helper()
	d := laid(t, frames(records...), 1<<20)
	k := keeper(t, d)
	holdDisk(t, "P8.2: behind Open", d, frames(records...))
	return k, d
}

// notOpened: a disk with these records is refused, and stays as it is: all sure, or just the first of them, with ruins behind them, too.
func notOpened(t *testing.T, what string, records ...string) {
	t.Helper()
	for _, ruins := range []string{"", "ruins", frames("behind")[:9]} {
		first := frames(records[:len(records)-1]...)
		b := frames(records...) + ruins
		d := laid(t, first, len(b)+100)
		d.Sync()
		d.Append([]byte(b[len(first):]))
		if k, e := meta.Open(d); k != nil || e != api.ErrState {
			t.Errorf("P8.2, R3: Open, %s: %v, error %d", what, k != nil, e)
		}
		if string(d.Bytes()) != b || d.Sure() != len(first) {
			t.Errorf("R4: behind Open, %s: %d bytes, %d of them sure; there were %d, %d", what, len(d.Bytes()), d.Sure(), len(b), len(first))
		}
	}
}

func TestRecordsByteByByte(t *testing.T) {
	k, d := began(t, open(258), put("ab", "c", 0, 1))
	want := "\x00\x00\x00\x21\x87\x8c\xca\x08\x03" + "\x00\x00\x00\x00" + "\x00\x00\x00\x00" +
		"\x00\x00\x00\x00\x00\x00\x00\x00" + "\x00\x00\x00\x00\x00\x00\x00\x00" + "\x00\x00\x00\x00\x00\x00\x01\x02"
	want += "\x00\x00\x00\x24\x94\x38\xcd\x7f\x01" + "\x00\x00\x00\x02ab" + "\x00\x00\x00\x01c" +
		"\x00\x00\x00\x00\x00\x00\x00\x00" + "\x00\x00\x00\x00\x00\x00\x00\x01" + "\x00\x00\x00\x00\x00\x00\x00\x00"
	holdDisk(t, "P8.1: two records, byte by byte", d, want)
	does(t, k, tick(3), 3)
	does(t, k, snap(), 0)
	want += frames("\x06" + "\x00\x00\x00\x00" + "\x00\x00\x00\x00" +
		"\x00\x00\x00\x00\x00\x00\x00\x00" + "\x00\x00\x00\x00\x00\x00\x00\x00" + "\x00\x00\x00\x00\x00\x00\x00\x03")
	want += frames("\x07" + "\x00\x00\x00\x00\x00\x00\x00\x03" + "\x00\x00\x00\x00\x00\x00\x00\x01" +
		"\x00\x01" + "\x00\x00\x00\x00\x00\x00\x00\x01" + "\x00\x00\x00\x00\x00\x00\x01\x02" + "\x00\x00\x00\x00\x00\x00\x01\x02" +
		"\x00\x01" + "\x00\x00\x00\x02ab" + "\x00\x00\x00\x01c" + "\x00\x00\x00\x00\x00\x00\x00\x01" + "\x00\x00\x00\x00\x00\x00\x00\x01")
	holdDisk(t, "P8.1: four records, byte by byte", d, want)
}

// all: a command of each kind but KSnap, that asks for no more than its kind does, and its record.
func all() ([]api.Cmd, []string) {
	l := []api.Cmd{open(9), open(7), put("b", "x", 0, 1), put("b", "y", 1, 2), remove("b", 2), renew(2), tick(8), end(1)}
	r := []string{
		command(3, "", "", 0, 0, 9), command(3, "", "", 0, 0, 7), command(1, "b", "x", 0, 1, 0), command(1, "b", "y", 1, 2, 0),
		command(2, "b", "", 2, 0, 0), command(4, "", "", 0, 2, 0), command(6, "", "", 0, 0, 8), command(5, "", "", 0, 1, 0),
	}
	return l, r
}

func TestRecords(t *testing.T) {
	l, records := all()
	for i := range l {
		_, d := began(t, l[:i+1]...)
		holdDisk(t, "P8.1: the records", d, frames(records[:i+1]...))
		opened(t, records[:i+1]...)
	}
}

// What a kind doesn't ask for stands in its record, too.
func TestRecordsOfWhatIsNotAskedFor(t *testing.T) {
	l, records := all()
	for i := range l {
		k, d := began(t, l[:i]...)
		c := l[i]
		switch c.Kind {
		case api.KPut:
			c.Ticks = 1<<63 + 5
		case api.KDelete:
			c.Value, c.Session, c.Ticks = []byte("no use"), 99, 98
		case api.KOpen, api.KTick:
			c.Key, c.Value, c.Want, c.Session = "\xff\x00", []byte("no use"), 97, 96
		default:
			c.Key, c.Value, c.Want, c.Ticks = strings.Repeat("k", 99), []byte("no use"), 95, top
		}
		k.Do(c)
		all := slices.Concat(records[:i], []string{command(c.Kind, c.Key, string(c.Value), c.Want, c.Session, c.Ticks)})
		holdDisk(t, "P8.1: the record of "+said(c), d, frames(all...))
		again, _ := opened(t, all...)
		plain, _ := opened(t, records[:i+1]...)
		hold(t, "behind "+said(c), k, plain.Now(), live(plain), plain.List("")...)
		hold(t, "P8.2: opened behind "+said(c), again, plain.Now(), live(plain), plain.List("")...)
	}
}

// A record has at most 4096 bytes: 33 of them are a command's own.
func TestTooLongRecords(t *testing.T) {
	l, records := all()
	for i := range l {
		for _, over := range []int{0, 1, 2, 5000} {
			k, d := began(t, l[:i]...)
			c := l[i]
			if c.Kind == api.KPut {
				continue // it hasn't more than 64 and 3840 bytes
			}
			c.Value = make([]byte, 4096-33-len(c.Key)+over)
			if over > 0 {
				refuses(t, k, d, c, api.ErrLong)
				k.Do(l[i])
				holdDisk(t, "behind ErrLong", d, frames(records[:i+1]...))
			} else if _, _, e := k.Do(c); e != api.OK {
				t.Errorf("P8.1: %s, of 4096 bytes: error %d", said(c), e)
			}
		}
	}
	k, d := began(t, open(5))
	for _, c := range []api.Cmd{{Kind: 9}, open(0), renew(0), renew(2), end(2), remove("a", 0), put("a", "", 1, 0), put("a", "", 0, 2)} {
		_, _, e := k.Do(c)
		if c.Kind != api.KPut {
			c.Key = strings.Repeat("k", 5000)
		}
		refuses(t, k, d, c, e) // R2: the command's error is ahead of the journal's
	}
}

func TestSnap(t *testing.T) {
	k, d := began(t)
	does(t, k, snap(), 0)
	want := frames(snapshot(0, 0, nil, nil))
	holdDisk(t, "P8.1: KSnap of nothing", d, want)
	for _, c := range []api.Cmd{open(9), open(4), open(7), put("b", "x", 0, 1), put("a", "\xff\x00", 0, 3), put("c", "", 0, 0), tick(3), renew(2), end(1)} {
		k.Do(c)
	}
	b := string(d.Bytes())
	silly := snap()
	silly.Key, silly.Value, silly.Want, silly.Session, silly.Ticks = "a", make([]byte, 5000), 1, 99, 5
	nodes := []api.Node{node("a", "\xff\x00", 1, 3), node("c", "", 1, 0)}
	for _, c := range []api.Cmd{snap(), silly} {
		does(t, k, c, 0)
		b += frames(snapshot(3, 3, []api.Session{session(2, 7, 4), session(3, 7, 7)}, nodes))
		holdDisk(t, "P8.1: KSnap", d, b)
		hold(t, "behind KSnap", k, 3, []uint64{2, 3}, nodes...)
		hold(t, "P8.2: opened behind KSnap", keeper(t, d), 3, []uint64{2, 3}, nodes...)
	}
}

func TestSnapOfTooMuch(t *testing.T) {
	// A KSnap's own bytes are 21, a session's 24, and a node's 24 beside its key and its value.
	for _, sessions := range []int{0, 1, 16} {
		k, d := began(t)
		for range sessions {
			k.Do(open(5))
		}
		rest := 4096 - 21 - 24*sessions - 2*(24+1)
		does(t, k, put("a", strings.Repeat("v", 1000), 0, 0), 1)
		does(t, k, put("b", strings.Repeat("v", rest-1000), 0, 0), 1)
		b := string(d.Bytes())
		does(t, k, snap(), 0)
		if n := len(d.Bytes()) - len(b); n != 8+4096 {
			t.Errorf("P8.1: a KSnap of %d sessions has %d bytes, want 4104", sessions, n)
		}
		keeper(t, d)
		does(t, k, put("a", strings.Repeat("v", 1001), 1, 0), 2)
		refuses(t, k, d, snap(), api.ErrLong)
		does(t, k, put("a", "", 2, 0), 3)
		does(t, k, snap(), 0)
		keeper(t, d)
	}
	k, d := began(t)
	for i := range 256 {
		k.Do(put(strings.Repeat("k", 60)+strconv.Itoa(1000+i), strings.Repeat("v", 3000), 0, 0))
	}
	refuses(t, k, d, snap(), api.ErrLong)
}

func TestOpenOfNoDisk(t *testing.T) {
	if k, e := meta.Open(nil); k != nil || e != api.ErrNil {
		t.Errorf("P8.2, R3: Open of no disk: %v, error %d", k != nil, e)
	}
	d := &disk.Disk{}
	k := keeper(t, d)
	refuses(t, k, d, open(5), api.ErrFull)
	refuses(t, k, d, open(0), api.ErrTime)
}

func TestOpenCutsRuins(t *testing.T) {
	_, records := all()
	b := frames(records...)
	ends := []int{0}
	for i := range records {
		ends = append(ends, len(frames(records[:i+1]...)))
	}
	for n := range len(b) + 1 {
		whole := 0
		for whole+1 < len(ends) && ends[whole+1] <= n {
			whole++
		}
		want, _ := opened(t, records[:whole]...)
		for _, ruins := range []string{"", "\x00", "\xff\xff\xff\xff\xff\xff\xff\xff\xff"} {
			if n > ends[whole] && ruins != "" {
				continue // it is in ruins already
			}
			d := laid(t, b[:n]+ruins, 100)
			k := keeper(t, d)
			holdDisk(t, "P8.2: behind Open", d, b[:ends[whole]])
			hold(t, "P8.2: behind Open", k, want.Now(), live(want), want.List("")...)
			does(t, k, tick(0), want.Now())
			holdDisk(t, "P8.1: behind Open, and a command", d, b[:ends[whole]]+frames(command(6, "", "", 0, 0, 0)))
		}
	}
}

func TestOpenOfRecordsThatAreNotRight(t *testing.T) {
	_, records := all()
	full := snapshot(3, 9, []api.Session{session(2, 7, 4), session(3, 7, 7)}, []api.Node{node("a", "bc", 1, 3), node("c", "", 7, 0)})
	opened(t, full)
	opened(t, slices.Concat(records, []string{full})...)
	for i, whole := range append(slices.Clone(records), full) {
		ahead := records[:i]
		for n := range len(whole) {
			notOpened(t, "a record cut at "+strconv.Itoa(n), slices.Concat(ahead, []string{whole[:n]})...)
		}
		notOpened(t, "a record with a byte more", slices.Concat(ahead, []string{whole + "\x00"})...)
		notOpened(t, "a record with another one", slices.Concat(ahead, []string{whole + whole})...)
		for kind := range 256 {
			if kind < 1 || kind > 7 {
				notOpened(t, "the kind "+strconv.Itoa(kind), slices.Concat(ahead, []string{string([]byte{byte(kind)}) + whole[1:]})...)
			}
		}
	}
	notOpened(t, "counts of more than there is", "\x01\xff\xff\xff\xff")
	notOpened(t, "counts of more than there is", "\x07"+u64(0, 0)+u16(65535))
	notOpened(t, "counts of more than there is", "\x07"+u64(0, 0)+u16(0)+u16(65535))
	notOpened(t, "counts of more than there is", "\x07"+u64(0, 5)+u16(0)+u16(1)+"\x00\x00\x00\x01a"+"\x00\x00\x10\x00")
	notOpened(t, "eight bytes 0, a frame of no bytes", "")
	notOpened(t, "one that isn't right, and right ones behind it", "", records[0])
	notOpened(t, "one that isn't right, and a KSnap behind it", command(1, "", "", 0, 0, 0), full)
}

func TestOpenOfCommandsThatAreRefused(t *testing.T) {
	ahead := []string{command(3, "", "", 0, 0, 5), command(1, "a", "x", 0, 1, 0), command(3, "", "", 0, 0, 2), command(6, "", "", 0, 0, 2)}
	opened(t, ahead...)
	for what, record := range map[string]string{
		"KPut of a session that is gone":      command(1, "b", "x", 0, 2, 0),
		"KPut of a session that never was":    command(1, "b", "x", 0, 3, 0),
		"KPut of no key":                      command(1, "", "x", 0, 1, 0),
		"KPut of a long key":                  command(1, strings.Repeat("k", 65), "x", 0, 1, 0),
		"KPut of a long value":                command(1, "b", strings.Repeat("v", 3841), 0, 1, 0),
		"KPut of a key that is there":         command(1, "a", "x", 0, 1, 0),
		"KPut of a key that isn't there":      command(1, "b", "x", 1, 1, 0),
		"KPut of another version":             command(1, "a", "x", 2, 1, 0),
		"KDelete of a key that isn't there":   command(2, "b", "", 1, 0, 0),
		"KDelete of another version":          command(2, "a", "", 0, 0, 0),
		"KOpen of no life":                    command(3, "", "", 0, 0, 0),
		"KOpen of a long life":                command(3, "", "", 0, 0, 1<<40+1),
		"KRenew of no session":                command(4, "", "", 0, 0, 0),
		"KRenew of a session that is gone":    command(4, "", "", 0, 2, 0),
		"KClose of no session":                command(5, "", "", 0, 0, 0),
		"KClose of a session that is gone":    command(5, "", "", 0, 2, 0),
		"KClose of a session that never was":  command(5, "", "", 0, 1<<32+1, 0),
		"a kind that is none, else all right": command(8, "a", "x", 0, 1, 0),
	} {
		notOpened(t, what, slices.Concat(ahead, []string{record})...)
		notOpened(t, what+", and others behind it", slices.Concat(ahead, []string{record}, ahead[:1])...)
		opened(t, slices.Concat(ahead, []string{command(6, "", "", 0, 0, 1)})...)
	}
	var many []string
	for range 16 {
		many = append(many, command(3, "", "", 0, 0, 5))
	}
	opened(t, many...)
	notOpened(t, "KOpen of too many sessions", append(many, many[0])...)
	many = nil
	for i := range 256 {
		many = append(many, command(1, strconv.Itoa(i), "", 0, 0, 0))
	}
	opened(t, many...)
	notOpened(t, "KPut of too many keys", append(many, command(1, "x", "", 0, 0, 0))...)
}

func TestOpenOfSnaps(t *testing.T) {
	_, records := all()
	for _, ahead := range [][]string{nil, records, {snapshot(1<<40, top, []api.Session{session(5, 6, 7)}, []api.Node{node("z", "z", top, top)})}} {
		sessions := []api.Session{session(2, 0, 1), session(9, top, 1<<40), session(30, 101, 3)}
		nodes := []api.Node{node("\x00", "", top, 0), node("a", strings.Repeat("v", 3000), 1, 7), node(strings.Repeat("k", 64), "x", 5, 9)}
		k, d := opened(t, slices.Concat(ahead, []string{snapshot(100, 35, sessions, nodes)})...)
		hold(t, "P8.2: a KSnap's record makes the state what it says", k, 100, []uint64{9, 30}, nodes...)
		refuses(t, k, d, put("b", "", 0, 2), api.ErrExpired)
		refuses(t, k, d, renew(2), api.ErrExpired)
		does(t, k, open(1), 36)
		does(t, k, tick(0), 100, 2)
		does(t, k, tick(1), 101, 30, 36)
		does(t, k, end(9), 0)
		hold(t, "P8.2: behind a KSnap's record, and commands", k, 101, nil, nodes[:2]...)
		again := keeper(t, d)
		hold(t, "P8.4: opened again", again, 101, nil, nodes[:2]...)
		does(t, again, open(1), 37)

		k, _ = opened(t, slices.Concat(ahead, []string{snapshot(100, 35, sessions, nodes), snapshot(0, 0, nil, nil)})...)
		hold(t, "P8.2: a KSnap of nothing behind others", k, 0, nil)
		does(t, k, open(1), 1)
	}
	k, _ := opened(t, snapshot(7, 5, []api.Session{session(2, 3, 1)}, []api.Node{node("a", "", 1, 2)}))
	does(t, k, end(2), 0) // it is over, but it is there
	hold(t, "behind KClose of one that is over", k, 7, nil)
}

func TestOpenOfTheGreatestSnap(t *testing.T) {
	var sessions []api.Session
	for i := range uint64(16) {
		sessions = append(sessions, session(2*i+3, 1<<40+i, 1<<40-i))
	}
	many := make([]api.Node, 131) // of so many there is room in a record
	for i := range many {
		many[i] = node(strconv.Itoa(1000+i), "", 1, 0)
	}
	k, d := opened(t, snapshot(1<<40, top, sessions, many))
	if l := k.List(""); len(l) != 131 || k.Now() != 1<<40 || !k.Live(33) || k.Live(3) {
		t.Errorf("P8.2: behind a great KSnap: %d nodes, Now %d", len(l), k.Now())
	}
	refuses(t, k, d, open(5), api.ErrMany)
	does(t, k, end(5), 0)
	refuses(t, k, d, open(5), api.ErrMany) // there is no number left
}

func TestOpenOfSnapsThatAreNotRight(t *testing.T) {
	one, a := session(5, 9, 3), node("a", "x", 1, 5)
	opened(t, snapshot(1<<40, 5, []api.Session{one}, []api.Node{a}))
	for _, now := range []uint64{1<<40 + 1, 1 << 41, 1 << 63, top} {
		notOpened(t, "a time behind the end of time", snapshot(now, 5, []api.Session{one}, []api.Node{a}))
	}
	var many []api.Session
	for i := range uint64(17) {
		many = append(many, session(i+1, 9, 3))
	}
	opened(t, snapshot(0, 40, many[:16], nil))
	for what, l := range map[string][]api.Session{
		"the number 0":         {session(0, 9, 3)},
		"a number too great":   {session(41, 9, 3)},
		"no life":              {one, session(6, 9, 0)},
		"a life too long":      {session(1, 9, 1<<40+1), one},
		"a number twice":       {one, one},
		"numbers that fall":    {session(6, 9, 3), one},
		"too many sessions":    many,
		"a number far too far": {one, session(top, 9, 3)},
	} {
		notOpened(t, "a KSnap of "+what, snapshot(0, 40, l, nil))
		notOpened(t, "a KSnap of "+what+", and a right one", snapshot(0, 40, l, nil), snapshot(0, 40, nil, nil))
	}
	for what, l := range map[string][]api.Node{
		"no key":         {node("", "", 1, 0)},
		"a long key":     {node(strings.Repeat("k", 65), "", 1, 0)},
		"a long value":   {node("a", strings.Repeat("v", 3841), 1, 0)},
		"the version 0":  {a, node("b", "", 0, 0)},
		"a key twice":    {a, a},
		"keys that fall": {node("b", "", 1, 0), a},
		"a key ahead":    {node("b\x00", "", 1, 0), node("b", "", 1, 0)},
		"keys by signs":  {node("\xff", "", 1, 0), a},
	} {
		notOpened(t, "a KSnap of "+what, snapshot(0, 40, []api.Session{one}, l))
		notOpened(t, "a KSnap of "+what+", and a right one", snapshot(0, 40, nil, l), snapshot(0, 40, nil, nil))
	}
}

// A version of 2^64 - 1 comes by a KSnap's record alone; one more is 0, as P6.1 says most plainly.
func TestVersionsThatGoRound(t *testing.T) {
	k, d := opened(t, snapshot(0, 1, []api.Session{session(1, 9, 3)}, []api.Node{node("a", "x", top, 1), node("b", "y", top-1, 0), node("c", "", top, 1)}))
	does(t, k, put("b", "z", top-1, 0), top)
	does(t, k, put("a", "round", top, 0), 0)
	want := []api.Node{node("a", "round", 0, 1), node("b", "z", top, 0), node("c", "", top, 1)}
	for range 2 {
		hold(t, "a version that has gone round", k, 0, []uint64{1}, want...)
		refuses(t, k, d, put("a", "x", 0, 0), api.ErrExists)
		refuses(t, k, d, put("a", "x", top, 0), api.ErrVersion)
		refuses(t, k, d, remove("a", top), api.ErrVersion)
		does(t, k, tick(0), 0)
		hold(t, "P8.4: opened behind a version that has gone round", keeper(t, d), 0, []uint64{1}, want...)
	}
	does(t, k, remove("a", 0), 0)
	does(t, k, put("c", "", top, 1), 0)
	does(t, k, end(1), 0)
	hold(t, "behind all", k, 0, nil, want[1])
	hold(t, "P8.4: opened behind all", keeper(t, d), 0, nil, want[1])
}
