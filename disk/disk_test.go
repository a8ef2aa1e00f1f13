package disk_test

import (
	"bytes"
	"math"
	"math/rand"
	"slices"
	"strconv"
	"testing"

	"mailcoach/api"
	"mailcoach/disk"
)

// fresh: a new disk with room for so many bytes.
func fresh(t *testing.T, room int) *disk.Disk {
	t.Helper()
	d, e := disk.New(room)
	if e != api.OK || d == nil {
		t.Fatalf("P4.1: New(%d): %v, %d", room, d, e)
	}
	return d
}

// laid: a disk with just the room for sure bytes and others behind them.
func laid(t *testing.T, sure, others string) *disk.Disk {
	t.Helper()
	d := fresh(t, len(sure)+len(others))
	holdErrno(t, "P4.1: Append", d.Append([]byte(sure)), api.OK)
	d.Sync()
	holdErrno(t, "P4.1: Append", d.Append([]byte(others)), api.OK)
	return d
}

// hold: what stands on a disk, and how many of it are sure.
func hold(t *testing.T, what string, d *disk.Disk, want string, sure int) {
	t.Helper()
	if got := d.Bytes(); string(got) != want {
		t.Errorf("%s: the bytes are %q, want %q", what, got, want)
	}
	if got := d.Sure(); got != sure {
		t.Errorf("%s: %d bytes are sure, want %d", what, got, sure)
	}
}

func holdErrno(t *testing.T, what string, got, want api.Errno) {
	t.Helper()
	if got != want {
		t.Errorf("%s: error %d, want %d", what, got, want)
	}
}

func TestExamples(t *testing.T) {
	d := laid(t, "ab", "cd")
	hold(t, "P4.1: ahead of the crash", d, "abcd", 2)
	d.Crash(1, -1)
	hold(t, "P4.2: Crash(1, -1)", d, "abc", 3)
	d = laid(t, "ab", "cd")
	d.Crash(1, 0)
	hold(t, "P4.2: Crash(1, 0)", d, "ab\x62", 3)
}

func TestNew(t *testing.T) {
	for _, room := range []int{0, 1, 4096, api.MaxDisk - 1, api.MaxDisk} {
		hold(t, "P4.1: a new disk", fresh(t, room), "", 0)
	}
	for _, room := range []int{-1, -api.MaxDisk, math.MinInt, api.MaxDisk + 1, 1 << 32, math.MaxInt} {
		if d, e := disk.New(room); e != api.ErrRange || d != nil {
			t.Errorf("P4.1, R3: New(%d): %v, %d", room, d, e)
		}
	}
}

func TestAppend(t *testing.T) {
	d := fresh(t, 5)
	holdErrno(t, "P4.1: Append of nil", d.Append(nil), api.OK)
	hold(t, "P4.1: behind Append of nil", d, "", 0)
	holdErrno(t, "P4.1: Append", d.Append([]byte("abc")), api.OK)
	hold(t, "P4.1: behind Append", d, "abc", 0)
	holdErrno(t, "P4.1: Append of one more than there is room for", d.Append([]byte("xyz")), api.ErrFull)
	hold(t, "R4: behind ErrFull", d, "abc", 0)
	holdErrno(t, "P4.1: Append of just what there is room for", d.Append([]byte{0, 255}), api.OK)
	hold(t, "P4.1: of a full disk", d, "abc\x00\xff", 0)
	holdErrno(t, "P4.1: Append to a full disk", d.Append([]byte("x")), api.ErrFull)
	holdErrno(t, "P4.1: Append of none to a full disk", d.Append(nil), api.OK)
	holdErrno(t, "P4.1: Append of none to a full disk", d.Append([]byte{}), api.OK)
	hold(t, "P4.1: of a full disk", d, "abc\x00\xff", 0)
}

func TestAppendWithoutRoom(t *testing.T) {
	d := fresh(t, 0)
	holdErrno(t, "P4.1: Append without room", d.Append([]byte("x")), api.ErrFull)
	holdErrno(t, "P4.1: Append of none without room", d.Append(nil), api.OK)
	hold(t, "P4.1: of a disk without room", d, "", 0)
	d.Sync()
	d.Crash(3, 3)
	holdErrno(t, "P4.1: Cut to none", d.Cut(0), api.OK)
	holdErrno(t, "P4.1: Cut to one", d.Cut(1), api.ErrRange)
	hold(t, "P4.1: of a disk without room", d, "", 0)
}

func TestTheGreatestRoom(t *testing.T) {
	all := make([]byte, api.MaxDisk)
	rand.New(rand.NewSource(1)).Read(all)
	d := fresh(t, api.MaxDisk)
	holdErrno(t, "P4.1: Append of more than the greatest room", d.Append(append(all, 1)), api.ErrFull)
	for i := range all { // byte by byte: each one in no time, however many there are
		if e := d.Append(all[i : i+1]); e != api.OK {
			t.Fatalf("P4.1: Append of the byte %d: error %d", i, e)
		}
	}
	holdErrno(t, "P4.1: Append to the greatest disk that is full", d.Append([]byte("x")), api.ErrFull)
	if !bytes.Equal(d.Bytes(), all) || d.Sure() != 0 {
		t.Error("P4.1: on the greatest disk there stand other bytes than were appended")
	}
	d.Sync()
	if d.Sure() != api.MaxDisk {
		t.Errorf("P4.1: of the greatest disk %d bytes are sure", d.Sure())
	}
	holdErrno(t, "P4.1: Cut of the greatest disk", d.Cut(api.MaxDisk-1), api.OK)
	holdErrno(t, "P4.1: Append of one more than fits", d.Append([]byte("xy")), api.ErrFull)
	holdErrno(t, "P4.1: Append of what fits", d.Append([]byte("x")), api.OK)
	d.Crash(1, 7)
	all[len(all)-1] = 'x' ^ 128
	if !bytes.Equal(d.Bytes(), all) || d.Sure() != api.MaxDisk {
		t.Error("P4.2: of the greatest disk there stays what shouldn't")
	}
}

func TestSync(t *testing.T) {
	d := laid(t, "ab", "cd")
	hold(t, "P4.1: of two that are sure, and two that aren't", d, "abcd", 2)
	d.Sync()
	hold(t, "P4.1: behind Sync", d, "abcd", 4)
	d.Sync()
	hold(t, "P4.1: behind Sync once more", d, "abcd", 4)
	d.Crash(0, 0)
	hold(t, "P4.2: Crash of what is sure", d, "abcd", 4)
}

func TestCut(t *testing.T) {
	const all = "abcde"
	for sure := range len(all) + 1 {
		for n := -3; n <= len(all)+3; n++ {
			d := laid(t, all[:sure], all[sure:])
			what := "P4.1: of " + strconv.Itoa(sure) + " sure ones, Cut(" + strconv.Itoa(n) + ")"
			if n < 0 || n > len(all) {
				holdErrno(t, what, d.Cut(n), api.ErrRange)
				hold(t, "R4, "+what, d, all, sure)
				continue
			}
			holdErrno(t, what, d.Cut(n), api.OK)
			hold(t, what, d, all[:n], min(sure, n))
			holdErrno(t, what+", Append of one more than fits", d.Append(make([]byte, len(all)-n+1)), api.ErrFull)
			holdErrno(t, what+", Append", d.Append([]byte("VWXYZ"[n:])), api.OK)
			hold(t, what+", Append", d, all[:n]+"VWXYZ"[n:], min(sure, n))
			d.Crash(0, 0)
			hold(t, "P4.2: "+what+", Append, Crash(0, 0)", d, all[:min(sure, n)], min(sure, n))
		}
		for _, n := range []int{math.MinInt, math.MaxInt} {
			d := laid(t, all[:sure], all[sure:])
			holdErrno(t, "P4.1: Cut to what can't be", d.Cut(n), api.ErrRange)
			hold(t, "R4: Cut to what can't be", d, all, sure)
		}
	}
}

func TestCrash(t *testing.T) {
	const all = "\x00az\xff\x80"
	keeps := []int{math.MinInt, -1 << 32, -2, -1, 0, 1, 2, 3, 4, 5, 6, 1 << 32, math.MaxInt - 1, math.MaxInt}
	bits := []int{math.MinInt, -1 << 32, -8, -1, 0, 1, 2, 3, 4, 5, 6, 7, 8, 9, 15, 63, 64, 256, 1 << 32, math.MaxInt}
	for sure := range len(all) + 1 {
		for _, keep := range keeps {
			for _, bit := range bits {
				d := laid(t, all[:sure], all[sure:])
				d.Crash(keep, bit)
				stays := sure
				for keep > stays-sure && stays < len(all) {
					stays++
				}
				want := []byte(all[:stays])
				if stays > sure && bit >= 0 && bit < 8 {
					want[stays-1] ^= []byte{1, 2, 4, 8, 16, 32, 64, 128}[bit]
				}
				what := "P4.2: of " + strconv.Itoa(sure) + " sure ones, Crash(" + strconv.Itoa(keep) + ", " + strconv.Itoa(bit) + ")"
				hold(t, what, d, string(want), stays)
				d.Crash(keep, bit)
				hold(t, what+" twice", d, string(want), stays)
				holdErrno(t, what+", Append of one more than fits", d.Append(make([]byte, len(all)-stays+1)), api.ErrFull)
				holdErrno(t, what+", Append of what fits", d.Append([]byte("VWXYZ"[stays:])), api.OK)
				hold(t, what+", Append", d, string(want)+"VWXYZ"[stays:], stays)
			}
		}
	}
}

func TestCrashOfNothing(t *testing.T) {
	d := fresh(t, 4)
	d.Crash(3, 0)
	hold(t, "P4.2: Crash of a new disk", d, "", 0)
	holdErrno(t, "P4.1: Append behind it", d.Append([]byte("abcd")), api.OK)
	d.Crash(-1, 0)
	hold(t, "P4.2: Crash that keeps nothing", d, "", 0)
	holdErrno(t, "P4.1: Append behind it", d.Append([]byte("efgh")), api.OK)
	hold(t, "P4.1: behind all", d, "efgh", 0)
}

// plain is a disk by the chapter's words: of each byte it is known whether it is sure.
type plain struct {
	room int
	l    []cell
}

type cell struct {
	b    byte
	sure bool
}

func (p *plain) append(b []byte) api.Errno {
	if len(p.l)+len(b) > p.room {
		return api.ErrFull
	}
	for _, c := range b {
		p.l = append(p.l, cell{c, false})
	}
	return api.OK
}

func (p *plain) sync() {
	for i := range p.l {
		p.l[i].sure = true
	}
}

func (p *plain) cut(n int) api.Errno {
	if n < 0 || n > len(p.l) {
		return api.ErrRange
	}
	p.l = p.l[:n]
	return api.OK
}

func (p *plain) crash(keep, bit int) {
	var l []cell
	others := 0
	for _, c := range p.l {
		if !c.sure {
			others++
		}
		if c.sure || others <= keep {
			l = append(l, c)
		}
	}
	if n := len(l); n > 0 && !l[n-1].sure && bit >= 0 && bit <= 7 {
		l[n-1].b ^= 1 << bit
	}
	p.l = l
	p.sync()
}

func (p *plain) has() (all string, sure int) {
	var b []byte
	for _, c := range p.l {
		b = append(b, c.b)
		if c.sure {
			sure++
		}
	}
	return string(b), sure
}

// step is one call, of a disk and of a plain one; both answer their error.
type step struct {
	name string
	of   func(d *disk.Disk) api.Errno
	by   func(p *plain) api.Errno
}

func appends(s string) step {
	return step{"Append of " + strconv.Quote(s), func(d *disk.Disk) api.Errno { return d.Append([]byte(s)) }, func(p *plain) api.Errno { return p.append([]byte(s)) }}
}

func cuts(n int) step {
	return step{"Cut(" + strconv.Itoa(n) + ")", func(d *disk.Disk) api.Errno { return d.Cut(n) }, func(p *plain) api.Errno { return p.cut(n) }}
}

func crashes(keep, bit int) step {
	of := func(d *disk.Disk) api.Errno {
		d.Crash(keep, bit)
		return api.OK
	}
	by := func(p *plain) api.Errno {
		p.crash(keep, bit)
		return api.OK
	}
	return step{"Crash(" + strconv.Itoa(keep) + ", " + strconv.Itoa(bit) + ")", of, by}
}

func syncs() step {
	of := func(d *disk.Disk) api.Errno {
		d.Sync()
		return api.OK
	}
	by := func(p *plain) api.Errno {
		p.sync()
		return api.OK
	}
	return step{"Sync", of, by}
}

// play: a script on a new disk, held against a plain one behind each step.
func play(t *testing.T, room int, script []step) {
	t.Helper()
	d, p := fresh(t, room), &plain{room: room}
	told := "New(" + strconv.Itoa(room) + ")"
	for _, s := range script {
		told += ", " + s.name
		if got, want := s.of(d), s.by(p); got != want {
			t.Fatalf("P4.1: %s: error %d, want %d", told, got, want)
		}
		all, sure := p.has()
		if got := string(d.Bytes()); got != all || d.Sure() != sure {
			t.Fatalf("P4.1, P4.2: %s: %q, %d sure; want %q, %d", told, got, d.Sure(), all, sure)
		}
	}
}

func TestAllShortScripts(t *testing.T) {
	steps := []step{appends("a"), appends("bcd"), syncs(), cuts(0), cuts(2), cuts(4), crashes(0, 3), crashes(1, -1), crashes(2, 7), crashes(9, 0)}
	const length = 5
	var script [length]step
	for n := range 100000 { // ten steps at five places
		for i := range script {
			script[i] = steps[n%len(steps)]
			n /= len(steps)
		}
		play(t, 6, script[:])
	}
}

func TestLongScripts(t *testing.T) {
	random := rand.New(rand.NewSource(1))
	for range 300 {
		room := random.Intn(300)
		var script []step
		for range 200 {
			n := random.Intn(room+20) - 10
			switch random.Intn(9) {
			case 0:
				script = append(script, syncs())
			case 1:
				script = append(script, cuts(n))
			case 2:
				script = append(script, crashes(random.Intn(40)-5, random.Intn(12)-2))
			default:
				b := make([]byte, random.Intn(60))
				random.Read(b)
				script = append(script, appends(string(b)))
			}
		}
		play(t, room, script)
	}
}

func TestWhatIsHandedInIsLeftAlone(t *testing.T) {
	whole := []byte("ahead, the bytes, and spare room")
	before := bytes.Clone(whole)
	part := whole[7:16]
	d := fresh(t, 18)
	holdErrno(t, "P4.1: Append", d.Append(part), api.OK)
	holdErrno(t, "P4.1: Append behind it", d.Append([]byte("more")), api.OK)
	d.Crash(9, 0) // s is 73 (base sixteen), and turned 72, r
	holdErrno(t, "P4.1: Append behind the crash", d.Append([]byte("x")), api.OK)
	holdErrno(t, "P4.1: Append that doesn't fit", d.Append(part), api.ErrFull)
	if !bytes.Equal(whole, before) {
		t.Errorf("R6: what was appended, or room around it, was changed: %q", whole)
	}
	copy(part, "scribbled")
	hold(t, "R6: behind scribbles in what was appended", d, "the byterx", 9)
}

func TestBytesIsNewMemory(t *testing.T) {
	for n := range 70 { // whatever room is left behind what stands there
		d := fresh(t, 100)
		for range n {
			d.Append([]byte("a"))
		}
		want := string(bytes.Repeat([]byte("a"), n))
		first, second := d.Bytes(), d.Bytes()
		d.Append([]byte("bc"))
		for _, answer := range [][]byte{first, d.Bytes()} {
			answer = answer[:cap(answer)]
			for i := range answer {
				answer[i] = 255
			}
		}
		hold(t, "R6: behind scribbles in answers", d, want+"bc", 0)
		d.Crash(n, 0)
		d.Append([]byte("xyz"))
		if string(second) != want {
			t.Errorf("R6: an answer goes with its disk: %q, want %q", second, want)
		}
	}
}

func TestBytesMayBeAppended(t *testing.T) {
	d := fresh(t, 8)
	d.Append([]byte("ab"))
	holdErrno(t, "P4.1: Append of the disk's own bytes", d.Append(d.Bytes()), api.OK)
	holdErrno(t, "P4.1: Append of the disk's own bytes", d.Append(d.Bytes()), api.OK)
	hold(t, "P4.1: the disk's own bytes behind them", d, "abababab", 0)
}

func TestDisksAreNotInOneAnothersWay(t *testing.T) {
	one, other := laid(t, "ab", "cd"), laid(t, "", "xyz")
	one.Crash(1, 0)
	hold(t, "R8: the other disk", other, "xyz", 0)
	other.Sync()
	other.Cut(1)
	hold(t, "R8: the one disk", one, "abb", 3)
	hold(t, "R8: the other disk", other, "x", 1)
}

func TestCopiesOfADiskGoTheirOwnWays(t *testing.T) {
	for n := 1; n < 70; n++ { // whatever room is left behind what stands there
		d := fresh(t, 100)
		for range n {
			d.Append([]byte("a"))
		}
		as := string(bytes.Repeat([]byte("a"), n))
		one, other, cut, late := *d, *d, *d, *d
		one.Append([]byte("1"))
		other.Append([]byte("23"))
		d.Append([]byte("4"))
		cut.Cut(n - 1)
		cut.Append([]byte("56"))
		late.Crash(n, 1)
		again := other
		again.Append([]byte("7"))
		other.Append([]byte("8"))
		hold(t, "R8: the disk", d, as+"4", 0)
		hold(t, "R8: a copy", &one, as+"1", 0)
		hold(t, "R8: another copy", &other, as+"238", 0)
		hold(t, "R8: a copy of a copy", &again, as+"237", 0)
		hold(t, "R8: a copy that was cut", &cut, as[1:]+"56", 0)
		hold(t, "R8: a copy that has crashed", &late, as[1:]+"c", n)
	}
}

func TestTheSameCallsAreAnsweredTheSame(t *testing.T) {
	random := rand.New(rand.NewSource(2))
	small, great := fresh(t, 300), fresh(t, api.MaxDisk)
	for range 500 { // a disk whose bytes once were more, and elsewhere, is as good as another one
		great.Append(make([]byte, random.Intn(1000)))
		great.Crash(random.Intn(1000), random.Intn(9)-1)
	}
	great.Cut(0)
	for range 40 {
		b, keep, bit := make([]byte, random.Intn(20)), random.Intn(30), random.Intn(9)-1
		random.Read(b)
		if small.Append(b) != api.OK {
			small.Cut(0)
			great.Cut(0)
			small.Append(b)
		}
		great.Append(b)
		if random.Intn(3) == 0 {
			small.Crash(keep, bit)
			great.Crash(keep, bit)
		}
		if !slices.Equal(small.Bytes(), great.Bytes()) || small.Sure() != great.Sure() {
			t.Fatalf("R8: %q, %d sure; and %q, %d", small.Bytes(), small.Sure(), great.Bytes(), great.Sure())
		}
	}
}

func TestNilDiskDoesNothing(t *testing.T) {
	var d *disk.Disk
	holdErrno(t, "R7: Append of a nil disk", d.Append([]byte("a")), api.ErrNil)
	holdErrno(t, "R7: Append of none of a nil disk", d.Append(nil), api.ErrNil)
	for _, n := range []int{-1, 0, 1} {
		holdErrno(t, "R7: Cut of a nil disk", d.Cut(n), api.ErrNil)
	}
	d.Sync()
	d.Crash(1, 1)
	d.Crash(-1, -1)
	if b := d.Bytes(); len(b) != 0 {
		t.Errorf("R7: Bytes of a nil disk: %q", b)
	}
	if n := d.Sure(); n != 0 {
		t.Errorf("R7: Sure of a nil disk: %d", n)
	}
}

func TestZeroDiskHasNoRoom(t *testing.T) {
	d := &disk.Disk{}
	hold(t, "P1: a zero disk", d, "", 0)
	holdErrno(t, "P1: Append to a zero disk", d.Append([]byte("a")), api.ErrFull)
	holdErrno(t, "P1: Append of none to a zero disk", d.Append(nil), api.OK)
	holdErrno(t, "P1: Cut of a zero disk", d.Cut(0), api.OK)
	holdErrno(t, "P1: Cut of a zero disk", d.Cut(1), api.ErrRange)
	d.Sync()
	d.Crash(1, 1)
	hold(t, "P1: a zero disk", d, "", 0)
}
