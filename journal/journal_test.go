package journal_test

import (
	"bytes"
	"encoding/binary"
	"hash/crc32"
	"math/rand"
	"slices"
	"strconv"
	"strings"
	"testing"

	"mailcoach/api"
	"mailcoach/disk"
	"mailcoach/journal"
)

const head = 8 // bytes of a frame ahead of its body

// sumOf: the Sum of bytes, by the library.
func sumOf(b string) uint32 { return crc32.Checksum([]byte(b), crc32.MakeTable(crc32.Castagnoli)) }

// framed: a frame by the words of chapter 2, of any size and any sum.
func framed(size, sum uint32, body string) string {
	b := binary.BigEndian.AppendUint32(nil, size)
	return string(binary.BigEndian.AppendUint32(b, sum)) + body
}

// frames: those of bodies, one behind the other.
func frames(bodies ...string) string {
	all := ""
	for _, b := range bodies {
		all += framed(uint32(len(b)), sumOf(b), b)
	}
	return all
}

// fresh: a new disk with room for so many bytes.
func fresh(t *testing.T, room int) *disk.Disk {
	t.Helper()
	d, e := disk.New(room)
	if e != api.OK {
		t.Fatalf("disk.New(%d): error %d", room, e)
	}
	return d
}

// laid: a disk with sure bytes, others behind them, and room for some more.
func laid(t *testing.T, sure, others string, more int) *disk.Disk {
	t.Helper()
	d := fresh(t, len(sure)+len(others)+more)
	holdErrno(t, "disk.Append", d.Append([]byte(sure)), api.OK)
	d.Sync()
	holdErrno(t, "disk.Append", d.Append([]byte(others)), api.OK)
	return d
}

// open: the journal of a disk on which there are these records.
func open(t *testing.T, what string, d *disk.Disk, want ...string) *journal.Journal {
	t.Helper()
	j, l, e := journal.Open(d)
	if e != api.OK || j == nil {
		t.Fatalf("%s: Open answers %v and the error %d", what, j, e)
	}
	if got := texts(l); !slices.Equal(got, want) {
		t.Fatalf("%s: Open answers the records %.200q, want %.200q", what, got, want)
	}
	hold(t, what+": behind Open", d, frames(want...), len(frames(want...)))
	return j
}

// texts: records as texts.
func texts(l [][]byte) []string {
	var out []string
	for _, b := range l {
		out = append(out, string(b))
	}
	return out
}

// hold: what stands on a disk, and how many bytes of it are sure.
func hold(t *testing.T, what string, d *disk.Disk, want string, sure int) {
	t.Helper()
	if got := string(d.Bytes()); got != want {
		t.Errorf("%s: on the disk stand %.200q, want %.200q", what, got, want)
	}
	if got := d.Sure(); got != sure {
		t.Errorf("%s: %d bytes are sure, want %d", what, got, sure)
	}
}

func holdErrno(t *testing.T, what string, got, want api.Errno) {
	t.Helper()
	if got != want {
		t.Errorf("%s: error %d, want %d", what, got, want)
	}
}

func write(t *testing.T, j *journal.Journal, b string) {
	t.Helper()
	holdErrno(t, "P5.1: Write", j.Write([]byte(b)), api.OK)
}

func lay(t *testing.T, j *journal.Journal, b string) {
	t.Helper()
	holdErrno(t, "P5.1: Lay", j.Lay([]byte(b)), api.OK)
}

func TestExample(t *testing.T) {
	d := fresh(t, 100)
	j := open(t, "P5.1: a new disk", d)
	write(t, j, "a")
	lay(t, j, "b")
	d.Crash(3, -1)
	open(t, "P5.1: the chapter's example", d, "a")
}

func TestOpenOfNoDisk(t *testing.T) {
	j, l, e := journal.Open(nil)
	holdErrno(t, "P5.1: Open of no disk", e, api.ErrNil)
	if j != nil || len(l) != 0 {
		t.Errorf("R3: Open of no disk answers %v and %q beside an error", j, l)
	}
}

func TestOpenOfAnEmptyDisk(t *testing.T) {
	for _, room := range []int{0, 1, head, api.MaxDisk} {
		open(t, "P5.1: a new disk with room for "+strconv.Itoa(room), fresh(t, room))
	}
	j := open(t, "P5.1: a zero disk", &disk.Disk{})
	holdErrno(t, "P5.1: Write to a zero disk", j.Write(nil), api.ErrFull)
	holdErrno(t, "P5.1: Lay on a zero disk", j.Lay(nil), api.ErrFull)
}

func TestOpenTakesAllFrames(t *testing.T) {
	random := rand.New(rand.NewSource(1))
	long := make([]byte, api.MaxFrame)
	random.Read(long)
	whole := string(long)
	for _, l := range [][]string{
		nil, {""}, {"a"}, {"", "", ""}, {"a", "", "bc"}, {"a", "a", "a"}, {"\xff\x00", "Fähre"},
		{whole}, {whole[:4095], whole, "", whole}, {frames("a", "b"), frames(frames("")), "c"},
	} {
		all := frames(l...)
		for sure := range len(all) + 1 {
			if sure > 40 && sure < len(all)-40 {
				continue
			}
			d := laid(t, all[:sure], all[sure:], 0)
			what := "P5.1: " + strconv.Itoa(len(l)) + " frames, " + strconv.Itoa(sure) + " bytes sure"
			open(t, what, d, l...)
			d.Crash(0, 0)
			open(t, what+", opened, crashed", d, l...)
		}
	}
}

// noFrames are bytes that Unframe refuses, also with further ones behind them.
func noFrames() map[string]string {
	long := strings.Repeat("x", api.MaxFrame+1)
	return map[string]string{
		"eight bytes that are 255":              strings.Repeat("\xff", head),
		"the greatest count":                    framed(1<<32-1, 0, "abc"),
		"a count of 2 to the 31":                framed(1<<31, 0, "abc"),
		"more than 4096 bytes with their Sum":   framed(uint32(len(long)), sumOf(long), long),
		"4096 bytes with another Sum":           framed(api.MaxFrame, sumOf(long[1:])^1, long[1:]),
		"4096 bytes of which one isn't there":   framed(api.MaxFrame, sumOf(long[1:]), long[2:]),
		"three bytes of which one isn't there":  framed(3, sumOf("abc"), "ab"),
		"three bytes with another Sum":          framed(3, sumOf("abc")^1<<31, "abc"),
		"no bytes with another Sum":             framed(0, 1, ""),
		"a byte with the Sum of it and a":       framed(1, sumOf("aa"), "a"),
		"a count with the lowest byte first":    "\x01\x00\x00\x00" + frames("a")[4:],
		"a Sum with the lowest byte first":      "\x00\x00\x00\x09\x83\x92\x06\xe3123456789",
		"a frame whose first byte isn't there":  frames("abc")[1:],
		"a byte ahead of a frame":               "\x00" + frames("abc"),
		"a frame whose body's bit is turned":    frames("ab")[:head] + "aj",
		"a frame whose count's bit is turned":   "\x00\x00\x10\x02" + frames("ab")[4:],
		"a frame whose Sum's bit is turned":     framed(2, sumOf("ab")^1<<7, "ab"),
		"a frame of none in which all is wrong": framed(1<<24, 1<<24, ""),
	}
}

func TestOpenCutsWhatIsNoFrame(t *testing.T) {
	for _, records := range [][]string{nil, {""}, {"a", "bc", ""}, {strings.Repeat("y", api.MaxFrame)}} {
		whole := frames(records...)
		for name, wrong := range noFrames() {
			for _, behind := range []string{"", frames("d"), frames("d", "", "e")} {
				what := "P5.1: " + name + " behind " + strconv.Itoa(len(records)) + " frames, " + strconv.Itoa(len(behind)) + " bytes behind it"
				open(t, what, laid(t, whole, wrong+behind, 0), records...)
				open(t, what+", all sure", laid(t, whole+wrong+behind, "", 0), records...)
				open(t, what+", nothing sure", laid(t, "", whole+wrong+behind, 0), records...)
			}
		}
	}
}

func TestOpenCutsAPieceOfAFrame(t *testing.T) {
	for _, last := range []string{"", "c", "cde", strings.Repeat("z", api.MaxFrame)} {
		f := frames(last)
		for n := range len(f) {
			if n > 40 && n < len(f)-40 {
				continue
			}
			what := "P5.1: " + strconv.Itoa(n) + " of a frame's " + strconv.Itoa(len(f)) + " bytes"
			open(t, what, laid(t, f[:n], "", 0))
			open(t, what+" behind others", laid(t, frames("a", "b"), f[:n], 0), "a", "b")
		}
	}
}

func TestWhatIsCutOffGivesRoom(t *testing.T) {
	d := laid(t, frames("a"), "ruins of ten"+frames("b"), 0)
	j := open(t, "P5.1: of a full disk", d, "a")
	holdErrno(t, "P5.1: Write of one byte more than fits", j.Write(make([]byte, 14)), api.ErrFull)
	write(t, j, "it fits, just") // 13 bytes, and 8 ahead of them, are what was cut off
	open(t, "P5.1: behind what was cut off", d, "a", "it fits, just")
	open(t, "P5.1: opened once more", d, "a", "it fits, just")
}

func TestWhatIsCutOffDoesNotComeAgain(t *testing.T) {
	torn := frames(strings.Repeat("old", 20))
	d := laid(t, frames("a"), torn[:len(torn)-1]+frames("b", "c"), 100)
	j := open(t, "P5.1: behind a piece of a frame", d, "a")
	write(t, j, "new")
	open(t, "P5.1: a shorter frame in its place", d, "a", "new")
}

func TestWriteAndLay(t *testing.T) {
	d := fresh(t, 200)
	j := open(t, "P5.1: a new disk", d)
	write(t, j, "a")
	hold(t, "P5.1: Write", d, frames("a"), 9)
	lay(t, j, "bc")
	hold(t, "P5.1: Lay", d, frames("a", "bc"), 9)
	lay(t, j, "")
	hold(t, "P5.1: Lay of none", d, frames("a", "bc", ""), 9)
	write(t, j, "d")
	hold(t, "P5.1: Write behind what was laid", d, frames("a", "bc", "", "d"), 36)
	holdErrno(t, "P5.1: Write of nil", j.Write(nil), api.OK)
	hold(t, "P5.1: Write of nil", d, frames("a", "bc", "", "d", ""), 44)
	holdErrno(t, "P5.1: Lay of nil", j.Lay(nil), api.OK)
	hold(t, "P5.1: Lay of nil", d, frames("a", "bc", "", "d", "", ""), 44)
	lay(t, j, "\xff\x00")
	j = open(t, "P5.1: all that was written and laid", d, "a", "bc", "", "d", "", "", "\xff\x00")
	lay(t, j, "e")
	open(t, "P5.1: and what was laid behind that", d, "a", "bc", "", "d", "", "", "\xff\x00", "e")
}

func TestTheGreatestRecord(t *testing.T) {
	long := strings.Repeat("mailcoach!", 410)
	most, more := long[:api.MaxFrame], long[:api.MaxFrame+1]
	d := fresh(t, 20000)
	j := open(t, "P5.1: a new disk", d)
	lay(t, j, "ab")
	for _, b := range []string{more, long, strings.Repeat(long, 30)} {
		holdErrno(t, "P5.1: Write of too many bytes", j.Write([]byte(b)), api.ErrLong)
		holdErrno(t, "P5.1: Lay of too many bytes", j.Lay([]byte(b)), api.ErrLong)
	}
	hold(t, "R4: behind too many bytes", d, frames("ab"), 0)
	lay(t, j, most)
	hold(t, "P5.1: Lay of 4096 bytes", d, frames("ab", most), 0)
	write(t, j, most)
	hold(t, "P5.1: Write of 4096 bytes", d, frames("ab", most, most), 2*(head+api.MaxFrame)+10)
	open(t, "P5.1: records of 4096 bytes", d, "ab", most, most)
}

func TestWriteAndLayOnAFullDisk(t *testing.T) {
	calls := map[string]func(j *journal.Journal, b []byte) api.Errno{"Write": (*journal.Journal).Write, "Lay": (*journal.Journal).Lay}
	for name, call := range calls {
		for room := range 30 {
			d := fresh(t, 10+room)
			j := open(t, "P5.1: a new disk", d)
			lay(t, j, "ab")
			for size := range 40 {
				if head+size <= room {
					continue
				}
				holdErrno(t, "P5.1: "+name+" of more than there is room for", call(j, make([]byte, size)), api.ErrFull)
			}
			hold(t, "R4: behind a "+name+" of more than there is room for", d, frames("ab"), 0)
			holdErrno(t, "R2: "+name+" of too many bytes for a frame, and for the disk", call(j, make([]byte, api.MaxFrame+1)), api.ErrLong)
			if room >= head {
				holdErrno(t, "P5.1: "+name+" of just what there is room for", call(j, make([]byte, room-head)), api.OK)
				open(t, "P5.1: a full disk", d, "ab", string(make([]byte, room-head)))
			}
		}
	}
}

func TestNilJournal(t *testing.T) {
	var j *journal.Journal
	for _, b := range [][]byte{nil, {}, []byte("a"), make([]byte, api.MaxFrame+1)} {
		holdErrno(t, "R7: Write of a nil journal", j.Write(b), api.ErrNil)
		holdErrno(t, "R7: Lay of a nil journal", j.Lay(b), api.ErrNil)
	}
}

func TestZeroJournal(t *testing.T) {
	j := &journal.Journal{} // it has a nil disk
	for _, b := range [][]byte{nil, []byte("a")} {
		holdErrno(t, "R7: Write without a disk", j.Write(b), api.ErrNil)
		holdErrno(t, "R7: Lay without a disk", j.Lay(b), api.ErrNil)
	}
	holdErrno(t, "R2: Write of too many bytes without a disk", j.Write(make([]byte, api.MaxFrame+1)), api.ErrLong)
	holdErrno(t, "R2: Lay of too many bytes without a disk", j.Lay(make([]byte, api.MaxFrame+1)), api.ErrLong)
}

func TestWhatIsHandedInIsLeftAlone(t *testing.T) {
	whole := []byte("ahead, the bytes, and spare room")
	before := bytes.Clone(whole)
	part := whole[7:16]
	d := fresh(t, 200)
	j := open(t, "P5.1: a new disk", d)
	holdErrno(t, "P5.1: Write", j.Write(part), api.OK)
	holdErrno(t, "P5.1: Lay", j.Lay(part), api.OK)
	write(t, j, "more")
	if !bytes.Equal(whole, before) {
		t.Errorf("R6: what was written, or room around it, was changed: %q", whole)
	}
	copy(part, "scribbled")
	open(t, "R6: behind scribbles in what was written", d, "the bytes", "the bytes", "more")
}

func TestRecordsAreNewMemory(t *testing.T) {
	d := laid(t, frames("abc", "", "abc"), "", 100)
	j, first, _ := journal.Open(d)
	_, second, _ := journal.Open(d)
	for i := range first {
		_ = append(first[i], "scribbles"...)
		if others := append(texts(first[:i]), texts(first[i+1:])...); slices.Contains(others, "scr") {
			t.Error("R6: two records of an answer share memory")
		}
		copy(first[i], "xxx")
	}
	if got := texts(second); !slices.Equal(got, []string{"abc", "", "abc"}) {
		t.Errorf("R6: two answers share memory: %q", got)
	}
	hold(t, "R6: behind scribbles in records", d, frames("abc", "", "abc"), 30)
	write(t, j, "d")
	open(t, "R6: behind scribbles in records, and a Write", d, "abc", "", "abc", "d")
	if got := texts(second); !slices.Equal(got, []string{"abc", "", "abc"}) {
		t.Errorf("R6: an answer goes with its disk: %q", got)
	}
}

func TestJournalsAreNotInOneAnothersWay(t *testing.T) {
	d, f := fresh(t, 100), fresh(t, 100)
	one, other := open(t, "P5.1: the one disk", d), open(t, "P5.1: the other disk", f)
	write(t, one, "a")
	lay(t, other, "b")
	lay(t, one, "c")
	hold(t, "R8: the one disk", d, frames("a", "c"), 9)
	hold(t, "R8: the other disk", f, frames("b"), 0)
}

func TestJournalGoesOnWithItsDisk(t *testing.T) {
	d := fresh(t, 100)
	one := open(t, "P5.1: a new disk", d)
	other := open(t, "P5.1: opened once more", d)
	write(t, one, "a")
	write(t, other, "b")
	again := *one
	write(t, &again, "c")
	write(t, one, "d")
	open(t, "R8: several journals of one disk", d, "a", "b", "c", "d")
	holdErrno(t, "disk.Cut", d.Cut(18), api.OK)
	lay(t, one, "e")
	open(t, "P5.1: appended to what the disk has", d, "a", "b", "e")
}

func TestTheGreatestDisk(t *testing.T) {
	for _, size := range []int{0, api.MaxFrame} {
		d := fresh(t, api.MaxDisk)
		j := open(t, "P5.1: the greatest disk", d)
		n := 0
		for j.Lay(make([]byte, size)) == api.OK {
			n++
		}
		if want := api.MaxDisk / (head + size); n != want {
			t.Errorf("P5.1: on the greatest disk there fit %d records of %d bytes, want %d", n, size, want)
		}
		_, l, e := journal.Open(d) // it takes no time for what stands behind each one
		if e != api.OK || len(l) != n || slices.ContainsFunc(l, func(b []byte) bool { return len(b) != size }) {
			t.Errorf("P5.1: of the greatest disk, full of records of %d bytes, Open answers %d of %d, and %d", size, len(l), n, e)
		}
		if want := n * (head + size); d.Sure() != want {
			t.Errorf("P5.1: of the greatest disk %d bytes are sure, want %d", d.Sure(), want)
		}
	}
}
