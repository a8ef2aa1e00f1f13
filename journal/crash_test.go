package journal_test

import (
	"encoding/binary"
	"math"
	"math/rand"
	"strconv"
	"testing"

	"mailcoach/api"
	"mailcoach/disk"
	"mailcoach/journal"
)

// stays: how many of the bodies that were laid are records behind Crash(keep, bit), by the words of P4.2 and P5.1.
func stays(laid []string, keep, bit int) int {
	n, ends := 0, 0
	for _, b := range laid {
		ends += head + len(b)
		if ends > keep {
			return n
		}
		if last := ends == keep || n == len(laid)-1; last && bit >= 0 && bit <= 7 {
			return n // its last byte is the one that is turned
		}
		n++
	}
	return n
}

func TestEachCrash(t *testing.T) {
	for _, written := range [][]string{nil, {"a"}, {"", "bc"}} {
		for _, behind := range [][]string{nil, {""}, {"d"}, {"", ""}, {"de", "", "f"}, {frames("g"), frames("", "h")}} {
			size := len(frames(behind...))
			for keep := -2; keep <= size+2; keep++ {
				for bit := -1; bit <= 8; bit++ {
					what := "P5.2: " + strconv.Itoa(len(written)) + " written, " + strconv.Itoa(len(behind)) + " laid, Crash(" + strconv.Itoa(keep) + ", " + strconv.Itoa(bit) + ")"
					holdCrash(t, what, written, behind, keep, bit)
				}
			}
			for _, keep := range []int{math.MinInt, math.MaxInt} {
				holdCrash(t, "P5.2: Crash that keeps none, or all", written, behind, keep, 3)
				holdCrash(t, "P5.2: Crash that keeps none, or all", written, behind, keep, math.MinInt)
			}
		}
	}
}

// holdCrash: a journal that some records are written and others laid to, and its disk crashes; and once more, behind Open and a Write.
func holdCrash(t *testing.T, what string, written, laid []string, keep, bit int) {
	t.Helper()
	d := fresh(t, 200)
	j := open(t, what, d)
	for _, b := range written {
		write(t, j, b)
	}
	for _, b := range laid {
		lay(t, j, b)
	}
	d.Crash(keep, bit)
	want := append(append([]string{}, written...), laid[:stays(laid, keep, bit)]...)
	j = open(t, what, d, want...)
	d.Crash(0, 0)
	write(t, j, "x")
	d.Crash(keep, bit)
	open(t, what+", opened, one more written, crashed again", d, append(want, "x")...)
}

// book is a journal by the document's words: records that are sure, and others behind them.
type book struct{ sure, laid []string }

func (b *book) all() []string { return append(append([]string{}, b.sure...), b.laid...) }

func (b *book) settle() { b.sure, b.laid = b.all(), nil }

// play: so many steps of a script that random picks, on a disk with so much room.
func play(t *testing.T, random *rand.Rand, room, steps int) {
	t.Helper()
	d, told := fresh(t, room), &book{}
	j := open(t, "P5.1: a new disk", d)
	for range steps {
		b := make([]byte, random.Intn(60))
		random.Read(b)
		full := len(frames(told.all()...))+head+len(b) > room
		switch random.Intn(8) {
		case 0:
			keep, bit := random.Intn(200)-10, random.Intn(16)-4
			d.Crash(keep, bit)
			told.laid = told.laid[:stays(told.laid, keep, bit)]
			j = reopened(t, d, told)
		case 1:
			j = reopened(t, d, told)
		case 2, 3:
			if took(t, "Write", j.Write(b), full) {
				told.laid = append(told.laid, string(b))
				told.settle()
			}
		default:
			if took(t, "Lay", j.Lay(b), full) {
				told.laid = append(told.laid, string(b))
			}
		}
		hold(t, "P5.1: within a script", d, frames(told.all()...), len(frames(told.sure...)))
	}
}

// reopened: the journal of a disk, of whose records all are sure then.
func reopened(t *testing.T, d *disk.Disk, told *book) *journal.Journal {
	t.Helper()
	told.settle()
	return open(t, "P5.2: within a script", d, told.sure...)
}

// took: whether a record was taken, as it must be unless the disk is full.
func took(t *testing.T, what string, e api.Errno, full bool) bool {
	t.Helper()
	want := api.OK
	if full {
		want = api.ErrFull
	}
	holdErrno(t, "P5.1: "+what+" within a script", e, want)
	return e == api.OK
}

func TestScripts(t *testing.T) {
	random := rand.New(rand.NewSource(1))
	for range 200 {
		play(t, random, random.Intn(3000), 60)
	}
}

// bodies: those of the frames with which bytes begin, by the words of P2.3 and P5.1.
func bodies(b string) []string {
	var l []string
	for len(b) >= head {
		size, sum := binary.BigEndian.Uint32([]byte(b)), binary.BigEndian.Uint32([]byte(b[4:]))
		if size > api.MaxFrame || int(size) > len(b)-head || sumOf(b[head:head+size]) != sum {
			break
		}
		l = append(l, b[head:head+size])
		b = b[head+size:]
	}
	return l
}

func TestOpenOfAnyBytes(t *testing.T) {
	random := rand.New(rand.NewSource(2))
	for range 5000 {
		b := []byte(nil)
		for range random.Intn(6) {
			part := make([]byte, random.Intn(20)) // zeros at first: of eight of them there is a frame
			if random.Intn(2) == 0 {
				random.Read(part)
			}
			if random.Intn(3) > 0 {
				part = []byte(frames(string(part)))
			}
			b = append(b, part...)
		}
		if len(b) > 0 && random.Intn(2) == 0 {
			b[random.Intn(len(b))] ^= 1 << random.Intn(8)
		}
		open(t, "P5.1: any bytes", laid(t, "", string(b), 0), bodies(string(b))...)
	}
}
