package mender_test

import (
	"bytes"
	"math"
	"math/rand"
	"slices"
	"strconv"
	"strings"
	"testing"

	"mailcoach/api"
	"mailcoach/mender"
)

// right: all quorums, found by going over what Places, Write and Ack may be.
func right() []api.Quorum {
	var l []api.Quorum
	for places := 1; places <= 7; places++ {
		for write := 1; write <= places; write++ {
			for ack := 1; ack <= write; ack++ {
				l = append(l, api.Quorum{Places: places, Write: write, Ack: ack})
			}
		}
	}
	return l
}

// one: a ledger at one place alone, which is enough.
var one = api.Quorum{Places: 1, Write: 1, Ack: 1}

// made: a mender that has heard nothing.
func made(t *testing.T, q api.Quorum) *mender.Mender {
	t.Helper()
	m, e := mender.New(q)
	if m == nil || e != api.OK {
		t.Fatalf("P12.1: New of %v: error %d", q, e)
	}
	return m
}

// row: entries from a number on.
func row(from uint64, data ...string) []api.Item {
	var l []api.Item
	for i, s := range data {
		l = append(l, api.Item{Entry: from + uint64(i), Data: []byte(s)})
	}
	return l
}

// at: an entry.
func at(n uint64, data string) api.Item { return api.Item{Entry: n, Data: []byte(data)} }

// hear: what is taken.
func hear(t *testing.T, m *mender.Mender, place int, sure uint64, l ...api.Item) {
	t.Helper()
	if e := m.Hear(place, sure, l); e != api.OK {
		t.Fatalf("P12.1: Hear(%d, %d, %s): error %d", place, sure, items(l), e)
	}
}

// refused: what isn't taken, and changes nothing.
func refused(t *testing.T, m *mender.Mender, want api.Errno, place int, sure uint64, l ...api.Item) {
	t.Helper()
	ready := m.Ready()
	has, was := m.Result()
	if e := m.Hear(place, sure, l); e != want {
		t.Fatalf("P12.1: Hear(%d, %d, %s): error %d, not %d", place, sure, items(l), e, want)
	}
	if m.Ready() != ready {
		t.Fatalf("R4: Ready is %v behind an error", !ready)
	}
	if l, e := m.Result(); e != was || !same(l, has) {
		t.Fatalf("R4: behind an error Result is %s, error %d; not %s, error %d", items(l), e, items(has), was)
	}
}

// told: it is Ready, and the Result is this.
func told(t *testing.T, m *mender.Mender, want ...api.Item) {
	t.Helper()
	if !m.Ready() {
		t.Fatalf("P12.1: it isn't Ready")
	}
	if l, e := m.Result(); e != api.OK || !same(l, want) {
		t.Fatalf("P12.2: Result: %s, error %d; not %s", items(l), e, items(want))
	}
}

// none: there is no Result, but this error.
func none(t *testing.T, m *mender.Mender, want api.Errno) {
	t.Helper()
	if m.Ready() != (want == api.ErrQuorum) {
		t.Fatalf("P12.1: Ready: %v", m.Ready())
	}
	if l, e := m.Result(); len(l) != 0 || e != want {
		t.Fatalf("P12.2, R3: Result: %s, error %d; not error %d", items(l), e, want)
	}
}

func TestExamples(t *testing.T) {
	m := made(t, api.Quorum{Places: 3, Write: 3, Ack: 2})
	hear(t, m, 0, 0, at(0, "a"), at(2, "c"))
	none(t, m, api.ErrState)
	hear(t, m, 1, 0)
	told(t, m, at(0, "a"))
}

func TestNew(t *testing.T) {
	all := right()
	for _, q := range all {
		none(t, made(t, q), api.ErrState)
	}
	some := []int{math.MinInt, -1, 0, 1, 2, 3, 6, 7, 8, 1<<32 + 3, math.MaxInt}
	for _, places := range some {
		for _, write := range some {
			for _, ack := range some {
				q := api.Quorum{Places: places, Write: write, Ack: ack}
				m, e := mender.New(q)
				if !slices.Contains(all, q) && (m != nil || e != api.ErrQuorum) {
					t.Errorf("P12.1, R3: New of %v: nil %v, error %d", q, m == nil, e)
				}
			}
		}
	}
}

func TestHearOfWhichPlaces(t *testing.T) {
	for _, q := range right() {
		m := made(t, q)
		for _, place := range []int{math.MinInt, -7, -1, q.Places, q.Places + 1, 8, 1 << 32, math.MaxInt} {
			refused(t, m, api.ErrRange, place, 0)
			refused(t, m, api.ErrRange, place, 0, at(0, "a"))
		}
		for place := range q.Places {
			hear(t, m, place, 0, at(0, "b"))
			refused(t, m, api.ErrRange, q.Places, 0)
		}
		told(t, m, at(0, "b"))
	}
}

func TestHearOfHowManySure(t *testing.T) {
	for _, sure := range []uint64{1<<20 + 1, 1<<20 + 2, 1 << 21, 1 << 32, 1<<32 + 1, 1 << 63, math.MaxUint64} {
		m := made(t, one)
		refused(t, m, api.ErrRange, 0, sure)
		refused(t, m, api.ErrRange, 0, sure, at(0, "a"))
		hear(t, m, 0, 0)
		refused(t, m, api.ErrRange, 0, sure, at(0, "a"))
		told(t, m)
	}
	for _, sure := range []uint64{1, 2, 1<<20 - 1, 1 << 20} {
		m := made(t, one)
		hear(t, m, 0, sure)
		none(t, m, api.ErrQuorum)
		hear(t, m, 0, 0, at(0, "a"))
		if sure > 1 {
			none(t, m, api.ErrQuorum)
		} else {
			told(t, m, at(0, "a"))
		}
	}
}

func TestHearOfOtherBytes(t *testing.T) {
	m := made(t, api.Quorum{Places: 3, Write: 3, Ack: 3})
	hear(t, m, 1, 0, at(0, "a"), at(1, "b"), at(5, "f"))
	for _, data := range []string{"", "b", "A", "aa", "a\x00"} {
		refused(t, m, api.ErrOther, 0, 0, at(0, data))
		refused(t, m, api.ErrOther, 1, 0, at(0, data)) // from who said it, too
	}
	refused(t, m, api.ErrOther, 2, 0, at(2, "c"), at(5, "g"))                         // what was heard, though 3 and 4 weren't
	refused(t, m, api.ErrOther, 2, 0, at(5, "g"), at(2, "c"))                         // whichever stands ahead
	refused(t, m, api.ErrOther, 2, 0, at(0, "a"), at(1, "b"), at(2, "c"), at(1, "c")) // the second time
	hear(t, m, 2, 0, at(0, "a"), at(1, "b"), at(5, "f"))
	told(t, m, row(0, "a", "b")...)
}

func TestHearOfUnlikeOnesInOneList(t *testing.T) {
	m := made(t, api.Quorum{Places: 2, Write: 1, Ack: 1})
	refused(t, m, api.ErrOther, 0, 0, at(0, "a"), at(0, "b"))
	refused(t, m, api.ErrOther, 0, 0, at(0, "a"), at(1, "b"), at(0, ""))
	refused(t, m, api.ErrOther, 0, 0, at(7, ""), at(7, ""), at(7, ""), at(7, "\x00"))
	hear(t, m, 0, 0, at(0, "a"), at(1, "b"), at(0, "a"), at(1, "b")) // twice the same is the same
	hear(t, m, 0, 0, at(2, ""), api.Item{Entry: 2}, at(2, ""))       // no bytes are no bytes
	hear(t, m, 1, 0, at(2, ""), at(7, "h"), at(7, "h"))
	told(t, m, row(0, "a", "b", "")...)
}

// Of a Hear that ends in an error nothing stays: not its place, nor its sure, nor the entries ahead of the wrong one.
func TestHearThatIsRefusedLeavesNothing(t *testing.T) {
	m := made(t, api.Quorum{Places: 3, Write: 2, Ack: 1})
	refused(t, m, api.ErrOther, 0, 3, at(0, "a"), at(1, "b"), at(3, "d"), at(3, "e"))
	hear(t, m, 1, 0, at(0, "z")) // it was nothing ahead
	refused(t, m, api.ErrOther, 2, 1<<20, at(1, "b"), at(2, "c"), at(0, "a"))
	refused(t, m, api.ErrRange, 3, 1, at(1, "b"))
	refused(t, m, api.ErrRange, 2, 1<<20+1, at(1, "b"))
	none(t, m, api.ErrState)
	hear(t, m, 0, 0, at(1, "y"))
	none(t, m, api.ErrState)
	hear(t, m, 2, 0)
	told(t, m, row(0, "z", "y")...)
	hear(t, m, 0, 0, at(3, "w"), at(2, "x"))
	told(t, m, row(0, "z", "y", "x", "w")...)
}

func TestHearAnswersTheFirstError(t *testing.T) {
	m := made(t, one)
	hear(t, m, 0, 0, at(0, "a"))
	refused(t, m, api.ErrRange, 1, 0, at(0, "b"))
	refused(t, m, api.ErrRange, -1, 1<<20+1, at(0, "b"))
	refused(t, m, api.ErrRange, 0, 1<<20+1, at(0, "b"))
	refused(t, m, api.ErrRange, 0, 1<<20+1, at(1, "b"), at(1, "c"))
	refused(t, m, api.ErrOther, 0, 1<<20, at(0, "b"))
}

// Which places are enough, whatever comes first.
func TestReady(t *testing.T) {
	for _, q := range right() {
		for heard := range 1 << q.Places {
			m, p := made(t, q), plainOf(q)
			for i := range q.Places {
				place := (i + heard) % q.Places
				if heard>>place&1 == 1 {
					hear(t, m, place, 0)
					p.hear(place, 0, nil)
				}
			}
			if m.Ready() != p.ready() {
				t.Fatalf("P12.1: %v: heard %b: Ready %v", q, heard, m.Ready())
			}
			if p.ready() {
				told(t, m)
			} else {
				none(t, m, api.ErrState)
			}
		}
	}
}

// One place counts once, however often it was heard.
func TestReadyOfOnePlaceAgain(t *testing.T) {
	m := made(t, api.Quorum{Places: 3, Write: 3, Ack: 2})
	for i := range uint64(5) {
		hear(t, m, 2, 0, at(i, "a"))
		none(t, m, api.ErrState)
	}
	hear(t, m, 0, 0)
	told(t, m, row(0, "a", "a", "a", "a", "a")...)
}

// What is heard of one place goes with what was heard of others, and of itself.
func TestResult(t *testing.T) {
	m := made(t, api.Quorum{Places: 3, Write: 2, Ack: 2})
	hear(t, m, 2, 0, at(4, "e"), at(1, "b"))
	none(t, m, api.ErrState)
	hear(t, m, 0, 0, at(2, "c"))
	told(t, m)
	hear(t, m, 1, 1, at(3, "d"), at(1, "b"))
	none(t, m, api.ErrQuorum)
	hear(t, m, 2, 0, at(0, "a"))
	told(t, m, row(0, "a", "b", "c", "d", "e")...)
	hear(t, m, 0, 0)
	hear(t, m, 1, 0, at(6, "g"))
	told(t, m, row(0, "a", "b", "c", "d", "e")...)
	hear(t, m, 1, 0, at(5, "f"))
	told(t, m, row(0, "a", "b", "c", "d", "e", "f", "g")...)
}

func TestResultOfFewerThanSure(t *testing.T) {
	m := made(t, api.Quorum{Places: 2, Write: 2, Ack: 1})
	hear(t, m, 0, 3, at(0, "a"), at(1, "b"), at(3, "d"), at(4, "e"))
	none(t, m, api.ErrState)
	hear(t, m, 1, 2) // the greatest counts, not the last
	none(t, m, api.ErrQuorum)
	hear(t, m, 0, 0)
	none(t, m, api.ErrQuorum)
	hear(t, m, 1, 5, at(2, "c")) // as many as sure are enough
	told(t, m, row(0, "a", "b", "c", "d", "e")...)
	hear(t, m, 1, 6)
	none(t, m, api.ErrQuorum)
	hear(t, m, 0, 4, at(5, "f"), at(7, "h"))
	told(t, m, row(0, "a", "b", "c", "d", "e", "f")...)
}

// The state comes first: who isn't Ready can't know that entries are too few.
func TestResultAnswersTheFirstError(t *testing.T) {
	m := made(t, api.Quorum{Places: 2, Write: 2, Ack: 1})
	hear(t, m, 0, 1)
	none(t, m, api.ErrState)
	hear(t, m, 1, 0)
	none(t, m, api.ErrQuorum)
}

// far: numbers of which many are alike but for a bit or two.
func far() []uint64 {
	l := []uint64{math.MaxUint64, math.MaxUint64 - 1, math.MaxUint64 >> 1, 1<<20 - 1, 1 << 20, 1<<20 + 1, 0xaaaaaaaaaaaaaaaa, 0x5555555555555555}
	for i := range 64 {
		l = append(l, 1<<i, 1<<i|1, 1<<63|1<<i, 1<<63|1<<i-1, math.MaxUint64<<i)
	}
	slices.Sort(l)
	return slices.Compact(l)
}

// Whatever their numbers, and in whatever order they come, what was heard of each is known; the Result has those from 0 on.
func TestEntriesFarAway(t *testing.T) {
	random := rand.New(rand.NewSource(12))
	for range 20 {
		numbers := far()
		random.Shuffle(len(numbers), func(i, j int) { numbers[i], numbers[j] = numbers[j], numbers[i] })
		m := made(t, one)
		for _, n := range numbers {
			hear(t, m, 0, 0, at(n, strconv.FormatUint(n, 10)))
		}
		told(t, m)
		for _, n := range numbers {
			hear(t, m, 0, 0, at(n, strconv.FormatUint(n, 10)))
			refused(t, m, api.ErrOther, 0, 0, at(n, "other"))
		}
		hear(t, m, 0, 2, at(0, "0"))
		told(t, m, row(0, "0", "1", "2", "3", "4", "5")...)
	}
}

// As many as a ledger has at most: in one list back to front, one by one, and some behind them; the document sets no bound to what is heard.
func TestAsManyAsThereAre(t *testing.T) {
	m := made(t, api.Quorum{Places: 2, Write: 2, Ack: 1})
	var l []api.Item
	for n := range uint64(1 << 20) {
		l = append(l, api.Item{Entry: 1<<20 - 1 - n, Data: []byte{byte(n), byte(n >> 8), byte(n >> 16)}})
	}
	hear(t, m, 0, 0, l[:1<<19]...)
	hear(t, m, 0, 1<<20, l[1<<19+1:]...)
	for i := range l {
		if e := m.Hear(1, uint64(i), l[i:i+1]); e != api.OK {
			t.Fatalf("P12.1: Hear of %d: error %d", l[i].Entry, e)
		}
	}
	slices.Reverse(l)
	told(t, m, l...)
	hear(t, m, 1, 0, at(1<<20+1, "b"), at(1<<20, strings.Repeat("a", 1000)))
	told(t, m, append(l, at(1<<20, strings.Repeat("a", 1000)), at(1<<20+1, "b"))...)
}

func TestNilMender(t *testing.T) {
	var m *mender.Mender
	for _, place := range []int{-1, 0, 7} {
		for _, sure := range []uint64{0, 1 << 20, 1<<20 + 1} {
			for _, l := range [][]api.Item{nil, row(0, "a"), {at(0, "a"), at(0, "b")}} {
				if e := m.Hear(place, sure, l); e != api.ErrNil {
					t.Errorf("R7: Hear: error %d", e)
				}
			}
		}
	}
	if m.Ready() {
		t.Error("R7: it is Ready")
	}
	if l, e := m.Result(); len(l) != 0 || e != api.ErrNil {
		t.Errorf("R7: Result: %s, error %d", items(l), e)
	}
}

// One that New didn't make has no quorum, so no places.
func TestZeroMender(t *testing.T) {
	m := &mender.Mender{}
	for place := -1; place <= 7; place++ {
		refused(t, m, api.ErrRange, place, 0, at(0, "a"))
	}
	none(t, m, api.ErrState)
}

func TestWhatIsHandedInIsLeftAlone(t *testing.T) {
	m := made(t, one)
	whole := []byte("abcdef")
	l := []api.Item{{Entry: 3, Data: whole[4:5]}, {Entry: 1, Data: whole[:2]}, {Entry: 0, Data: whole[2:4]}, {Entry: 9, Data: whole[:1]}}
	hear(t, m, 0, 0, l[:3]...)
	told(t, m, row(0, "cd", "ab")...)
	refused(t, m, api.ErrOther, 0, 0, l[0], l[1], at(0, "x"))
	if want := []api.Item{at(3, "e"), at(1, "ab"), at(0, "cd"), at(9, "a")}; !same(l, want) || string(whole) != "abcdef" {
		t.Errorf("R6: Hear changed what was handed in: %s, %s", items(l), whole)
	}
	copy(whole, "uvwxyz")
	clear(l)
	told(t, m, row(0, "cd", "ab")...)
	hear(t, m, 0, 0, at(2, "!"), at(3, "e"))
	told(t, m, row(0, "cd", "ab", "!", "e")...)
}

// scribble: all that a list of entries has room for is written over.
func scribble(l []api.Item) {
	l = l[:cap(l)]
	for i := range l {
		b := l[i].Data[:cap(l[i].Data)]
		for j := range b {
			b[j] = '!'
		}
		l[i] = at(99, "!")
	}
}

func TestAnswersAreNewMemory(t *testing.T) {
	m := made(t, one)
	hear(t, m, 0, 0, row(0, "a", "bb", "ccc")...)
	first, _ := m.Result()
	for i := range 3 {
		l, _ := m.Result()
		scribble(l[i : i+1 : i+1])
		if left := slices.Delete(l, i, i+1); !same(left, slices.Delete(row(0, "a", "bb", "ccc"), i, i+1)) {
			t.Errorf("R6: written over one entry of Result, others are %s", items(left))
		}
	}
	l, _ := m.Result()
	scribble(l)
	told(t, m, row(0, "a", "bb", "ccc")...)
	refused(t, m, api.ErrOther, 0, 0, at(0, "!"))
	hear(t, m, 0, 0, row(3, "d", "e")...)
	told(t, m, row(0, "a", "bb", "ccc", "d", "e")...)
	if !same(first, row(0, "a", "bb", "ccc")) {
		t.Errorf("R6: what Result answered became %s", items(first))
	}
}

// What is told doesn't hang on who was asked ahead, nor how often.
func TestMendersAreNotInOneAnothersWay(t *testing.T) {
	a, b := made(t, one), made(t, api.Quorum{Places: 2, Write: 2, Ack: 2})
	hear(t, a, 0, 1, at(0, "a"))
	hear(t, b, 1, 0, at(0, "b"), at(1, "c"))
	for range 3 {
		told(t, a, at(0, "a"))
		told(t, b, row(0, "b", "c")...)
	}
	hear(t, b, 0, 3, at(2, "d"))
	refused(t, a, api.ErrOther, 0, 0, at(0, "b"))
	told(t, a, at(0, "a"))
	told(t, b, row(0, "b", "c", "d")...)
}

// Bytes are bytes: none means anything; the document sets no bound to how many are heard.
func TestAllBytes(t *testing.T) {
	var all []byte
	for i := range 256 {
		all = append(all, byte(i))
	}
	m := made(t, one)
	hear(t, m, 0, 0, api.Item{Entry: 0, Data: all}, api.Item{Entry: 1, Data: bytes.Repeat(all, 20)}, api.Item{Entry: 2})
	told(t, m, row(0, string(all), strings.Repeat(string(all), 20), "")...)
}
