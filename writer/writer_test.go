package writer_test

import (
	"bytes"
	"math"
	"slices"
	"strings"
	"testing"

	"mailcoach/api"
	"mailcoach/writer"
)

// right: all quorums, found by going over what Places, Write and Ack may be.
func right() []api.Quorum {
	var l []api.Quorum
	for places := 1; places <= 7; places++ {
		for write := 1; write <= places; write++ {
			for ack := 1; ack <= write; ack++ {
				l = append(l, api.Quorum{Places: places, Write: write, Ack: ack})
			}
		}
	}
	return l
}

// made: a writer of an empty ledger.
func made(t *testing.T, q api.Quorum) *writer.Writer {
	t.Helper()
	w, e := writer.New(q)
	if w == nil || e != api.OK {
		t.Fatalf("P11.1: New of %v: error %d", q, e)
	}
	return w
}

// added: a writer of a ledger with these entries, none of which is confirmed.
func added(t *testing.T, q api.Quorum, data ...string) *writer.Writer {
	t.Helper()
	w := made(t, q)
	for i, s := range data {
		add(t, w, s, uint64(i))
	}
	return w
}

// add: an entry that is taken, as this number.
func add(t *testing.T, w *writer.Writer, data string, want uint64) {
	t.Helper()
	if n, e := w.Add([]byte(data)); n != want || e != api.OK {
		t.Fatalf("P11.1: Add of %d bytes: %d, error %d; not %d", len(data), n, e, want)
	}
}

// refused: an entry that isn't taken, and changes nothing.
func refused(t *testing.T, w *writer.Writer, data string, want api.Errno) {
	t.Helper()
	count, sure := w.Count(), w.Sure()
	l, lacking := w.Waiting()
	if n, e := w.Add([]byte(data)); n != 0 || e != want {
		t.Fatalf("P11.1, R3: Add of %d bytes: %d, error %d; not error %d", len(data), n, e, want)
	}
	told(t, w, count, sure, l, lacking)
}

// told: what a writer tells is this.
func told(t *testing.T, w *writer.Writer, count, sure uint64, l []api.Item, lacking [][]int) {
	t.Helper()
	if w.Count() != count || w.Sure() != sure {
		t.Fatalf("P11.1: Count %d, Sure %d; not %d, %d", w.Count(), w.Sure(), count, sure)
	}
	gotL, gotLacking := w.Waiting()
	if !sameItems(gotL, l) || !sameLists(gotLacking, lacking) {
		t.Fatalf("P11.2: Waiting: %s, %s; not %s, %s", items(gotL), lists(gotLacking), items(l), lists(lacking))
	}
}

// row: entries from a number on.
func row(from uint64, data ...string) []api.Item {
	var l []api.Item
	for i, s := range data {
		l = append(l, api.Item{Entry: from + uint64(i), Data: []byte(s)})
	}
	return l
}

// acked: what an Ack confirms is this.
func acked(t *testing.T, w *writer.Writer, place int, n uint64, want ...api.Item) {
	t.Helper()
	if l := w.Ack(place, n); !sameItems(l, want) {
		t.Fatalf("P11.2: Ack(%d, %d): %s, not %s", place, n, items(l), items(want))
	}
}

// replaced: the entries that another node at a place must have are these.
func replaced(t *testing.T, w *writer.Writer, place int, want ...uint64) {
	t.Helper()
	if l := w.Replace(place); !slices.Equal(l, want) {
		t.Fatalf("P11.2: Replace(%d): %s, not %s", place, numbers(l), numbers(want))
	}
}

// closed: it is closed, with so many entries.
func closed(t *testing.T, w *writer.Writer, want uint64) {
	t.Helper()
	if n, e := w.Close(); n != want || e != api.OK {
		t.Fatalf("P11.3: Close: %d, error %d; not %d", n, e, want)
	}
}

// kept: it can't be closed, as entries wait.
func kept(t *testing.T, w *writer.Writer) {
	t.Helper()
	if n, e := w.Close(); n != 0 || e != api.ErrState {
		t.Fatalf("P11.3, R3: Close, where entries wait: %d, error %d", n, e)
	}
}

func TestExamples(t *testing.T) {
	w := added(t, api.Quorum{Places: 3, Write: 2, Ack: 2}, "x", "y")
	acked(t, w, 1, 1)
	acked(t, w, 2, 1)
	acked(t, w, 0, 0)
	told(t, w, 2, 0, row(0, "x", "y"), [][]int{{1}, {}})
	acked(t, w, 1, 0, row(0, "x", "y")...)
	told(t, w, 2, 2, nil, nil)
}

func TestNew(t *testing.T) {
	all := right()
	for _, q := range all {
		told(t, made(t, q), 0, 0, nil, nil)
	}
	some := []int{math.MinInt, -1, 0, 1, 2, 3, 6, 7, 8, 1<<32 + 3, math.MaxInt}
	for _, places := range some {
		for _, write := range some {
			for _, ack := range some {
				q := api.Quorum{Places: places, Write: write, Ack: ack}
				w, e := writer.New(q)
				if !slices.Contains(all, q) && (w != nil || e != api.ErrQuorum) {
					t.Errorf("P11.1, R3: New of %v: nil %v, error %d", q, w == nil, e)
				}
			}
		}
	}
}

func TestAddOfHowManyBytes(t *testing.T) {
	w := made(t, api.Quorum{Places: 1, Write: 1, Ack: 1})
	var want []string
	for i, n := range []int{0, 1, 255, 256} {
		want = append(want, strings.Repeat("\x00\xff", n)[:n])
		add(t, w, want[i], uint64(i))
	}
	for _, n := range []int{257, 258, 512, 1 << 16, 1<<16 + 1} {
		refused(t, w, strings.Repeat("a", n), api.ErrLong)
	}
	told(t, w, 4, 0, row(0, want...), [][]int{{0}, {0}, {0}, {0}})
	for i, s := range want {
		acked(t, w, 0, uint64(i), row(uint64(i), s)...)
	}
	if n, e := w.Add(nil); n != 4 || e != api.OK {
		t.Errorf("P11.1: Add of nil: %d, error %d", n, e)
	}
	acked(t, w, 0, 4, row(4, "")...)
}

// How many wait is what counts, not how many there are.
func TestAddWhereManyWait(t *testing.T) {
	w := made(t, api.Quorum{Places: 2, Write: 2, Ack: 1})
	for i := range uint64(64) {
		add(t, w, "a", i)
	}
	refused(t, w, "a", api.ErrMany)
	refused(t, w, "", api.ErrMany)
	refused(t, w, strings.Repeat("a", 257), api.ErrLong)
	acked(t, w, 0, 1) // 0 waits, and so does 1, whoever has it
	refused(t, w, "a", api.ErrMany)
	acked(t, w, 1, 0, row(0, "a", "a")...)
	add(t, w, "b", 64)
	add(t, w, "c", 65)
	refused(t, w, "a", api.ErrMany)
	if w.Count() != 66 || w.Sure() != 2 {
		t.Errorf("P11.1: Count %d, Sure %d", w.Count(), w.Sure())
	}
}

func TestAddOfTheLastEntries(t *testing.T) {
	w := made(t, api.Quorum{Places: 3, Write: 2, Ack: 1})
	for i := range uint64(1 << 20) {
		if n, e := w.Add([]byte{byte(i)}); n != i || e != api.OK {
			t.Fatalf("P11.1: Add: %d, error %d; not %d", n, e, i)
		}
		if i%64 != 63 {
			continue
		}
		for n := i; n > i-63; n-- {
			if l := w.Ack(int((n+1)%3), n); len(l) != 0 {
				t.Fatalf("P11.2: Ack of %d, where %d waits: %s", n, i-63, items(l))
			}
		}
		if l := w.Ack(int((i-63)%3), i-63); len(l) != 64 || l[0].Entry != i-63 || l[63].Entry != i || l[63].Data[0] != byte(i) {
			t.Fatalf("P11.2: Ack of %d: %s", i-63, items(l))
		}
	}
	refused(t, w, "", api.ErrMany)
	refused(t, w, strings.Repeat("a", 257), api.ErrLong)
	told(t, w, 1<<20, 1<<20, nil, nil)
	closed(t, w, 1<<20)
	refused(t, w, "", api.ErrClosed)
}

// The last entry of all waits alone, and there is no room behind it.
func TestAddBehindTheLastEntryThatWaits(t *testing.T) {
	w := made(t, api.Quorum{Places: 1, Write: 1, Ack: 1})
	for i := range uint64(1<<20 - 1) {
		w.Add(nil)
		w.Ack(0, i)
	}
	add(t, w, "z", 1<<20-1)
	refused(t, w, "a", api.ErrMany)
	kept(t, w)
	acked(t, w, 0, 1<<20) // there is no such entry
	acked(t, w, 0, 1<<20-1, row(1<<20-1, "z")...)
	refused(t, w, "a", api.ErrMany)
	closed(t, w, 1<<20)
}

func TestAddAnswersTheFirstError(t *testing.T) {
	w := made(t, api.Quorum{Places: 1, Write: 1, Ack: 1})
	for i := range uint64(64) {
		add(t, w, "", i)
	}
	refused(t, w, strings.Repeat("a", 257), api.ErrLong) // and ErrMany
	for i := range uint64(64) {
		w.Ack(0, i)
	}
	closed(t, w, 64)
	refused(t, w, strings.Repeat("a", 257), api.ErrClosed) // and ErrLong
	refused(t, w, "a", api.ErrClosed)
	closed(t, w, 64)
}

func TestAck(t *testing.T) {
	w := added(t, api.Quorum{Places: 5, Write: 3, Ack: 2}, "a", "b", "c", "d", "e")
	acked(t, w, 0, 4) // its Set goes round: 4, 0, 1
	acked(t, w, 0, 4) // one that says so twice is one
	told(t, w, 5, 0, row(0, "a", "b", "c", "d", "e"), [][]int{{0, 1, 2}, {1, 2, 3}, {2, 3, 4}, {3, 4, 0}, {4, 1}})
	acked(t, w, 4, 4)
	acked(t, w, 1, 0)
	acked(t, w, 2, 0, row(0, "a")...)
	told(t, w, 5, 1, row(1, "b", "c", "d", "e"), [][]int{{1, 2, 3}, {2, 3, 4}, {3, 4, 0}, {1}})
	acked(t, w, 0, 0) // it waits no more
	acked(t, w, 2, 2)
	acked(t, w, 3, 2)
	acked(t, w, 4, 2)
	told(t, w, 5, 1, row(1, "b", "c", "d", "e"), [][]int{{1, 2, 3}, {}, {3, 4, 0}, {1}})
	acked(t, w, 3, 1)
	acked(t, w, 1, 1, row(1, "b", "c")...) // c is confirmed with it, e behind d isn't
	acked(t, w, 0, 3)
	acked(t, w, 3, 3, row(3, "d", "e")...)
	told(t, w, 5, 5, nil, nil)
}

// An Ack of what doesn't wait, or by a place that isn't one of the entry's, says nothing, now and for later.
func TestAckOfNothing(t *testing.T) {
	w := added(t, api.Quorum{Places: 4, Write: 2, Ack: 2}, "a", "b", "c")
	acked(t, w, 0, 0)
	acked(t, w, 1, 0, row(0, "a")...)
	want := [][]int{{1, 2}, {2, 3}}
	for _, place := range []int{math.MinInt, -4, -3, -2, -1, 0, 3, 4, 5, 6, 7, 8, 9, 1 << 32, 1<<32 + 1, math.MaxInt - 2, math.MaxInt} {
		acked(t, w, place, 1)
	}
	for _, place := range []int{math.MinInt, -1, 0, 1, 2, 3, 4, math.MaxInt} {
		for _, n := range []uint64{0, 3, 4, 61, 62, 64, 65, 66, 127, 1 << 20, 1 << 32, 1<<32 + 1, 1<<63 + 1, math.MaxUint64 - 62, math.MaxUint64} {
			acked(t, w, place, n)
		}
	}
	told(t, w, 3, 1, row(1, "b", "c"), want)
	add(t, w, "d", 3) // that was acked ahead of its coming
	told(t, w, 4, 1, row(1, "b", "c", "d"), append(want, []int{3, 0}))
}

func TestAckOfAnEmptyLedger(t *testing.T) {
	w := made(t, api.Quorum{Places: 1, Write: 1, Ack: 1})
	acked(t, w, 0, 0)
	replaced(t, w, 0)
	told(t, w, 0, 0, nil, nil)
	add(t, w, "a", 0)
	told(t, w, 1, 0, row(0, "a"), [][]int{{0}})
}

func TestReplace(t *testing.T) {
	w := added(t, api.Quorum{Places: 3, Write: 2, Ack: 2}, "a", "b", "c", "d")
	acked(t, w, 0, 0)
	acked(t, w, 1, 0, row(0, "a")...)
	acked(t, w, 2, 1)
	acked(t, w, 2, 2)
	acked(t, w, 0, 2)
	acked(t, w, 0, 3)
	told(t, w, 4, 1, row(1, "b", "c", "d"), [][]int{{1}, {}, {1}})
	replaced(t, w, 2, 1, 2) // 0 is confirmed, and what 2 had of others doesn't count
	told(t, w, 4, 1, row(1, "b", "c", "d"), [][]int{{1, 2}, {2}, {1}})
	acked(t, w, 1, 1) // without 2 it isn't Enough any more
	acked(t, w, 2, 1, row(1, "b")...)
	replaced(t, w, 1, 3) // that it didn't have ahead either
	replaced(t, w, 1, 3)
	replaced(t, w, 0, 2, 3)
	told(t, w, 4, 2, row(2, "c", "d"), [][]int{{2, 0}, {0, 1}})
	acked(t, w, 0, 2)
	acked(t, w, 2, 2, row(2, "c")...)
	acked(t, w, 0, 3)
	acked(t, w, 1, 3, row(3, "d")...)
	replaced(t, w, 0)
	told(t, w, 4, 4, nil, nil)
	closed(t, w, 4)
	replaced(t, w, 1)
}

// At a place that isn't there nothing is replaced.
func TestReplaceOfNoPlace(t *testing.T) {
	w := added(t, api.Quorum{Places: 3, Write: 3, Ack: 3}, "a", "b")
	acked(t, w, 1, 0)
	acked(t, w, 0, 1)
	for _, place := range []int{math.MinInt, -3, -2, -1, 3, 4, 6, 7, 8, 1 << 32, math.MaxInt} {
		replaced(t, w, place)
	}
	told(t, w, 2, 0, row(0, "a", "b"), [][]int{{0, 2}, {1, 2}})
}

// What is confirmed stays so, whoever is replaced.
func TestReplaceTakesNothingBackThatIsConfirmed(t *testing.T) {
	w := added(t, api.Quorum{Places: 2, Write: 2, Ack: 1}, "a")
	acked(t, w, 1, 0, row(0, "a")...)
	replaced(t, w, 1)
	acked(t, w, 1, 0)
	told(t, w, 1, 1, nil, nil)
	closed(t, w, 1)
}

func TestClose(t *testing.T) {
	w := added(t, api.Quorum{Places: 3, Write: 3, Ack: 2}, "a", "b")
	kept(t, w)
	acked(t, w, 0, 1)
	acked(t, w, 2, 1)
	acked(t, w, 1, 0)
	kept(t, w)
	add(t, w, "c", 2) // it isn't closed
	acked(t, w, 2, 0, row(0, "a", "b")...)
	kept(t, w)
	told(t, w, 3, 2, row(2, "c"), [][]int{{2, 0, 1}})
	acked(t, w, 0, 2)
	acked(t, w, 1, 2, row(2, "c")...)
	closed(t, w, 3)
	closed(t, w, 3)
	refused(t, w, "d", api.ErrClosed)
	acked(t, w, 0, 3)
	acked(t, w, 2, 2)
	replaced(t, w, 0)
	told(t, w, 3, 3, nil, nil)
	closed(t, w, 3)
}

func TestCloseOfAnEmptyLedger(t *testing.T) {
	w := made(t, api.Quorum{Places: 7, Write: 7, Ack: 7})
	closed(t, w, 0)
	refused(t, w, "", api.ErrClosed)
	closed(t, w, 0)
	told(t, w, 0, 0, nil, nil)
}

func TestNilWriter(t *testing.T) {
	var w *writer.Writer
	for _, data := range [][]byte{nil, []byte("a"), make([]byte, 257)} {
		if n, e := w.Add(data); n != 0 || e != api.ErrNil {
			t.Errorf("R7: Add: %d, error %d", n, e)
		}
	}
	if n, e := w.Close(); n != 0 || e != api.ErrNil {
		t.Errorf("R7: Close: %d, error %d", n, e)
	}
	acked(t, w, 0, 0)
	replaced(t, w, 0)
	told(t, w, 0, 0, nil, nil)
}

// Of one that New didn't make nothing is promised but that each call ends.
func TestZeroWriter(t *testing.T) {
	w := &writer.Writer{}
	for i := range uint64(70) {
		w.Add([]byte("a"))
		w.Ack(int(i%8), i)
		w.Replace(int(i % 8))
		w.Waiting()
		w.Count()
		w.Sure()
		w.Close()
	}
}

func TestWhatIsHandedInIsLeftAlone(t *testing.T) {
	w := made(t, api.Quorum{Places: 1, Write: 1, Ack: 1})
	whole := []byte("abcdef")
	if _, e := w.Add(whole[1:3]); e != api.OK {
		t.Fatalf("P11.1: error %d", e)
	}
	w.Waiting()
	if string(whole) != "abcdef" {
		t.Errorf("R6: Add changed what was handed in: %s", whole)
	}
	copy(whole, "uvwxyz")
	told(t, w, 1, 0, row(0, "bc"), [][]int{{0}})
	acked(t, w, 0, 0, row(0, "bc")...)
	if string(whole) != "uvwxyz" {
		t.Errorf("R6: Ack changed what was handed in: %s", whole)
	}
}

// scribble: all that a list of entries has room for is written over.
func scribble(l []api.Item) {
	l = l[:cap(l)]
	for i := range l {
		b := l[i].Data[:cap(l[i].Data)]
		for j := range b {
			b[j] = '!'
		}
		l[i] = api.Item{Entry: 99, Data: []byte("!")}
	}
}

// fill: all that a list of numbers has room for is written over.
func fill[N int | uint64](l []N) {
	l = l[:cap(l)]
	for i := range l {
		l[i] = 99
	}
}

func TestAnswersAreNewMemory(t *testing.T) {
	w := added(t, api.Quorum{Places: 3, Write: 3, Ack: 3}, "a", "b", "c")
	acked(t, w, 1, 0)
	acked(t, w, 2, 2)
	want := [][]int{{0, 2}, {1, 2, 0}, {0, 1}}
	for i := range want {
		l, lacking := w.Waiting()
		fill(lacking[i])
		others := slices.Delete(slices.Clone(lacking), i, i+1)
		if !sameLists(others, slices.Delete(slices.Clone(want), i, i+1)) {
			t.Errorf("R6: written over one list of Waiting, others are %s", lists(others))
		}
		scribble(l[i : i+1 : i+1])
		if left := slices.Delete(l, i, i+1); !sameItems(left, slices.Delete(row(0, "a", "b", "c"), i, i+1)) {
			t.Errorf("R6: written over one entry of Waiting, others are %s", items(left))
		}
	}
	l, lacking := w.Waiting()
	scribble(l)
	lacking = lacking[:cap(lacking)]
	for i := range lacking {
		fill(lacking[i])
		lacking[i] = nil
	}
	fill(w.Replace(1))
	told(t, w, 3, 0, row(0, "a", "b", "c"), [][]int{{0, 1, 2}, {1, 2, 0}, {0, 1}})
	replaced(t, w, 1, 0, 1, 2)
}

// What a Waiting or an Ack answered stays as it was, whatever comes.
func TestAnswersAreLeftAlone(t *testing.T) {
	w := added(t, api.Quorum{Places: 2, Write: 2, Ack: 2}, "a", "b")
	waiting, lacking := w.Waiting()
	c := *w
	numbersOf := w.Replace(0)
	acked(t, w, 0, 0)
	acked(t, w, 1, 1)
	acked(t, w, 0, 1)
	confirmed := w.Ack(1, 0)
	for i := range uint64(64) {
		add(t, w, "z", i+2)
	}
	w.Replace(1)
	if !sameItems(waiting, row(0, "a", "b")) || !sameLists(lacking, [][]int{{0, 1}, {1, 0}}) {
		t.Errorf("R6: what Waiting answered became %s, %s", items(waiting), lists(lacking))
	}
	if !slices.Equal(numbersOf, []uint64{0, 1}) || !sameItems(confirmed, row(0, "a", "b")) {
		t.Errorf("R6: what Replace and Ack answered became %s, %s", numbers(numbersOf), items(confirmed))
	}
	scribble(confirmed)
	told(t, &c, 2, 0, row(0, "a", "b"), [][]int{{0, 1}, {1, 0}})
}

// What is told doesn't hang on who was asked ahead, nor how often.
func TestWritersAreNotInOneAnothersWay(t *testing.T) {
	a := added(t, api.Quorum{Places: 3, Write: 2, Ack: 2}, "a")
	b := added(t, api.Quorum{Places: 2, Write: 2, Ack: 1}, "b", "c")
	acked(t, a, 0, 0)
	acked(t, b, 1, 0, row(0, "b")...)
	for range 3 {
		told(t, a, 1, 0, row(0, "a"), [][]int{{1}})
		told(t, b, 2, 1, row(1, "c"), [][]int{{1, 0}})
	}
	acked(t, b, 0, 1, row(1, "c")...)
	closed(t, b, 2)
	kept(t, a)
	add(t, a, "d", 1)
}

// Bytes are bytes: none means anything.
func TestAllBytes(t *testing.T) {
	var all []byte
	for i := range 256 {
		all = append(all, byte(i))
	}
	w := added(t, api.Quorum{Places: 7, Write: 1, Ack: 1}, string(all))
	l, _ := w.Waiting()
	if len(l) != 1 || !bytes.Equal(l[0].Data, all) {
		t.Errorf("P11.2: Waiting: %s", items(l))
	}
	acked(t, w, 0, 0, row(0, string(all))...)
}
