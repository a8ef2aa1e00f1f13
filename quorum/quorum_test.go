package quorum_test

import (
	"math"
	"math/big"
	"slices"
	"testing"

	"mailcoach/api"
	"mailcoach/quorum"
)

// top: the greatest number that an entry can have.
const top = math.MaxUint64

// longest: how long the lists of what was said go here: beyond the last place that there may be.
const longest = api.MaxPlaces + 2

// right: all quorums, found by going over what Places, Write and Ack may be.
func right() []api.Quorum {
	var l []api.Quorum
	for places := 1; places <= 7; places++ {
		for write := 1; write <= places; write++ {
			for ack := 1; ack <= write; ack++ {
				l = append(l, api.Quorum{Places: places, Write: write, Ack: ack})
			}
		}
	}
	return l
}

// tried: quorums about all limits, with the least and the greatest numbers that there are.
func tried() []api.Quorum {
	some := []int{math.MinInt, math.MinInt + 1, -8, -7, -2, -1, 0, 1, 2, 3, 4, 5, 6, 7, 8, 9, 14, 1 << 32, 1<<32 + 3, math.MaxInt - 1, math.MaxInt}
	var l []api.Quorum
	for _, places := range some {
		for _, write := range some {
			for _, ack := range some {
				l = append(l, api.Quorum{Places: places, Write: write, Ack: ack})
			}
		}
	}
	return l
}

// entries: from 0 on some rounds, about the greatest int and the greatest number, and here and there between.
func entries() []uint64 {
	var l []uint64
	for n := range uint64(16) {
		l = append(l, n, 1<<32-8+n, 1<<63-8+n, top-15+n)
	}
	return append(l, 1000, api.MaxEntries-1, api.MaxEntries, api.MaxEntries+1, 0xfedcba9876543210)
}

// plainSet: from entry modulo Places on, place by place, round behind the last one.
func plainSet(q api.Quorum, entry uint64) []int {
	rest := new(big.Int).Mod(new(big.Int).SetUint64(entry), big.NewInt(int64(q.Places)))
	p := int(rest.Int64())
	var l []int
	for len(l) < q.Write {
		l = append(l, p)
		if p++; p == q.Places {
			p = 0
		}
	}
	return l
}

// plainTold: of how many of these places a list says so.
func plainTold(l []int, by []bool) int {
	n := 0
	for p, said := range by {
		if said && slices.Contains(l, p) {
			n++
		}
	}
	return n
}

// plainCovered: by the Sets of more entries than there are places.
func plainCovered(q api.Quorum, heard []bool) bool {
	for entry := range uint64(16) {
		if plainTold(plainSet(q, entry), heard) <= q.Write-q.Ack {
			return false
		}
	}
	return true
}

// bits: a list of n, of which those say so whose bit stands in mask.
func bits(mask uint, n int) []bool {
	l := make([]bool, n)
	for i := range l {
		l[i] = mask>>i&1 == 1
	}
	return l
}

// lists: all lists up to the longest; behind each, in the spare room, stands what all others would say.
func lists() [][]bool {
	var all [][]bool
	for n := 0; n <= longest; n++ {
		for mask := range uint(1) << n {
			whole := append(bits(mask, n), true, true, true, true, true, true, true, true)
			all = append(all, whole[:n])
		}
	}
	return append(all, nil)
}

func TestExamples(t *testing.T) {
	q := api.Quorum{Places: 5, Write: 3, Ack: 2}
	if got := quorum.Set(q, 4); !slices.Equal(got, []int{4, 0, 1}) {
		t.Errorf("P10.1: Set of 4: %v", got)
	}
	if !quorum.Covered(q, []bool{true, true, true, true}) || !quorum.Covered(q, []bool{true, true, true, true, false}) {
		t.Error("P10.2: not Covered by 0, 1, 2, 3")
	}
	if quorum.Covered(q, []bool{true, true, true}) || quorum.Covered(q, []bool{true, true, true, false, false}) {
		t.Error("P10.2: Covered by 0, 1, 2")
	}
}

func TestCheck(t *testing.T) {
	all := right()
	if len(all) != 84 {
		t.Fatalf("%d quorums", len(all))
	}
	for _, q := range all {
		if !quorum.Check(q) {
			t.Errorf("P10.1: %v is none", q)
		}
	}
	for _, q := range tried() {
		if got := quorum.Check(q); got != slices.Contains(all, q) {
			t.Errorf("P10.1: Check of %v: %v", q, got)
		}
	}
}

// Of one that is none there are no places, and nothing is true, whatever was said.
func TestWrongQuorums(t *testing.T) {
	all := right()
	many := bits(0, 1000)
	for i := range many {
		many[i] = true
	}
	wrong := 0
	for _, q := range tried() {
		if slices.Contains(all, q) {
			continue
		}
		wrong++
		for _, entry := range []uint64{0, 1, 6, 7, top - 1, top} {
			if got := quorum.Set(q, entry); len(got) != 0 {
				t.Fatalf("P10.1: Set of %v and %d: %v", q, entry, got)
			}
			for _, said := range [][]bool{nil, {}, {true}, many[:7], many} {
				if quorum.Enough(q, entry, said) || quorum.Covered(q, said) {
					t.Fatalf("P10.1: of %v, %d places said so: Enough for %d, or Covered", q, len(said), entry)
				}
			}
		}
	}
	if wrong == 0 {
		t.Fatal("none was wrong")
	}
}

func TestSet(t *testing.T) {
	for _, q := range right() {
		for _, entry := range entries() {
			if got, want := quorum.Set(q, entry), plainSet(q, entry); !slices.Equal(got, want) {
				t.Errorf("P10.1: Set of %v and %d: %v, not %v", q, entry, got, want)
			}
		}
	}
	for _, c := range []struct {
		q     api.Quorum
		entry uint64
		want  []int
	}{
		{api.Quorum{Places: 1, Write: 1, Ack: 1}, top, []int{0}},
		{api.Quorum{Places: 2, Write: 1, Ack: 1}, top, []int{1}},
		{api.Quorum{Places: 3, Write: 2, Ack: 1}, 2, []int{2, 0}},
		{api.Quorum{Places: 4, Write: 4, Ack: 1}, 6, []int{2, 3, 0, 1}},
		{api.Quorum{Places: 7, Write: 1, Ack: 1}, 6, []int{6}},
		{api.Quorum{Places: 7, Write: 7, Ack: 7}, 7, []int{0, 1, 2, 3, 4, 5, 6}},
		{api.Quorum{Places: 7, Write: 3, Ack: 2}, top, []int{1, 2, 3}},     // 2^63 is 1, so 2^64 - 1 is 1
		{api.Quorum{Places: 5, Write: 2, Ack: 2}, 1 << 63, []int{3, 4}},    // 2^4 is 1, so 2^63 is 2^3
		{api.Quorum{Places: 3, Write: 3, Ack: 2}, 1 << 63, []int{2, 0, 1}}, // 2^2 is 1, so 2^63 is 2
	} {
		if got := quorum.Set(c.q, c.entry); !slices.Equal(got, c.want) {
			t.Errorf("P10.1: Set of %v and %d: %v, not %v", c.q, c.entry, got, c.want)
		}
	}
}

// What stands in lists beyond the places counts for nothing, and places behind a list's end haven't said so.
func TestEnoughByAllLists(t *testing.T) {
	all := lists()
	for _, q := range right() {
		for _, entry := range []uint64{0, 1, 2, 3, 4, 5, 6, 7, 13, 1 << 63, top - 1, top} {
			set := plainSet(q, entry)
			for _, said := range all {
				if got, want := quorum.Enough(q, entry, said), plainTold(set, said) >= q.Ack; got != want {
					t.Fatalf("P10.1: Enough of %v and %d by %v: %v", q, entry, said, got)
				}
			}
		}
	}
}

func TestCoveredByAllLists(t *testing.T) {
	all := lists()
	for _, q := range right() {
		for _, heard := range all {
			if got, want := quorum.Covered(q, heard), plainCovered(q, heard); got != want {
				t.Fatalf("P10.2: Covered of %v by %v: %v", q, heard, got)
			}
		}
	}
}

func TestEnoughAtEdges(t *testing.T) {
	q := api.Quorum{Places: 5, Write: 3, Ack: 2}
	for _, c := range []struct {
		name  string
		entry uint64
		said  []bool
		want  bool
	}{
		{"nobody", 0, nil, false},
		{"one of them", 0, []bool{true}, false},
		{"two of them", 0, []bool{true, true}, true},
		{"all of them", 0, []bool{true, true, true}, true},
		{"one of them, and all others", 0, []bool{true, false, false, true, true}, false},
		{"two, of which one isn't its", 1, []bool{true, true}, false},
		{"the first and the last of a Set that goes round", 4, []bool{false, true, false, false, true}, true},
		{"places that aren't there", 4, []bool{false, false, false, false, true, true, true, true}, false},
	} {
		if got := quorum.Enough(q, c.entry, c.said); got != c.want {
			t.Errorf("P10.1: Enough of %d by %s: %v", c.entry, c.name, got)
		}
	}
}

func TestCoveredAtEdges(t *testing.T) {
	for _, c := range []struct {
		name  string
		q     api.Quorum
		heard []bool
		want  bool
	}{
		{"the only place", api.Quorum{Places: 1, Write: 1, Ack: 1}, []bool{true}, true},
		{"nobody, of one place", api.Quorum{Places: 1, Write: 1, Ack: 1}, nil, false},
		{"nobody, where more than none is asked", api.Quorum{Places: 3, Write: 3, Ack: 3}, []bool{false, false, false}, false},
		{"one, where all must say so", api.Quorum{Places: 3, Write: 3, Ack: 3}, []bool{false, false, true}, true},
		{"all but one, where one says so", api.Quorum{Places: 3, Write: 3, Ack: 1}, []bool{true, false, true}, false},
		{"all, where one says so", api.Quorum{Places: 3, Write: 3, Ack: 1}, []bool{true, true, true}, true},
		{"every second, of a Set of two", api.Quorum{Places: 4, Write: 2, Ack: 2}, []bool{true, false, true}, true},
		{"two side by side, of a Set of two", api.Quorum{Places: 4, Write: 2, Ack: 2}, []bool{true, true}, false},
		{"all but the first: the last entry's Set goes round", api.Quorum{Places: 7, Write: 2, Ack: 1}, []bool{false, true, true, true, true, true, true}, false},
		{"two that aren't there", api.Quorum{Places: 2, Write: 2, Ack: 2}, []bool{false, false, true, true}, false},
	} {
		if got := quorum.Covered(c.q, c.heard); got != c.want {
			t.Errorf("P10.2: Covered by %s: %v", c.name, got)
		}
	}
}

// Of all places that can be Enough and Covered, each against each.
func TestBothMeet(t *testing.T) {
	for _, q := range right() {
		all := uint(1)<<q.Places - 1
		for entry := range uint64(2 * api.MaxPlaces) {
			var enough, covered []uint
			for mask := range all + 1 {
				if quorum.Enough(q, entry, bits(mask, q.Places)) {
					enough = append(enough, mask)
				}
				if quorum.Covered(q, bits(mask, q.Places)) {
					covered = append(covered, mask)
				}
			}
			if !slices.Contains(enough, all) || !slices.Contains(covered, all) {
				t.Fatalf("P10.3: of %v, all places aren't Enough for %d, or not Covered", q, entry)
			}
			for _, c := range covered {
				if slices.Contains(enough, all&^c) {
					t.Fatalf("P10.3: of %v, %b are Covered, and the others Enough for %d", q, c, entry)
				}
				for _, e := range enough {
					if c&e == 0 {
						t.Fatalf("P10.3: of %v, %b are Covered, %b Enough for %d: none is among both", q, c, e, entry)
					}
				}
			}
		}
	}
}

// Fewer wouldn't do: wherever places aren't Covered, the others are Enough for some entry.
func TestNotCoveredAsksNoMoreThanNeeded(t *testing.T) {
	for _, q := range right() {
		all := uint(1)<<q.Places - 1
		for mask := range all + 1 {
			some := false
			for entry := range uint64(q.Places) {
				some = some || quorum.Enough(q, entry, bits(all&^mask, q.Places))
			}
			if covered := quorum.Covered(q, bits(mask, q.Places)); covered == some {
				t.Errorf("P10.2: of %v, %b: Covered %v, others Enough %v", q, mask, covered, some)
			}
		}
	}
}

func TestNothingHandedInIsChanged(t *testing.T) {
	q := api.Quorum{Places: 5, Write: 3, Ack: 2}
	whole := []bool{true, false, true, false, true, false, true, false, true}
	for n := range len(whole) {
		for entry := range uint64(6) {
			quorum.Enough(q, entry, whole[:n])
		}
		quorum.Covered(q, whole[:n])
	}
	if !slices.Equal(whole, []bool{true, false, true, false, true, false, true, false, true}) {
		t.Errorf("R6: %v", whole)
	}
}

func TestAnswersAreNewMemory(t *testing.T) {
	q := api.Quorum{Places: 5, Write: 3, Ack: 2}
	l := quorum.Set(q, 4)
	other := quorum.Set(q, 4)
	l = l[:cap(l)]
	for i := range l {
		l[i] = 99
	}
	if again := quorum.Set(q, 4); !slices.Equal(other, []int{4, 0, 1}) || !slices.Equal(again, []int{4, 0, 1}) {
		t.Errorf("R6: written over one Set, others are %v and %v", other, again)
	}
}

// What was asked ahead is of no matter.
func TestAnswersHangOnArgumentsAlone(t *testing.T) {
	for range 2 {
		for _, q := range right() {
			quorum.Check(api.Quorum{Places: 9})
			quorum.Set(q, 3)
			said := bits(1<<q.Places-1, q.Places)
			if !quorum.Check(q) || !quorum.Enough(q, 5, said) || !quorum.Covered(q, said) {
				t.Fatalf("R8: of %v", q)
			}
		}
	}
}
