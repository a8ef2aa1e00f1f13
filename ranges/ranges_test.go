package ranges_test

import (
	"math"
	"math/rand"
	"slices"
	"testing"

	"mailcoach/api"
	"mailcoach/ranges"
)

// top: the greatest number there is; no range has it, as none can end behind it.
const top = math.MaxUint64

// width: how many numbers the small worlds have.
const width = 7

// bases: where the small worlds begin: at the least numbers, about the middle, and so that the last world's numbers end right below top.
var bases = []uint64{0, 1, 1<<63 - 3, top - width}

// set is some numbers of a small world: its bit i stands for the number base + i.
type set uint

// list: the right ranges of a set's numbers, found number by number.
func (s set) list(base uint64) []api.Range {
	var l []api.Range
	for i := range uint64(width) {
		if s>>i&1 == 0 {
			continue
		}
		if i > 0 && s>>(i-1)&1 == 1 {
			l[len(l)-1].Hi++
		} else {
			l = append(l, api.Range{Lo: base + i, Hi: base + i + 1})
		}
	}
	return l
}

// of: the set of a range's numbers.
func of(base uint64, r api.Range) set {
	var s set
	for i := range uint64(width) {
		if r.Lo <= base+i && base+i < r.Hi {
			s |= 1 << i
		}
	}
	return s
}

// sets: all sets of a small world.
func sets() []set {
	var l []set
	for s := range set(1) << width {
		l = append(l, s)
	}
	return l
}

// spans: all ranges with both ends in a small world or right behind it, those without a number among them.
func spans(base uint64) []api.Range {
	var l []api.Range
	for lo := range uint64(width + 1) {
		for hi := range uint64(width + 1) {
			l = append(l, api.Range{Lo: base + lo, Hi: base + hi})
		}
	}
	return l
}

// roomy: l in memory with spare room behind and with other ranges around it, and the whole of that memory.
func roomy(l []api.Range) (part, whole []api.Range) {
	mark := api.Range{Lo: 77, Hi: 7}
	whole = slices.Concat([]api.Range{mark}, l, []api.Range{mark, mark, mark, mark})
	return whole[1 : 1+len(l)], whole
}

// scribble: over an answer and the spare room behind it.
func scribble(l []api.Range) {
	l = l[:cap(l)]
	for i := range l {
		l[i] = api.Range{Lo: 99, Hi: 9}
	}
}

func TestExamples(t *testing.T) {
	l := ranges.Add([]api.Range{{Lo: 1, Hi: 3}, {Lo: 5, Hi: 6}}, api.Range{Lo: 3, Hi: 5})
	if !slices.Equal(l, []api.Range{{Lo: 1, Hi: 6}}) {
		t.Errorf("P3.2: Add of 1..3 and 5..6, and 3..5: %v", l)
	}
	if got := ranges.Remove(l, api.Range{Lo: 2, Hi: 4}); !slices.Equal(got, []api.Range{{Lo: 1, Hi: 2}, {Lo: 4, Hi: 6}}) {
		t.Errorf("P3.2: Remove of 1..6 and 2..4: %v", got)
	}
	if got := ranges.Gap(l, 3); got != 6 {
		t.Errorf("P3.2: Gap of 1..6 and 3: %d", got)
	}
	if got := ranges.Gap(l, 7); got != 7 {
		t.Errorf("P3.2: Gap of 1..6 and 7: %d", got)
	}
}

func TestCheck(t *testing.T) {
	for _, c := range []struct {
		name string
		l    []api.Range
		want bool
	}{
		{"nil", nil, true},
		{"none", []api.Range{}, true},
		{"one number", []api.Range{{Lo: 0, Hi: 1}}, true},
		{"the greatest number that a range can have", []api.Range{{Lo: top - 1, Hi: top}}, true},
		{"all numbers that ranges can have", []api.Range{{Lo: 0, Hi: top}}, true},
		{"two with a number between them", []api.Range{{Lo: 1, Hi: 2}, {Lo: 3, Hi: 4}}, true},
		{"two at either end", []api.Range{{Lo: 0, Hi: 1}, {Lo: top - 1, Hi: top}}, true},
		{"no number", []api.Range{{Lo: 0, Hi: 0}}, false},
		{"no number, elsewhere", []api.Range{{Lo: 5, Hi: 5}}, false},
		{"no number, at the top", []api.Range{{Lo: top, Hi: top}}, false},
		{"ends the wrong way round", []api.Range{{Lo: 2, Hi: 1}}, false},
		{"from the top on to 0", []api.Range{{Lo: top, Hi: 0}}, false},
		{"two side by side", []api.Range{{Lo: 1, Hi: 2}, {Lo: 2, Hi: 3}}, false},
		{"two that share a number", []api.Range{{Lo: 1, Hi: 3}, {Lo: 2, Hi: 4}}, false},
		{"the same twice", []api.Range{{Lo: 1, Hi: 3}, {Lo: 1, Hi: 3}}, false},
		{"one in the other", []api.Range{{Lo: 1, Hi: 9}, {Lo: 3, Hi: 4}}, false},
		{"two that fall", []api.Range{{Lo: 3, Hi: 4}, {Lo: 1, Hi: 2}}, false},
		{"the first without a number", []api.Range{{Lo: 1, Hi: 1}, {Lo: 3, Hi: 4}}, false},
		{"the last without a number", []api.Range{{Lo: 1, Hi: 2}, {Lo: 3, Hi: 4}, {Lo: 6, Hi: 6}}, false},
		{"the last of three side by side with the second", []api.Range{{Lo: 1, Hi: 2}, {Lo: 3, Hi: 4}, {Lo: 4, Hi: 5}}, false},
		{"the last of three ahead of the second alone", []api.Range{{Lo: 1, Hi: 2}, {Lo: 6, Hi: 7}, {Lo: 4, Hi: 5}}, false},
	} {
		if got := ranges.Check(c.l); got != c.want {
			t.Errorf("P3.1: Check of %s: %v", c.name, got)
		}
	}
}

// Ranges are right if, and only if, they are those of their own numbers.
func TestCheckOfAllShortLists(t *testing.T) {
	for _, base := range bases {
		some := spans(base)
		for _, a := range some {
			holdCheck(t, base, a)
			for _, b := range some {
				holdCheck(t, base, a, b)
			}
		}
	}
	few := spans(0)[:5*(width+1)]
	for _, a := range few {
		for _, b := range few {
			for _, c := range few {
				holdCheck(t, 0, a, b, c)
			}
		}
	}
}

// holdCheck: Check of a list, against what its numbers say.
func holdCheck(t *testing.T, base uint64, l ...api.Range) {
	var s set
	for _, r := range l {
		s |= of(base, r)
	}
	if got, want := ranges.Check(l), slices.Equal(l, s.list(base)); got != want {
		t.Fatalf("P3.1: Check of %v: %v", l, got)
	}
}

func TestHasCountAndGapOfAllSmallSets(t *testing.T) {
	for _, base := range bases {
		for _, s := range sets() {
			l := s.list(base)
			want := uint64(0)
			for i := range uint64(width + 1) {
				in := s>>i&1 == 1
				if got := ranges.Has(l, base+i); got != in {
					t.Fatalf("P3.1: Has of %v and %d: %v", l, base+i, got)
				}
				if in {
					want++
				}
				gap := i
				for s>>gap&1 == 1 {
					gap++
				}
				if got := ranges.Gap(l, base+i); got != base+gap {
					t.Fatalf("P3.2: Gap of %v and %d: %d, want %d", l, base+i, got, base+gap)
				}
			}
			if got := ranges.Count(l); got != want {
				t.Fatalf("P3.1: Count of %v: %d, want %d", l, got, want)
			}
		}
	}
}

func TestAddAndRemoveOfAllSmallSets(t *testing.T) {
	for _, base := range bases {
		for _, s := range sets() {
			l := s.list(base)
			for _, r := range spans(base) {
				if got, want := ranges.Add(l, r), (s | of(base, r)).list(base); !slices.Equal(got, want) {
					t.Fatalf("P3.2: Add of %v and %v: %v, want %v", l, r, got, want)
				}
				if got, want := ranges.Remove(l, r), (s &^ of(base, r)).list(base); !slices.Equal(got, want) {
					t.Fatalf("P3.2: Remove of %v and %v: %v, want %v", l, r, got, want)
				}
			}
		}
	}
}

func TestJoinOfAllSmallSets(t *testing.T) {
	for _, base := range bases {
		for _, a := range sets() {
			for _, b := range sets() {
				got, want := ranges.Join(a.list(base), b.list(base)), (a | b).list(base)
				if !slices.Equal(got, want) {
					t.Fatalf("P3.2: Join of %v and %v: %v, want %v", a.list(base), b.list(base), got, want)
				}
			}
		}
	}
}

func TestNoRanges(t *testing.T) {
	r := api.Range{Lo: 3, Hi: 5}
	for _, l := range [][]api.Range{nil, {}} {
		if ranges.Has(l, 0) || ranges.Has(l, top) || ranges.Count(l) != 0 || ranges.Gap(l, 0) != 0 || ranges.Gap(l, 9) != 9 || ranges.Gap(l, top) != top {
			t.Error("P3.1, P3.2: no ranges have a number")
		}
		if got := ranges.Add(l, r); !slices.Equal(got, []api.Range{r}) {
			t.Errorf("P3.2: Add of none and 3..5: %v", got)
		}
		if len(ranges.Add(l, api.Range{Lo: 5, Hi: 3})) != 0 || len(ranges.Remove(l, r)) != 0 || len(ranges.Join(l, nil)) != 0 || len(ranges.Join(nil, l)) != 0 {
			t.Error("P3.2: of nothing comes something")
		}
		if got := ranges.Join(l, []api.Range{r}); !slices.Equal(got, []api.Range{r}) {
			t.Errorf("P3.2: Join of none and 3..5: %v", got)
		}
		if got := ranges.Join([]api.Range{r}, l); !slices.Equal(got, []api.Range{r}) {
			t.Errorf("P3.2: Join of 3..5 and none: %v", got)
		}
	}
}

func TestTheTopIsInNone(t *testing.T) {
	all := []api.Range{{Lo: 0, Hi: top}}
	if ranges.Has(all, top) || !ranges.Has(all, top-1) || !ranges.Has(all, 0) {
		t.Error("P3.1: Has of all numbers that ranges can have")
	}
	if got := ranges.Count(all); got != top {
		t.Errorf("P3.1: Count of all numbers that ranges can have: %d", got)
	}
	for _, n := range []uint64{0, 1, 1 << 63, top - 1, top} {
		if got := ranges.Gap(all, n); got != top {
			t.Errorf("P3.2: Gap of all numbers that ranges can have, and %d: %d", n, got)
		}
	}
	if got := ranges.Add(all, api.Range{Lo: top, Hi: top}); !slices.Equal(got, all) {
		t.Errorf("P3.2: Add of no number at the top: %v", got)
	}
	if got := ranges.Remove(all, all[0]); len(got) != 0 {
		t.Errorf("P3.2: Remove of all numbers: %v", got)
	}
	if got, want := ranges.Remove(all, api.Range{Lo: 1, Hi: top - 1}), []api.Range{{Lo: 0, Hi: 1}, {Lo: top - 1, Hi: top}}; !slices.Equal(got, want) {
		t.Errorf("P3.2: Remove of all numbers but the first and the last: %v", got)
	}
	if got := ranges.Add([]api.Range{{Lo: 5, Hi: 9}}, all[0]); !slices.Equal(got, all) {
		t.Errorf("P3.2: Add of all numbers: %v", got)
	}
	if got := ranges.Join(all, []api.Range{{Lo: 4, Hi: 6}, {Lo: top - 1, Hi: top}}); !slices.Equal(got, all) {
		t.Errorf("P3.2: Join of all numbers, and some: %v", got)
	}
}

func TestARangeWithoutANumberChangesNothing(t *testing.T) {
	l := []api.Range{{Lo: 2, Hi: 5}, {Lo: 8, Hi: 9}}
	for _, r := range []api.Range{{}, {Lo: 1, Hi: 1}, {Lo: 3, Hi: 3}, {Lo: 5, Hi: 5}, {Lo: 6, Hi: 6}, {Lo: 9, Hi: 2}, {Lo: 4, Hi: 3}, {Lo: 8, Hi: 5}, {Lo: top, Hi: 0}, {Lo: top, Hi: top}} {
		if got := ranges.Add(l, r); !slices.Equal(got, l) {
			t.Errorf("P3.2: Add of %v: %v", r, got)
		}
		if got := ranges.Remove(l, r); !slices.Equal(got, l) {
			t.Errorf("P3.2: Remove of %v: %v", r, got)
		}
	}
}

// far: up to n right ranges anywhere among all numbers.
func far(random *rand.Rand, n int) []api.Range {
	var ends []uint64
	for range 2 * random.Intn(n+1) {
		ends = append(ends, random.Uint64()>>random.Intn(64))
	}
	slices.Sort(ends)
	ends = slices.Compact(ends)
	var l []api.Range
	for i := 0; i+1 < len(ends); i += 2 {
		l = append(l, api.Range{Lo: ends[i], Hi: ends[i+1]})
	}
	return l
}

// about: the numbers at which lists can change their mind, and those beside them.
func about(lists ...[]api.Range) []uint64 {
	l := []uint64{0, top}
	for _, some := range lists {
		for _, r := range some {
			l = append(l, r.Lo-1, r.Lo, r.Lo+1, r.Hi-1, r.Hi, r.Hi+1)
		}
	}
	return l
}

// in: is n in one of a list's ranges? Each one is asked.
func in(l []api.Range, n uint64) bool {
	return slices.ContainsFunc(l, func(r api.Range) bool { return r.Lo <= n && n < r.Hi })
}

func TestFarNumbers(t *testing.T) {
	random := rand.New(rand.NewSource(1))
	for range 3000 {
		a, b := far(random, 9), far(random, 9)
		r := api.Range{Lo: random.Uint64() >> random.Intn(64), Hi: random.Uint64() >> random.Intn(64)}
		if near := about(a); random.Intn(2) == 0 {
			r.Lo, r.Hi = near[random.Intn(len(near))], near[random.Intn(len(near))]
		}
		one := []api.Range{r}
		added, removed, joined := ranges.Add(a, r), ranges.Remove(a, r), ranges.Join(a, b)
		for _, l := range [][]api.Range{a, added, removed, joined} {
			if !ranges.Check(l) {
				t.Fatalf("P3.1, P3.2: of %v, %v and %v: %v isn't right", a, b, r, l)
			}
		}
		for _, n := range about(a, b, one) {
			if got := ranges.Has(a, n); got != in(a, n) {
				t.Fatalf("P3.1: Has of %v and %d: %v", a, n, got)
			}
			if got := ranges.Gap(a, n); got < n || in(a, got) || got > n && (!in(a, n) || !in(a, got-1)) {
				t.Fatalf("P3.2: Gap of %v and %d: %d", a, n, got)
			}
			if in(added, n) != (in(a, n) || in(one, n)) {
				t.Fatalf("P3.2: Add of %v and %v: %v: of the number %d", a, r, added, n)
			}
			if in(removed, n) != (in(a, n) && !in(one, n)) {
				t.Fatalf("P3.2: Remove of %v and %v: %v: of the number %d", a, r, removed, n)
			}
			if in(joined, n) != (in(a, n) || in(b, n)) {
				t.Fatalf("P3.2: Join of %v and %v: %v: of the number %d", a, b, joined, n)
			}
		}
		if got := ranges.Count(joined) + ranges.Count(meet(a, b)); got != ranges.Count(a)+ranges.Count(b) {
			t.Fatalf("P3.1: Count of %v and %v", a, b)
		}
	}
}

// meet: what is in both lists, by taking from one what the other hasn't.
func meet(a, b []api.Range) []api.Range {
	only := a
	for _, r := range b {
		only = ranges.Remove(only, r)
	}
	for _, r := range only {
		a = ranges.Remove(a, r)
	}
	return a
}

// many: n ranges of one number each, two behind one another, from a number on.
func many(n int, from uint64) []api.Range {
	l := make([]api.Range, n)
	for i := range l {
		l[i] = api.Range{Lo: from + 4*uint64(i), Hi: from + 4*uint64(i) + 1}
	}
	return l
}

func TestManyRanges(t *testing.T) {
	const n = api.MaxRanges
	a, b := many(n, 0), many(n, 1)
	if !ranges.Check(a) || ranges.Count(a) != n || !ranges.Has(a, 4*n-4) || ranges.Has(a, 4*n-3) || ranges.Gap(a, 4*n-4) != 4*n-3 {
		t.Error("P3.1, P3.2: of many ranges")
	}
	both := ranges.Join(a, b)
	if len(both) != n || both[0] != (api.Range{Lo: 0, Hi: 2}) || both[n-1] != (api.Range{Lo: 4*n - 4, Hi: 4*n - 2}) || !ranges.Check(both) {
		t.Error("P3.2: Join of many ranges, each beside one of the others")
	}
	if got := ranges.Join(a, many(n, 2)); len(got) != 2*n || !ranges.Check(got) {
		t.Error("P3.2: Join of many ranges, each apart from the others")
	}
	if got := ranges.Add(a, api.Range{Lo: 1, Hi: 4*n - 4}); !slices.Equal(got, []api.Range{{Lo: 0, Hi: 4*n - 3}}) {
		t.Error("P3.2: Add of what lies between many ranges")
	}
	if got := ranges.Remove(a, api.Range{Lo: 1, Hi: 4*n - 4}); !slices.Equal(got, []api.Range{a[0], a[n-1]}) {
		t.Error("P3.2: Remove of all but the first and the last of many ranges")
	}
}

// lonely: an answer shares no memory with what was handed in, and that was left as it was.
func lonely(t *testing.T, what string, l []api.Range, call func(l []api.Range) []api.Range) {
	t.Helper()
	part, whole := roomy(l)
	before := slices.Clone(whole)
	answer := call(part)
	if !slices.Equal(whole, before) {
		t.Errorf("R6: %s of %v changed what it was handed, or room around it", what, l)
	}
	scribble(answer)
	if !slices.Equal(whole, before) {
		t.Errorf("R6: %s of %v answers memory that it was handed", what, l)
	}
	again := call(part)
	scribble(part)
	if later := call(slices.Clone(before[1 : 1+len(l)])); !slices.Equal(again, later) {
		t.Errorf("R6: %s of %v: its answer goes with what it was handed", what, l)
	}
}

func TestWhatIsHandedInIsLeftAlone(t *testing.T) {
	other := []api.Range{{Lo: 3, Hi: 4}, {Lo: 7, Hi: 12}}
	for _, l := range [][]api.Range{{}, {{Lo: 1, Hi: 3}}, {{Lo: 1, Hi: 3}, {Lo: 5, Hi: 6}}, {{Lo: 1, Hi: 3}, {Lo: 5, Hi: 6}, {Lo: 20, Hi: 30}}} {
		for _, r := range append(spans(0), api.Range{Lo: 18, Hi: 22}, api.Range{Lo: 30, Hi: 31}, api.Range{Lo: 40, Hi: 41}) {
			lonely(t, "Add", l, func(l []api.Range) []api.Range { return ranges.Add(l, r) })
			lonely(t, "Remove", l, func(l []api.Range) []api.Range { return ranges.Remove(l, r) })
		}
		for _, b := range [][]api.Range{nil, {}, l, other} {
			lonely(t, "Join, the first,", l, func(l []api.Range) []api.Range { return ranges.Join(l, b) })
			lonely(t, "Join, the second,", l, func(l []api.Range) []api.Range { return ranges.Join(b, l) })
		}
		lonely(t, "Join with itself", l, func(l []api.Range) []api.Range { return ranges.Join(l, l) })
		lonely(t, "Check, Has, Count and Gap", l, func(l []api.Range) []api.Range {
			ranges.Check(l)
			ranges.Has(l, 2)
			ranges.Count(l)
			ranges.Gap(l, 2)
			return nil
		})
	}
}

func TestNothingIsKept(t *testing.T) {
	a, b, r := []api.Range{{Lo: 1, Hi: 3}, {Lo: 5, Hi: 6}}, []api.Range{{Lo: 4, Hi: 5}}, api.Range{Lo: 2, Hi: 4}
	added, removed, joined := ranges.Add(a, r), ranges.Remove(a, r), ranges.Join(a, b)
	ranges.Add(b, r)
	ranges.Remove(b, r)
	ranges.Join(b, b)
	if !slices.Equal(ranges.Add(a, r), added) || !slices.Equal(ranges.Remove(a, r), removed) || !slices.Equal(ranges.Join(a, b), joined) {
		t.Error("R8: the same arguments were answered otherwise behind other calls")
	}
	part, _ := roomy(a)
	if !slices.Equal(ranges.Add(part, r), added) || !slices.Equal(ranges.Remove(part, r), removed) || !slices.Equal(ranges.Join(part, b), joined) {
		t.Error("R8: the answer hangs on spare room")
	}
}
