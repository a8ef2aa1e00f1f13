package ledgers_test

import (
	"math/big"
	"math/rand"
	"slices"
	"strconv"
	"testing"

	"mailcoach/api"
	"mailcoach/ledgers"
)

// bases: where the small worlds' ledgers begin: at the least number, about the middle, and so that the last one is the greatest that there is.
var bases = []uint64{1, 1<<63 - 2, top - 3}

// small: all right ledgers of a small world, numbered base, base + 1 and base + 3, with up to two entries each.
func small(base uint64) [][]api.Ledger {
	all := [][]api.Ledger{nil}
	for _, id := range []uint64{base, base + 1, base + 3} {
		for _, l := range slices.Clone(all) {
			for count := range uint64(3) {
				all = append(all, append(slices.Clone(l), closed(id, count)))
			}
		}
	}
	for _, l := range slices.Clone(all) {
		for _, id := range []uint64{base, base + 1, base + 3} {
			if len(l) == 0 || id > l[len(l)-1].Id {
				all = append(all, append(slices.Clone(l), unclosed(id)))
			}
		}
	}
	return all
}

// around: all places in and about a small world; where numbers go round, those at the other end are among them.
func around(base uint64) []api.Pos {
	var l []api.Pos
	for i := range uint64(6) {
		for _, entry := range []uint64{0, 1, 2, 3, top} {
			l = append(l, at(base-1+i, entry))
		}
	}
	return l
}

func TestSmallWorldsAreRight(t *testing.T) {
	for _, base := range bases {
		all := small(base)
		// Each number is there with one of three counts, or isn't: 4 * 4 * 4; with an open one behind 1, 4 or 16 of these.
		if len(all) != 85 {
			t.Fatalf("%d lists", len(all))
		}
		for _, l := range all {
			if !ledgers.Check(l) {
				t.Errorf("P13.1: %s aren't right", text(l))
			}
		}
	}
}

func TestPlacesOfAllSmallWorlds(t *testing.T) {
	for _, base := range bases {
		all := around(base)
		for _, l := range small(base) {
			for open := range uint64(3) {
				for _, p := range all {
					holdPlace(t, l, open, p)
					for _, b := range all {
						if got, want := ledgers.Between(l, open, p, b), plainBetween(l, open, p, b); got != want {
							t.Fatalf("P13.2: Between of %s, open %d, %v and %v: %d, not %d", text(l), open, p, b, got, want)
						}
					}
				}
			}
		}
	}
}

// holdPlace: what is told of one place of small ledgers.
func holdPlace(t *testing.T, l []api.Ledger, open uint64, p api.Pos) {
	t.Helper()
	want, wantOk := plainNext(l, open, p)
	if got, ok := ledgers.Next(l, open, p); got != want || ok != wantOk {
		t.Fatalf("P13.2: Next of %s, open %d, %v: %v, %v, not %v, %v", text(l), open, p, got, ok, want, wantOk)
	}
	if got := ledgers.Has(l, open, p); got != slices.Contains(placed(l, open), p) {
		t.Fatalf("P13.2: Has of %s, open %d, %v: %v", text(l), open, p, got)
	}
	if got, want := ledgers.Trim(l, p), plainTrim(l, p); !slices.Equal(got, want) {
		t.Fatalf("P13.3: Trim of %s and %v: %s, not %s", text(l), p, text(got), text(want))
	}
}

func TestOpenAndCloseOfAllSmallWorlds(t *testing.T) {
	for _, base := range bases {
		for _, l := range small(base) {
			for _, n := range []uint64{0, 1, 2, 3, base - 1, base, base + 1, base + 2, base + 3, base + 4, 1<<20 - 1, 1 << 20, 1<<20 + 1, 1 << 21, 1 << 63, top - 1, top} {
				holdChange(t, l, n)
			}
		}
	}
}

// holdChange: Open and Close of ledgers, with a number, against what the document says.
func holdChange(t *testing.T, l []api.Ledger, n uint64) {
	t.Helper()
	got, e := ledgers.Open(l, n)
	if want, wantE := plainOpen(l, n); !slices.Equal(got, want) || e != wantE {
		t.Fatalf("P13.1: Open of %s and %d: %s, error %d, not %s, %d", text(l), n, text(got), e, text(want), wantE)
	}
	if e == api.OK && !ledgers.Check(got) {
		t.Fatalf("P13.1: Open of %s and %d: %s aren't right", text(l), n, text(got))
	}
	got, e = ledgers.Close(l, n)
	if want, wantE := plainClose(l, n); !slices.Equal(got, want) || e != wantE {
		t.Fatalf("P13.1: Close of %s and %d: %s, error %d, not %s, %d", text(l), n, text(got), e, text(want), wantE)
	}
	if e == api.OK && !ledgers.Check(got) {
		t.Fatalf("P13.1: Close of %s and %d: %s aren't right", text(l), n, text(got))
	}
}

// oddLedgers: ledgers as they may be and as they may not, one by one.
func oddLedgers() []api.Ledger {
	var l []api.Ledger
	for _, id := range []uint64{0, 1, 2, 3, top} {
		for _, count := range []uint64{0, 1, 1 << 20, 1<<20 + 1, top} {
			l = append(l, api.Ledger{Id: id, Count: count}, closed(id, count))
		}
	}
	return l
}

// Those that are right are just those that Open and Close come to, from none on.
func TestCheckOfAllShortLists(t *testing.T) {
	var right [3][]string
	grow := [][]api.Ledger{nil}
	for n := range right {
		var next [][]api.Ledger
		for _, l := range grow {
			for _, id := range []uint64{1, 2, 3, top} {
				if len(l) > 0 && id <= l[len(l)-1].Id {
					continue
				}
				right[n] = append(right[n], text(append(slices.Clone(l), unclosed(id))))
				for _, count := range []uint64{0, 1, 1 << 20} {
					next = append(next, append(slices.Clone(l), closed(id, count)))
					right[n] = append(right[n], text(next[len(next)-1]))
				}
			}
		}
		grow = next
	}
	odd := oddLedgers()
	hold := func(l ...api.Ledger) bool {
		return ledgers.Check(l) == slices.Contains(right[len(l)-1], text(l))
	}
	for _, a := range odd {
		if !hold(a) {
			t.Fatalf("P13.1: Check of %s", text([]api.Ledger{a}))
		}
		for _, b := range odd {
			if !hold(a, b) {
				t.Fatalf("P13.1: Check of %s", text([]api.Ledger{a, b}))
			}
			// A third one is laid behind all that have something right, so that it alone decides.
			if !ledgers.Check([]api.Ledger{a}) {
				continue
			}
			for _, c := range odd {
				if !hold(a, b, c) {
					t.Fatalf("P13.1: Check of %s", text([]api.Ledger{a, b, c}))
				}
			}
		}
	}
}

// far: right ledgers anywhere among all numbers, up to 64.
func far(random *rand.Rand) []api.Ledger {
	var ids []uint64
	for range random.Intn(65) {
		ids = append(ids, random.Uint64()>>random.Intn(64))
	}
	slices.Sort(ids)
	ids = slices.Compact(ids)
	if len(ids) > 0 && ids[0] == 0 {
		ids = ids[1:]
	}
	var l []api.Ledger
	for _, id := range ids {
		l = append(l, closed(id, uint64(random.Intn(1<<20+1))>>random.Intn(21)))
	}
	if len(l) > 0 && random.Intn(2) == 0 {
		l[len(l)-1] = unclosed(l[len(l)-1].Id)
	}
	return l
}

// near: places at which something may change, and those beside them; some anywhere.
func near(random *rand.Rand, l []api.Ledger, open uint64) []api.Pos {
	some := []api.Pos{{}, at(0, top), at(top, 0), at(top, top), at(random.Uint64(), random.Uint64())}
	for range 8 {
		if len(l) == 0 {
			break
		}
		x := l[random.Intn(len(l))]
		for _, id := range []uint64{x.Id - 1, x.Id, x.Id + 1} {
			some = append(some, at(id, 0), at(id, x.Count-1), at(id, x.Count), at(id, x.Count+1), at(id, open-1), at(id, open), at(id, random.Uint64()>>random.Intn(64)))
		}
	}
	return some
}

func TestFarLedgers(t *testing.T) {
	random := rand.New(rand.NewSource(13))
	for range 400 {
		l := far(random)
		if !ledgers.Check(l) {
			t.Fatalf("P13.1: %s aren't right", text(l))
		}
		open := []uint64{0, 1, 1 << 20, 1<<20 + 1, top - 1, top, random.Uint64() >> random.Intn(64)}[random.Intn(7)]
		some := near(random, l, open)
		for _, p := range some {
			holdFar(t, l, open, p)
			b := some[random.Intn(len(some))]
			if got, want := ledgers.Between(l, open, p, b), lineBetween(l, open, p, b); got != want {
				t.Fatalf("P13.2: Between of %s, open %d, %v and %v: %d, not %d", text(l), open, p, b, got, want)
			}
			if got, want := ledgers.Order(p, b), spot(p).Cmp(spot(b)); got != want {
				t.Fatalf("P13.2: Order of %v and %v: %d, not %d", p, b, got, want)
			}
			if got, want := ledgers.Behind(p), place(new(big.Int).Add(spot(p), big.NewInt(1))); got != want {
				t.Fatalf("P13.2: Behind of %v: %v, not %v", p, got, want)
			}
			holdChange(t, l, b.Ledger)
			holdChange(t, l, b.Entry)
		}
	}
}

// holdFar: what is told of one place of any ledgers, by the line of all places.
func holdFar(t *testing.T, l []api.Ledger, open uint64, p api.Pos) {
	t.Helper()
	want, wantOk := lineNext(l, open, p)
	if got, ok := ledgers.Next(l, open, p); got != want || ok != wantOk {
		t.Fatalf("P13.2: Next of %s, open %d, %v: %v, %v, not %v, %v", text(l), open, p, got, ok, want, wantOk)
	}
	if got := ledgers.Has(l, open, p); got != (wantOk && want == p) {
		t.Fatalf("P13.2: Has of %s, open %d, %v: %v", text(l), open, p, got)
	}
	if got, want := ledgers.Trim(l, p), lineTrim(l, p); !slices.Equal(got, want) {
		t.Fatalf("P13.3: Trim of %s and %v: %s, not %s", text(l), p, text(got), text(want))
	}
}

// A topic's ledgers from none on: opened, closed and trimmed, in any order, also where that is refused.
func TestLives(t *testing.T) {
	random := rand.New(rand.NewSource(31))
	for life := range 60 {
		var l []api.Ledger
		full, trims := 0, []int{2, 5, 1000}[life%3]
		for range 600 {
			before := text(l)
			l = step(t, random, l, trims)
			if !ledgers.Check(l) {
				t.Fatalf("P13.1: %s behind %s aren't right", text(l), before)
			}
			if len(l) == api.MaxLedgers {
				full++
			}
			p := at(uint64(random.Intn(200)), uint64(random.Intn(5)))
			holdFar(t, l, uint64(random.Intn(4)), p)
		}
		if trims == 1000 && full == 0 {
			t.Errorf("the life %d never came to 64 ledgers", life)
		}
	}
}

// step: the ledgers behind one more call, which is held against the document; one in so many is a Trim.
func step(t *testing.T, random *rand.Rand, l []api.Ledger, trims int) []api.Ledger {
	t.Helper()
	n := uint64(random.Intn(4))
	if random.Intn(trims) == 0 {
		return ledgers.Trim(l, at(uint64(random.Intn(200)), n))
	}
	if random.Intn(9) == 0 {
		n = 1<<20 + n - 1
	}
	holdChange(t, l, n)
	if out, e := ledgers.Close(l, n); e == api.OK {
		return out
	}
	if len(l) > 0 {
		n += l[len(l)-1].Id
	}
	holdChange(t, l, n)
	if out, e := ledgers.Open(l, n); e == api.OK {
		return out
	}
	return l
}

// Places tell one another what they must, whatever the ledgers are.
func TestPlacesAgree(t *testing.T) {
	random := rand.New(rand.NewSource(7))
	for range 300 {
		l := far(random)
		open := uint64(random.Intn(1<<20 + 1))
		some := near(random, l, open)
		slices.SortFunc(some, ledgers.Order)
		if !slices.IsSortedFunc(some, func(a, b api.Pos) int { return spot(a).Cmp(spot(b)) }) {
			t.Fatal("P13.2: by Order they don't rise")
		}
		all := ledgers.Between(l, open, api.Pos{}, at(top, top))
		for _, p := range some {
			what := text(l) + ", open " + strconv.FormatUint(open, 10)
			if ledgers.Between(l, open, api.Pos{}, p)+ledgers.Between(l, open, p, at(top, top)) != all {
				t.Fatalf("P13.2: of %s: ahead of %v and from there on there aren't all", what, p)
			}
			if one := ledgers.Between(l, open, p, ledgers.Behind(p)); (one == 1) != ledgers.Has(l, open, p) && p != at(top, top) {
				t.Fatalf("P13.2: of %s: at %v there are %d", what, p, one)
			}
			next, ok := ledgers.Next(l, open, p)
			if ok && (ledgers.Order(next, p) < 0 || ledgers.Between(l, open, p, next) != 0 || !ledgers.Has(l, open, next)) {
				t.Fatalf("P13.2: of %s: Next of %v: %v", what, p, next)
			}
			if !ok && ledgers.Between(l, open, p, at(top, top)) != 0 {
				t.Fatalf("P13.2: of %s: no Next of %v", what, p)
			}
			if short := ledgers.Trim(l, p); ledgers.Between(short, open, p, at(top, top)) != ledgers.Between(l, open, p, at(top, top)) {
				t.Fatalf("P13.3: of %s: Trim of %v takes what is behind it", what, p)
			}
		}
	}
}
