package dedup_test

import (
	"bytes"
	"math/rand"
	"slices"
	"strconv"
	"testing"

	"mailcoach/api"
	"mailcoach/dedup"
)

// equal: a table and a plain one, by whatever can be asked, also of a name.
func equal(t *testing.T, script []step, x *dedup.Table, p plain, name string) {
	t.Helper()
	want := p.all()
	if got := x.All(); !slices.Equal(got, want) {
		t.Fatalf("P15.1: behind %s: All:%s, want%s", names(script), told(got), told(want))
	}
	if b := written(x); !bytes.Equal(b, plainBytes(want)) {
		t.Fatalf("P15.2: behind %s: Write: % x", names(script), b)
	}
	wantLine, wantOk := p.last(name)
	if l, ok := x.Last(name); ok != wantOk || l != wantLine {
		t.Fatalf("P15.1: behind %s: Last(%.20q): %v,%s", names(script), name, ok, told([]api.Line{l}))
	}
}

// play: a script on a table, held against a plain one: its answers, and what it comes to.
func play(t *testing.T, script []step) *dedup.Table {
	t.Helper()
	x, p := dedup.New(), plain{}
	for i, s := range script {
		if e, want := s.of(x), s.by(&p); e != want {
			t.Fatalf("P15.1: behind %s: error %d, want %d", names(script[:i+1]), e, want)
		}
	}
	equal(t, script, x, p, script[0].name)
	return x
}

func TestAllShortScripts(t *testing.T) {
	steps := []step{
		{"Begin", "a", 1, pos(0, 0)}, {"Begin", "a", 2, pos(0, 0)}, {"Begin", "a", 3, pos(0, 0)}, {"Begin", "b", 2, pos(0, 0)}, {"Begin", "a", 0, pos(0, 0)}, {"Begin", "", 1, pos(0, 0)},
		{"Done", "a", 1, pos(1, 2)}, {"Done", "a", 2, pos(1, 1)}, {"Done", "a", 3, pos(0, 0)}, {"Done", "b", 1, pos(2, 0)}, {"Done", "a", 0, pos(3, 3)},
		{"Forget", "", 0, pos(0, 0)},
	}
	const length = 5
	var script [length]step
	for n := range 12 * 12 * 12 * 12 * 12 { // twelve steps at five places
		for i := range script {
			script[i] = steps[n%len(steps)]
			n /= len(steps)
		}
		play(t, script[:])
	}
}

// seq: a number as tests like it: small, near a bound, or any.
func seq(random *rand.Rand, small int) uint64 {
	near := []uint64{1 << 32, 1 << 63, 0}
	switch random.Intn(30) {
	case 0:
		return random.Uint64() >> random.Intn(64)
	case 1:
		return near[random.Intn(len(near))] + uint64(random.Intn(9)) - 4
	default:
		return uint64(random.Intn(small))
	}
}

// long: a script of steps of whatever kind.
func long(random *rand.Rand, steps int) []step {
	var script []step
	senders, forgets := 1+random.Intn(20), random.Intn(6)
	for i := range steps {
		name := "s" + strconv.Itoa(random.Intn(senders))
		switch random.Intn(40) {
		case 0:
			name = ""
		case 1:
			name = string(bytes.Repeat([]byte(name), 1+random.Intn(40)))
		}
		s := step{"Begin", name, seq(random, i/4+3), pos(0, 0)}
		switch n := random.Intn(100); {
		case n < forgets:
			s = step{"Forget", "", 0, pos(0, 0)}
		case n < 50:
			s.call, s.at = "Done", pos(seq(random, 5), seq(random, i+1))
		}
		script = append(script, s)
	}
	return script
}

func TestLongScripts(t *testing.T) {
	random := rand.New(rand.NewSource(1))
	seen := map[api.Errno]int{}
	for range 400 {
		script := long(random, 300)
		x, p := dedup.New(), plain{}
		for i, s := range script {
			before := x.All()
			e, want := s.of(x), s.by(&p)
			if e != want {
				t.Fatalf("P15.1: behind %s: error %d, want %d", names(script[:i+1]), e, want)
			}
			seen[e]++
			if e != api.OK && !slices.Equal(x.All(), before) {
				t.Fatalf("R4: behind %s: All:%s, not%s", names(script[:i+1]), told(x.All()), told(before))
			}
			equal(t, script[:i+1], x, p, s.name)
		}
	}
	for _, e := range []api.Errno{api.OK, api.ErrName, api.ErrRange, api.ErrOld, api.ErrPending, api.ErrMany, api.ErrNone} {
		if seen[e] < 100 {
			t.Errorf("the error %d came %d times", e, seen[e])
		}
	}
}

// What is taken goes on as what Forget leaves: whoever opens a table anew, and who forgets, tell the same.
func TestLongScriptsGoOnBehindTake(t *testing.T) {
	random := rand.New(rand.NewSource(2))
	for range 400 {
		x := play(t, long(random, 1+random.Intn(200)))
		y := taken(t, written(x))
		x.Forget()
		script := long(random, 100)
		for i, s := range script {
			if e, want := s.of(y), s.of(x); e != want {
				t.Fatalf("P15.2: behind Take, %s: error %d, want %d", names(script[:i+1]), e, want)
			}
			if !slices.Equal(x.All(), y.All()) {
				t.Fatalf("P15.2: behind Take, %s: All:%s, want%s", names(script[:i+1]), told(y.All()), told(x.All()))
			}
		}
	}
}

// R8: a copy of a table goes its own way, whatever is done to either.
func TestLongScriptsOfCopies(t *testing.T) {
	random := rand.New(rand.NewSource(3))
	for range 400 {
		x := play(t, long(random, 1+random.Intn(100)))
		y, left := *x, *x
		before, a, b := x.All(), long(random, 40), long(random, 40)
		p, q := plain(x.All()), plain(x.All())
		for i := range a {
			if e, want := a[i].of(x), a[i].by(&p); e != want {
				t.Fatalf("R8: of what was copied, behind %s: error %d, want %d", names(a[:i+1]), e, want)
			}
			if e, want := b[i].of(&y), b[i].by(&q); e != want {
				t.Fatalf("R8: of a copy, behind %s: error %d, want %d", names(b[:i+1]), e, want)
			}
		}
		equal(t, a, x, p, a[0].name)
		equal(t, b, &y, q, b[0].name)
		if !slices.Equal(left.All(), before) {
			t.Fatalf("R8: a copy that was left as it was:%s, not%s", told(left.All()), told(before))
		}
	}
}
