package bundle_test

import (
	"math/rand"
	"slices"
	"testing"

	"mailcoach/api"
	"mailcoach/bundle"
)

// equal: a map and a plain one, by All, and by Of each hash that is asked.
func equal(t *testing.T, script []step, m *bundle.Map, p plain, asked ...int) {
	t.Helper()
	if got, want := m.All(), p.all(); !slices.Equal(got, want) {
		t.Fatalf("P16.1: behind %s: All: %v, want %v", names(script), got, want)
	}
	for _, hash := range asked {
		lo, hi, ok := m.Of(hash)
		if wantLo, wantHi, wantOk := p.of(hash); lo != wantLo || hi != wantHi || ok != wantOk {
			t.Fatalf("P16.1: behind %s: Of(%d): %d, %d, %v, want %d, %d, %v", names(script), hash, lo, hi, ok, wantLo, wantHi, wantOk)
		}
	}
}

func TestAllShortScripts(t *testing.T) {
	var steps []step
	for _, at := range []int{0, 1, 2, 3, 65535, 65536} {
		steps = append(steps, step{false, at}, step{true, at})
	}
	const length = 5
	var script [length]step
	for n := range 12 * 12 * 12 * 12 * 12 { // twelve steps at five places
		for i := range script {
			script[i] = steps[n%len(steps)]
			n /= len(steps)
		}
		m, p := bundle.New(), fresh()
		for i, s := range script {
			if e, want := s.of(m), s.by(p); e != want {
				t.Fatalf("P16.1: behind %s: error %d, want %d", names(script[:i+1]), e, want)
			}
		}
		equal(t, script[:], m, p, -1, 0, 1, 2, 65535, 65536)
	}
}

// long: a script of steps, of few numbers or of many, with few joins or with many.
func long(random *rand.Rand, steps int) []step {
	few, joins := 2+random.Intn(40), random.Intn(60)
	pool := []int{-1, 0, 1, 65535, 65536}
	for range few {
		pool = append(pool, random.Intn(65536))
	}
	var script []step
	for range steps {
		at := pool[random.Intn(len(pool))]
		if random.Intn(20) == 0 {
			at = random.Intn(65540) - 2
		}
		script = append(script, step{random.Intn(100) < joins, at})
	}
	return script
}

func TestLongScripts(t *testing.T) {
	random := rand.New(rand.NewSource(1))
	seen := map[api.Errno]int{}
	for range 300 {
		script := long(random, 200)
		m, p := bundle.New(), fresh()
		for i, s := range script {
			before := m.All()
			e, want := s.of(m), s.by(p)
			if e != want {
				t.Fatalf("P16.1: behind %s: error %d, want %d", names(script[:i+1]), e, want)
			}
			seen[e]++
			if e != api.OK && !slices.Equal(m.All(), before) {
				t.Fatalf("R4: behind %s: All: %v, not %v", names(script[:i+1]), m.All(), before)
			}
			equal(t, script[:i+1], m, p, s.at-1, s.at, s.at+1, random.Intn(65536))
		}
		equal(t, script, m, p, p.all()...)
	}
	for _, e := range []api.Errno{api.OK, api.ErrRange, api.ErrExists, api.ErrMany, api.ErrNone} {
		if seen[e] < 500 {
			t.Errorf("the error %d came %d times", e, seen[e])
		}
	}
}

// Whatever was split and joined: a map tells all that it has by where its bundles begin, in whatever order they came.
func TestMapsOfTheSameBundlesAreTheSame(t *testing.T) {
	random := rand.New(rand.NewSource(2))
	for range 300 {
		m := bundle.New()
		for _, s := range long(random, 100) {
			s.of(m)
		}
		want := m.All()
		other := bundle.New()
		for _, i := range random.Perm(len(want)) {
			if want[i] > 0 {
				splits(t, other, want[i], api.OK)
			}
		}
		on := long(random, 50)
		for i, s := range on {
			if e, want := s.of(m), s.of(other); e != want || !slices.Equal(m.All(), other.All()) {
				t.Fatalf("R8: behind %v, %s: error %d, and of a new one %d", want, names(on[:i+1]), e, want)
			}
		}
	}
}

// R8: a copy of a map goes its own way, whatever is done to either.
func TestLongScriptsOfCopies(t *testing.T) {
	random := rand.New(rand.NewSource(3))
	for range 300 {
		m, p, q := bundle.New(), fresh(), fresh()
		for _, s := range long(random, 1+random.Intn(100)) {
			s.of(m)
			s.by(p)
			s.by(q)
		}
		other, left := *m, *m
		before, a, b := m.All(), long(random, 40), long(random, 40)
		for i := range a {
			if e, want := a[i].of(m), a[i].by(p); e != want {
				t.Fatalf("R8: of what was copied, behind %s: error %d, want %d", names(a[:i+1]), e, want)
			}
			if e, want := b[i].of(&other), b[i].by(q); e != want {
				t.Fatalf("R8: of a copy, behind %s: error %d, want %d", names(b[:i+1]), e, want)
			}
		}
		equal(t, a, m, p, 0, 65535)
		equal(t, b, &other, q, 0, 65535)
		if !slices.Equal(left.All(), before) {
			t.Fatalf("R8: a copy that was left as it was: %v, not %v", left.All(), before)
		}
	}
}
