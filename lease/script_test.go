package lease_test

import (
	"math/big"
	"math/rand"
	"slices"
	"strconv"
	"strings"
	"testing"

	"mailcoach/api"
	"mailcoach/lease"
)

// plain is a book by the chapter's words: sessions by their numbers in a map.
type plain struct {
	last uint64
	m    map[uint64]api.Session
}

// end: now and a life, reckoned without a bound, at most 2^64 - 1.
func end(now, life uint64) uint64 {
	sum := new(big.Int).Add(new(big.Int).SetUint64(now), new(big.Int).SetUint64(life))
	if !sum.IsUint64() {
		return 1<<64 - 1
	}
	return sum.Uint64()
}

func (p *plain) open(now, life uint64) (uint64, api.Errno) {
	if life < 1 || life > 1<<40 {
		return 0, api.ErrTime
	}
	if len(p.m) == 16 || p.last == 1<<64-1 {
		return 0, api.ErrMany
	}
	p.last++
	p.m[p.last] = api.Session{Id: p.last, Ends: end(now, life), Life: life}
	return p.last, api.OK
}

func (p *plain) renew(id, now uint64) api.Errno {
	s, ok := p.m[id]
	if !ok {
		return api.ErrNone
	}
	if s.Ends <= now {
		return api.ErrExpired
	}
	if later := end(now, s.Life); later > s.Ends {
		s.Ends = later
		p.m[id] = s
	}
	return api.OK
}

func (p *plain) close(id uint64) api.Errno {
	if _, ok := p.m[id]; !ok {
		return api.ErrNone
	}
	delete(p.m, id)
	return api.OK
}

func (p *plain) expire(now uint64) []uint64 {
	var l []uint64
	for id, s := range p.m {
		if s.Ends <= now {
			l = append(l, id)
			delete(p.m, id)
		}
	}
	slices.Sort(l)
	return l
}

func (p *plain) all() []api.Session {
	var l []api.Session
	for _, s := range p.m {
		l = append(l, s)
	}
	slices.SortFunc(l, func(a, b api.Session) int {
		if a.Id < b.Id {
			return -1
		}
		return 1
	})
	return l
}

// step is one call: its name, and its two numbers.
type step struct {
	name string
	a, b uint64
}

// of: what a book answers to a step.
func (s step) of(b *lease.Book) (uint64, api.Errno, []uint64) {
	switch s.name {
	case "Open":
		id, e := b.Open(s.a, s.b)
		return id, e, nil
	case "Renew":
		return 0, b.Renew(s.a, s.b), nil
	case "Close":
		return 0, b.Close(s.a), nil
	default:
		return 0, api.OK, b.Expire(s.a)
	}
}

// by: what a plain one answers to it.
func (s step) by(p *plain) (uint64, api.Errno, []uint64) {
	switch s.name {
	case "Open":
		id, e := p.open(s.a, s.b)
		return id, e, nil
	case "Renew":
		return 0, p.renew(s.a, s.b), nil
	case "Close":
		return 0, p.close(s.a), nil
	default:
		return 0, api.OK, p.expire(s.a)
	}
}

// names: of a script's last steps.
func names(script []step) string {
	var l []string
	for _, s := range script[max(0, len(script)-8):] {
		l = append(l, s.name+"("+strconv.FormatUint(s.a, 10)+", "+strconv.FormatUint(s.b, 10)+")")
	}
	return strings.Join(l, " ")
}

// play: a script on a book, held against a plain one behind each step.
func play(t *testing.T, last uint64, script []step) *lease.Book {
	t.Helper()
	b, ok := lease.New(last, nil)
	if !ok {
		t.Fatalf("P7.1: New(%d, nil): false", last)
	}
	p := &plain{last, map[uint64]api.Session{}}
	for i, s := range script {
		id, e, l := s.of(b)
		wantId, wantE, wantL := s.by(p)
		if id != wantId || e != wantE || !slices.Equal(l, wantL) {
			t.Fatalf("P7.2: behind %d, %s: %d, error %d, %s; want %d, error %d, %s", last, names(script[:i+1]), id, e, told(l), wantId, wantE, told(wantL))
		}
		if n, all := b.All(); n != p.last || !slices.Equal(all, p.all()) {
			t.Fatalf("P7.1: behind %d, %s: All: %d, %v; want %d, %v", last, names(script[:i+1]), n, all, p.last, p.all())
		}
		for _, id := range []uint64{0, 1, 2, 3, 4, p.last - 1, p.last, p.last + 1, s.a} {
			for _, now := range []uint64{0, 1, 2, 3, 4, 5, s.a, s.b, s.a + s.b} {
				if one, there := p.m[id]; b.Live(id, now) != (there && one.Ends > now) {
					t.Fatalf("P7.2: behind %d, %s: Live(%d, %d): %v", last, names(script[:i+1]), id, now, b.Live(id, now))
				}
			}
		}
	}
	return b
}

func TestAllShortScripts(t *testing.T) {
	steps := []step{
		{"Open", 0, 1}, {"Open", 1, 2}, {"Open", 0, 4}, {"Open", 0, 0},
		{"Renew", 1, 0}, {"Renew", 1, 2}, {"Renew", 2, 1}, {"Close", 1, 0}, {"Close", 2, 0},
		{"Expire", 1, 0}, {"Expire", 2, 0}, {"Expire", 4, 0},
	}
	const length = 5
	var script [length]step
	for n := range 12 * 12 * 12 * 12 * 12 { // twelve steps at five places
		for i := range script {
			script[i] = steps[n%len(steps)]
			n /= len(steps)
		}
		play(t, 0, script[:])
	}
}

// far: a number as tests like it: small, near a bound, or any.
func far(random *rand.Rand, small int) uint64 {
	near := []uint64{1 << 32, api.MaxTime, 1 << 63, 0}
	switch random.Intn(8) {
	case 0:
		return random.Uint64() >> random.Intn(64)
	case 1:
		return near[random.Intn(len(near))] + uint64(random.Intn(9)) - 4
	default:
		return uint64(random.Intn(small))
	}
}

func TestLongScripts(t *testing.T) {
	random := rand.New(rand.NewSource(1))
	for round := range 300 {
		last := uint64(0)
		if round%3 == 0 {
			last = far(random, 9)
		}
		var script []step
		for i := range 200 {
			id, now := last+uint64(random.Intn(i/2+2)), far(random, i+10)
			switch random.Intn(20) {
			case 0, 1:
				script = append(script, step{"Close", id, 0})
			case 2:
				script = append(script, step{"Expire", uint64(random.Intn(i + 1)), 0})
			case 3, 4, 5, 6:
				script = append(script, step{"Renew", id, now})
			default:
				script = append(script, step{"Open", now, far(random, 100)})
			}
		}
		b := play(t, last, script)
		n, l := b.All()
		again := made(t, n, l...)
		for _, s := range script[:20] {
			id, e, gone := s.of(b)
			otherId, otherE, otherGone := s.of(again)
			if id != otherId || e != otherE || !slices.Equal(gone, otherGone) {
				t.Fatalf("P7.1: New of what All answered, then %s: %d, error %d, %s; not %d, error %d, %s", names([]step{s}), otherId, otherE, told(otherGone), id, e, told(gone))
			}
		}
	}
}
