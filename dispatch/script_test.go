package dispatch_test

import (
	"math"
	"math/rand"
	"slices"
	"strconv"
	"strings"
	"testing"

	"mailcoach/api"
	"mailcoach/dispatch"
)

// kinds: all ways of handing out.
func kinds() []api.SubKind { return []api.SubKind{api.SOne, api.SFirst, api.SAll, api.SKeys} }

// equal: a desk and a plain one, by whatever can be asked.
func equal(t *testing.T, kind api.SubKind, script []step, d *dispatch.Desk, p *plain) {
	t.Helper()
	if got, want := d.All(), p.all(); !slices.Equal(got, want) {
		t.Fatalf("P18.1: kind %d, behind %s: All:%s, want%s", kind, names(script), told(got), told(want))
	}
	if got, want := d.Consumers(), p.consumers(); !slices.Equal(got, want) {
		t.Fatalf("P18.1: kind %d, behind %s: Consumers:%s, want%s", kind, names(script), taken(got), taken(want))
	}
}

// play: a script's last step, of both: its answer.
func play(t *testing.T, kind api.SubKind, script []step, d *dispatch.Desk, p *plain) answer {
	t.Helper()
	s := script[len(script)-1]
	got, want := s.of(d), s.by(p)
	if !got.equal(want) {
		t.Fatalf("P18.1 to P18.3: kind %d, behind %s: %d, error %d,%s; want %d, error %d,%s", kind, names(script), got.c, got.e, told(got.l), want.c, want.e, told(want.l))
	}
	return got
}

// fresh: a desk of nobody, and a plain one.
func fresh(t *testing.T, kind api.SubKind) (*dispatch.Desk, *plain) {
	t.Helper()
	d, e := dispatch.New(kind)
	if e != api.OK || d == nil {
		t.Fatalf("P18.1: New(%d): error %d", kind, e)
	}
	return d, newPlain(kind)
}

// all: each script of so many of the steps, behind those that are ahead of each.
func all(t *testing.T, ahead, steps []step, length int) {
	script := slices.Concat(ahead, make([]step, length))
	count := 1
	for range length {
		count *= len(steps)
	}
	for _, kind := range kinds() {
		for n := range count {
			for i := range length {
				script[len(ahead)+i] = steps[n%len(steps)]
				n /= len(steps)
			}
			d, p := fresh(t, kind)
			for i := range script {
				play(t, kind, script[:i+1], d, p)
			}
			equal(t, kind, script, d, p)
		}
	}
}

func TestAllShortScripts(t *testing.T) {
	one, other := pos(2, 1), pos(1, 5)
	all(t, nil, []step{join(1), join(2), leave(1), leave(2), flow(1, 1), flow(2, 2), offer(one, "a"), offer(other, "a"), done(1, one), done(2, one)}, 5)
	t.Run("of two consumers with permits", func(t *testing.T) {
		ahead := []step{join(9), join(4), flow(9, 3), flow(4, 2)}
		all(t, ahead, []step{join(9), join(4), join(6), leave(9), leave(4), flow(9, 1), flow(6, 1), offer(one, "a"), offer(other, "b"), offer(pos(3, 0), "a"), done(9, one), done(4, other)}, 4)
	})
	t.Run("of three consumers with something", func(t *testing.T) {
		ahead := []step{join(5), join(3), join(7), flow(5, 3), flow(3, 3), flow(7, 3), offer(pos(8, 0), "a"), offer(pos(8, 1), "b")}
		all(t, ahead, []step{join(5), join(3), join(7), leave(5), leave(3), leave(7), offer(one, "a"), offer(other, "b"), offer(pos(3, 0), "c"), done(5, pos(8, 0)), done(3, pos(8, 1)), done(7, one)}, 4)
	})
}

// odds are how a long script's steps are drawn.
type odds struct {
	consumers, places, keys int
	permits                 int // at most, of a Flow
	joins, leaves, dones    int // in a thousand
}

// draw: odds of whatever kind: few and many consumers, places and keys; consumers that stay, and that come and go.
func draw(random *rand.Rand) odds {
	return odds{
		consumers: 1 + random.Intn(16), places: 1 + random.Intn(600), keys: 1 + random.Intn(30),
		permits: 1 + random.Intn(1+random.Intn(1000)),
		joins:   20 + random.Intn(80), leaves: random.Intn(1 + random.Intn(150)), dones: random.Intn(1 + random.Intn(600)),
	}
}

// consumer: a number of one, small, the greatest or none.
func (o odds) consumer(random *rand.Rand) uint64 {
	switch n := uint64(random.Intn(o.consumers)); {
	case random.Intn(100) == 0:
		return 0
	case n%4 == 3:
		return math.MaxUint64 - n
	default:
		return 1 + n*n*7%41
	}
}

// place: one of so many, some far out.
func (o odds) place(random *rand.Rand) api.Pos {
	n := uint64(random.Intn(o.places))
	if n%16 == 15 {
		return pos(math.MaxUint64-n%3, math.MaxUint64-n)
	}
	return pos(n%5, n/5)
}

// key: one of so many, some empty, long or no text.
func (o odds) key(random *rand.Rand) string {
	switch n := random.Intn(o.keys); n {
	case 1:
		return ""
	case 2:
		return "\xff\xfe"
	case 3:
		return strings.Repeat("k", 300)
	default:
		return "k" + strconv.Itoa(n)
	}
}

// step: the next one.
func (o odds) step(random *rand.Rand) step {
	n := random.Intn(1000)
	if n -= o.joins; n < 0 {
		return join(o.consumer(random))
	}
	if n -= o.leaves; n < 0 {
		return leave(o.consumer(random))
	}
	if n -= o.dones; n < 0 {
		return done(o.consumer(random), o.place(random))
	}
	if n < 40 {
		few := []int{0, -1, 1001, math.MaxInt, math.MinInt, 1000}
		if i := random.Intn(30); i < len(few) {
			return flow(o.consumer(random), few[i])
		}
		return flow(o.consumer(random), 1+random.Intn(o.permits))
	}
	return offer(o.place(random), o.key(random))
}

func TestLongScripts(t *testing.T) {
	random := rand.New(rand.NewSource(1))
	type answered struct {
		call string
		e    api.Errno
	}
	seen := map[answered]int{}
	for i := range 400 {
		kind := kinds()[i%4]
		o := draw(random)
		d, p := fresh(t, kind)
		var script []step
		for range 600 {
			script = append(script, o.step(random))
			a := play(t, kind, script, d, p)
			equal(t, kind, script, d, p) // behind an error too, so that R4 holds: the plain one hasn't changed
			handsOut(t, kind, script, d.All())
			seen[answered{script[len(script)-1].call, a.e}]++
		}
	}
	for _, one := range []answered{
		{"Join", api.OK}, {"Join", api.ErrRange}, {"Join", api.ErrExists}, {"Join", api.ErrOwner}, {"Join", api.ErrMany},
		{"Leave", api.OK}, {"Leave", api.ErrConsumer}, {"Flow", api.OK}, {"Flow", api.ErrConsumer}, {"Flow", api.ErrPermits},
		{"Offer", api.OK}, {"Offer", api.ErrOut}, {"Offer", api.ErrMany}, {"Offer", api.ErrPermits},
		{"Done", api.OK}, {"Done", api.ErrNone}, {"Done", api.ErrConsumer},
	} {
		if seen[one] < 50 {
			t.Errorf("%s with the error %d came %d times", one.call, one.e, seen[one])
		}
	}
}

// handsOut: P6 of what is out: of SOne and SFirst one consumer has something, of SKeys those of a key are with one.
func handsOut(t *testing.T, kind api.SubKind, script []step, outs []api.Out) {
	t.Helper()
	with := map[string]uint64{}
	for _, o := range outs {
		key := o.Key
		switch kind {
		case api.SAll:
			continue
		case api.SOne, api.SFirst:
			key = ""
		}
		if c, there := with[key]; there && c != o.Consumer {
			t.Fatalf("P6: kind %d, behind %s: two consumers have something:%s", kind, names(script), told(outs))
		}
		with[key] = o.Consumer
	}
}

// R8: a copy of a desk goes its own way, whatever is done to either.
func TestLongScriptsOfCopies(t *testing.T) {
	random := rand.New(rand.NewSource(2))
	for i := range 400 {
		kind := kinds()[i%4]
		o := draw(random)
		d, p := fresh(t, kind)
		var script, other []step
		for range random.Intn(300) {
			script = append(script, o.step(random))
			play(t, kind, script, d, p)
		}
		twin, left, q := *d, *d, p.copied()
		was, ahead := p.copied(), slices.Clone(script)
		for range 100 {
			script, other = append(script, o.step(random)), append(other, o.step(random))
			play(t, kind, script, d, p)
			play(t, kind, other, &twin, q)
		}
		equal(t, kind, script, d, p)
		equal(t, kind, other, &twin, q)
		equal(t, kind, ahead, &left, was)
		for _, s := range other { // one that was left as it was goes on as it would have gone
			ahead = append(ahead, s)
			play(t, kind, ahead, &left, was)
		}
	}
}
