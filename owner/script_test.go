package owner_test

import (
	"math/rand"
	"strconv"
	"strings"
	"testing"

	"mailcoach/api"
	"mailcoach/meta"
	"mailcoach/owner"
)

// step is a call of a script: of Acquire or Release, or a command to the keeper itself.
type step struct {
	call    string
	session uint64
	n       uint64 // the broker; the ticks; the version that a key must have
	bundle  string // the key, where the keeper is asked itself
	value   string
}

// of: a step's answer.
func (s step) of(k *meta.Keeper) (n uint64, e api.Errno) {
	switch s.call {
	case "Acquire":
		return owner.Acquire(k, s.session, s.n, s.bundle)
	case "Release":
		return 0, owner.Release(k, s.session, s.bundle)
	case "KPut":
		_, _, e = k.Do(api.Cmd{Kind: api.KPut, Key: s.bundle, Value: []byte(s.value), Want: s.n, Session: s.session})
	case "KOpen":
		_, _, e = k.Do(api.Cmd{Kind: api.KOpen, Ticks: s.n})
	case "KRenew":
		_, _, e = k.Do(api.Cmd{Kind: api.KRenew, Session: s.session})
	case "KClose":
		_, _, e = k.Do(api.Cmd{Kind: api.KClose, Session: s.session})
	case "KTick":
		_, _, e = k.Do(api.Cmd{Kind: api.KTick, Ticks: s.n})
	}
	return 0, e
}

// by: a step's answer of a plain keeper.
func (s step) by(p *plain) (uint64, api.Errno) {
	switch s.call {
	case "Acquire":
		return p.acquire(s.session, s.n, s.bundle)
	case "Release":
		return 0, p.release(s.session, s.bundle)
	case "KPut":
		return 0, p.put(s.bundle, s.value, s.n, s.session)
	case "KOpen":
		return 0, p.open(s.n)
	case "KRenew":
		return 0, p.renew(s.session)
	case "KClose":
		return 0, p.end(s.session)
	case "KTick":
		return 0, p.tick(s.n)
	}
	return 0, api.OK
}

// names: of a script's last steps.
func names(script []step) string {
	var l []string
	for _, s := range script[max(0, len(script)-8):] {
		l = append(l, s.call+" "+strconv.FormatUint(s.session, 10)+" "+strconv.FormatUint(s.n, 10)+" "+strconv.Quote(s.bundle))
	}
	return strings.Join(l, "; ")
}

// play: a step of both, held against one another: its answer, what it comes to, and whose a bundle is.
func play(t *testing.T, script []step, k *meta.Keeper, p *plain, bundles []string) api.Errno {
	t.Helper()
	s := script[len(script)-1]
	before := p.list()
	n, e := s.of(k)
	wantN, wantE := s.by(p)
	if n != wantN || e != wantE {
		t.Fatalf("P17.1, P17.2: behind %s: %d, error %d; want %d, error %d", names(script), n, e, wantN, wantE)
	}
	has(t, names(script), k, p.list()...)
	if e != api.OK && s.call == "Release" {
		has(t, "R4: "+names(script), k, before...)
	}
	for _, bundle := range bundles {
		broker, epoch, ok := owner.Holder(k, bundle)
		wantBroker, wantEpoch, wantOk := p.holder(bundle)
		if broker != wantBroker || epoch != wantEpoch || ok != wantOk {
			t.Fatalf("P17.2: behind %s: Holder(%q): %d, %d, %v; want %d, %d, %v", names(script), bundle, broker, epoch, ok, wantBroker, wantEpoch, wantOk)
		}
	}
	return e
}

func TestAllShortScripts(t *testing.T) {
	steps := []step{
		{call: "Acquire", session: 1, n: 7, bundle: "a"}, {call: "Acquire", session: 2, n: 8, bundle: "a"}, {call: "Acquire", session: 1, n: 9, bundle: "b"}, {call: "Acquire", bundle: "a"},
		{call: "Release", session: 1, bundle: "a"}, {call: "Release", session: 2, bundle: "a"}, {call: "Release", bundle: "a"},
		{call: "KPut", bundle: "epoch/a", value: u64(top)}, {call: "KPut", bundle: "own/a", value: "none"}, {call: "KPut", bundle: "own/a", value: u64(6), session: 2, n: 1},
		{call: "KOpen", n: 1}, {call: "KTick", n: 1}, {call: "KClose", session: 1},
	}
	const length = 4
	var script [2 + length]step
	script[0], script[1] = step{call: "KOpen", n: 2}, step{call: "KOpen", n: 1}
	for n := range 13 * 13 * 13 * 13 { // thirteen steps at four places
		d, p := fresh(t, 500), newPlain(500)
		k := keeper(t, d)
		for i := range script {
			if i >= 2 {
				script[i] = steps[n%len(steps)]
				n /= len(steps)
			}
			play(t, script[:i+1], k, p, []string{"a", "b"})
		}
		d.Crash(0, -1)
		has(t, "opened behind a crash behind "+names(script[:]), keeper(t, d), p.list()...)
	}
}

// pick: a step that random picks.
func pick(random *rand.Rand, p *plain, bundles []string) step {
	s := step{bundle: bundles[random.Intn(len(bundles))], session: p.last - min(p.last, uint64(random.Intn(6))), n: random.Uint64() >> random.Intn(64)}
	own, owned := p.nodes["own/"+s.bundle]
	if owned && random.Intn(2) == 0 {
		s.session = own.Owner
	}
	switch r := random.Intn(100); {
	case r < 40:
		s.call = "Acquire"
	case r < 70:
		s.call = "Release"
	case r < 80:
		s.call = "KPut"
		s.bundle = []string{"own/", "epoch/"}[random.Intn(2)] + s.bundle
		s.value, s.n = u64(s.n), p.nodes[s.bundle].Version
		if random.Intn(3) == 0 {
			s.value = s.value[:random.Intn(8)]
		}
	case r < 86:
		s.call, s.n = "KOpen", 1+uint64(random.Intn(20))
	case r < 91:
		s.call = "KRenew"
	case r < 93:
		s.call = "KClose"
	default:
		s.call, s.n = "KTick", uint64(random.Intn(4))
	}
	return s
}

func TestLongScripts(t *testing.T) {
	random := rand.New(rand.NewSource(17))
	bundles := []string{"", "0000-4000", "4000-10000", "\xff", strings.Repeat("b", 58), strings.Repeat("b", 59), strings.Repeat("b", 60), strings.Repeat("b", 61)}
	seen := map[string]int{}
	for round := range 150 {
		room := 1 << 20
		if round%3 == 0 {
			room = random.Intn(10000)
		}
		d, p := fresh(t, room), newPlain(room)
		k := keeper(t, d)
		if round%5 == 0 {
			for i := range 256 - random.Intn(14) { // there is hardly room for another key
				s := step{call: "KPut", bundle: "key" + strconv.Itoa(i)}
				s.of(k)
				s.by(p)
			}
		}
		var script []step
		for range 200 {
			s := pick(random, p, bundles)
			script = append(script, s)
			seen[s.call+" "+strconv.Itoa(int(play(t, script, k, p, bundles)))]++
			if random.Intn(20) == 0 {
				d.Crash(random.Intn(60)-5, random.Intn(12)-2)
				k = keeper(t, d)
				has(t, "opened behind a crash behind "+names(script), k, p.list()...)
			}
		}
	}
	for call, codes := range map[string][]api.Errno{
		"Acquire": {api.OK, api.ErrExpired, api.ErrOwner, api.ErrName, api.ErrMany, api.ErrFull},
		"Release": {api.OK, api.ErrNone, api.ErrOwner, api.ErrFull},
	} {
		for _, code := range codes {
			if n := seen[call+" "+strconv.Itoa(int(code))]; n < 20 {
				t.Errorf("of %s the error %d came %d times", call, code, n)
			}
		}
	}
}
