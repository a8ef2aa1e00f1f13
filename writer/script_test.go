package writer_test

import (
	"math"
	"math/rand"
	"slices"
	"strconv"
	"strings"
	"testing"

	"mailcoach/api"
	"mailcoach/writer"
)

// step is one call: its name, and what it is given.
type step struct {
	name  string
	place int
	n     uint64
	data  string
}

// answer is what a call of any name answers.
type answer struct {
	n   uint64
	l   string // entries, or their numbers
	err api.Errno
}

// of: what a writer answers to a step.
func (s step) of(w *writer.Writer) answer {
	switch s.name {
	case "Add":
		n, e := w.Add([]byte(s.data))
		return answer{n: n, err: e}
	case "Ack":
		return answer{l: items(w.Ack(s.place, s.n))}
	case "Replace":
		return answer{l: numbers(w.Replace(s.place))}
	default:
		n, e := w.Close()
		return answer{n: n, err: e}
	}
}

// by: what a plain one answers to it.
func (s step) by(p *plain) answer {
	switch s.name {
	case "Add":
		n, e := p.add([]byte(s.data))
		return answer{n: n, err: e}
	case "Ack":
		return answer{l: items(p.ack(s.place, s.n))}
	case "Replace":
		return answer{l: numbers(p.replace(s.place))}
	default:
		n, e := p.close()
		return answer{n: n, err: e}
	}
}

// promise: the one that a step's answer breaks.
func (s step) promise() string {
	switch s.name {
	case "Add":
		return "P11.1"
	case "Close":
		return "P11.3"
	default:
		return "P11.2"
	}
}

// names: of a script's last steps.
func names(script []step) string {
	var l []string
	for _, s := range script[max(0, len(script)-8):] {
		switch s.name {
		case "Add":
			l = append(l, "Add("+strconv.Itoa(len(s.data))+" bytes)")
		case "Ack":
			l = append(l, "Ack("+strconv.Itoa(s.place)+", "+strconv.FormatUint(s.n, 10)+")")
		case "Replace":
			l = append(l, "Replace("+strconv.Itoa(s.place)+")")
		default:
			l = append(l, "Close()")
		}
	}
	return strings.Join(l, " ")
}

// play: a script on a new writer, held against a plain one behind each step from a place of it on; what the plain one is then.
func play(t *testing.T, q api.Quorum, script []step, from int) *plain {
	t.Helper()
	w := made(t, q)
	p := &plain{q: q}
	for i, s := range script {
		what := func() string { return "of " + quorumText(q) + ", behind " + names(script[:i+1]) }
		if got, want := s.of(w), s.by(p); got != want {
			t.Fatalf("%s: %s: %v, not %v", s.promise(), what(), got, want)
		}
		if i >= from {
			hold(t, what, w, p)
		}
	}
	return p
}

// quorumText: a quorum as a text.
func quorumText(q api.Quorum) string {
	return numbers([]int{q.Places, q.Write, q.Ack})
}

func TestAllShortScripts(t *testing.T) {
	steps := []step{
		{name: "Add", data: "c"}, {name: "Ack", place: 0, n: 0}, {name: "Ack", place: 1, n: 0}, {name: "Ack", place: 2, n: 0},
		{name: "Ack", place: 0, n: 1}, {name: "Ack", place: 1, n: 1}, {name: "Ack", place: 2, n: 1}, {name: "Ack", place: 2, n: 2},
		{name: "Replace", place: 0}, {name: "Replace", place: 1}, {name: "Replace", place: 2}, {name: "Close"},
	}
	const length = 4
	for _, q := range []api.Quorum{{Places: 3, Write: 2, Ack: 2}, {Places: 3, Write: 3, Ack: 2}, {Places: 3, Write: 2, Ack: 1}, {Places: 2, Write: 1, Ack: 1}} {
		script := []step{{name: "Add", data: "a"}, {name: "Add", data: "b"}, {}, {}, {}, {}}
		for n := range 12 * 12 * 12 * 12 { // twelve steps at four places
			for i := range length {
				script[2+i] = steps[n%len(steps)]
				n /= len(steps)
			}
			play(t, q, script, 2)
		}
	}
}

// Nothing is added here: whatever is asked first, an empty ledger is closed.
func TestShortScriptsFromTheBeginning(t *testing.T) {
	steps := []step{{name: "Add", data: "a"}, {name: "Ack"}, {name: "Ack", n: 1}, {name: "Replace"}, {name: "Close"}, {name: "Add", data: strings.Repeat("a", 257)}}
	const length = 6
	var script [length]step
	for n := range 6 * 6 * 6 * 6 * 6 * 6 { // six steps at six places
		for i := range script {
			script[i] = steps[n%len(steps)]
			n /= len(steps)
		}
		play(t, api.Quorum{Places: 1, Write: 1, Ack: 1}, script[:], 0)
	}
}

// anyStep: one as it may come, of a ledger that has about so many entries, of which about so many are confirmed.
func anyStep(random *rand.Rand, q api.Quorum, sure, count int) step {
	switch random.Intn(40) {
	case 0:
		return step{name: "Close"}
	case 1:
		return step{name: "Replace", place: random.Intn(q.Places+2) - 1}
	case 2:
		return step{name: "Ack", place: []int{math.MinInt, -1, q.Places, q.Places + 1, 1 << 32, math.MaxInt}[random.Intn(6)], n: uint64(sure)}
	case 3:
		return step{name: "Ack", place: random.Intn(q.Places), n: []uint64{math.MaxUint64, uint64(count), uint64(sure) - 1, 1 << 32, uint64(sure) + 64, uint64(sure) - 64}[random.Intn(6)]}
	case 4:
		return step{name: "Add", data: strings.Repeat("x", 255+random.Intn(3))}
	case 5, 6, 7, 8, 9, 10, 11, 12:
		return step{name: "Add", data: strconv.Itoa(random.Intn(1 << random.Intn(20)))}
	}
	return step{name: "Ack", place: random.Intn(q.Places), n: uint64(sure + random.Intn(max(1, min(count-sure, 1+random.Intn(64)))))}
}

// Steps come as they may; a Replace or an Ack that nobody waits for is among them.
func TestLongScripts(t *testing.T) {
	random := rand.New(rand.NewSource(11))
	for _, q := range right() {
		for range 3 {
			var script []step
			p := &plain{q: q}
			for range 400 {
				s := anyStep(random, q, p.sure, len(p.data))
				if s.name == "Close" && p.sure == len(p.data) && random.Intn(8) > 0 { // a closed one has little more to tell
					continue
				}
				s.by(p)
				script = append(script, s)
			}
			play(t, q, script, 0)
		}
	}
}

// flood: in each round more is added than may wait, then half of the acks come, back to front or as they may, a place is replaced, and all come.
func flood(random *rand.Rand, q api.Quorum, rounds int) []step {
	var script []step
	count := 0
	for range rounds {
		for range 66 {
			script = append(script, step{name: "Add", data: strconv.Itoa(len(script))})
		}
		count += 64
		var acks []step
		for n := count - 64; n < count; n++ {
			for place := range q.Places {
				acks = append(acks, step{name: "Ack", place: place, n: uint64(n)})
			}
		}
		slices.Reverse(acks)
		if random.Intn(2) == 0 {
			random.Shuffle(len(acks), func(i, j int) { acks[i], acks[j] = acks[j], acks[i] })
		}
		script = append(script, acks[:len(acks)/2]...)
		script = append(script, step{name: "Replace", place: random.Intn(q.Places)})
		script = append(script, acks...)
	}
	return append(script, step{name: "Close"}, step{name: "Close"}, step{name: "Add"})
}

// As many wait as may, again and again.
func TestFloods(t *testing.T) {
	random := rand.New(rand.NewSource(12))
	for _, q := range right() {
		if q.Places > 4 && (q.Places+q.Write+q.Ack)%3 > 0 { // some of the greater ones
			continue
		}
		script := flood(random, q, 3)
		p := play(t, q, script, len(script)/2)
		if !p.closed || p.sure != 3*64 {
			t.Fatalf("the script is none: of %s %d entries are confirmed", quorumText(q), p.sure)
		}
	}
}

// What is done to a copy, and to what it was copied from, is seen by neither in the other one.
func TestCopiesGoTheirOwnWays(t *testing.T) {
	random := rand.New(rand.NewSource(13))
	for _, q := range right() {
		w, p := made(t, q), &plain{q: q}
		for range 100 {
			s := anyStep(random, q, p.sure, len(p.data))
			if s.name == "Close" {
				continue
			}
			c := *w
			d := plain{q, slices.Clone(p.data), nil, p.sure, p.closed}
			for _, m := range p.has {
				own := map[int]bool{}
				for place := range m {
					own[place] = true
				}
				d.has = append(d.has, own)
			}
			for range 5 {
				other := anyStep(random, q, d.sure, len(d.data))
				if got, want := other.of(&c), other.by(&d); got != want {
					t.Fatalf("R8: of %s, %s of a copy: %v, not %v", quorumText(q), names([]step{other}), got, want)
				}
			}
			if got, want := s.of(w), s.by(p); got != want {
				t.Fatalf("R8: of %s, %s of what was copied: %v, not %v", quorumText(q), names([]step{s}), got, want)
			}
			hold(t, func() string { return "of " + quorumText(q) + ", what was copied" }, w, p)
			hold(t, func() string { return "of " + quorumText(q) + ", a copy" }, &c, &d)
		}
	}
}
