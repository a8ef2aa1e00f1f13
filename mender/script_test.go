package mender_test

import (
	"math"
	"math/rand"
	"slices"
	"strconv"
	"strings"
	"testing"

	"mailcoach/api"
	"mailcoach/mender"
)

// step is one Hear.
type step struct {
	place int
	sure  uint64
	l     []api.Item
}

// names: of a script's last steps.
func names(script []step) string {
	var l []string
	for _, s := range script[max(0, len(script)-8):] {
		l = append(l, "Hear("+strconv.Itoa(s.place)+", "+strconv.FormatUint(s.sure, 10)+", "+items(s.l)+")")
	}
	return strings.Join(l, " ")
}

// quorumText: a quorum as a text.
func quorumText(q api.Quorum) string {
	return strconv.Itoa(q.Places) + " " + strconv.Itoa(q.Write) + " " + strconv.Itoa(q.Ack)
}

// play: a script on a new mender, held against a plain one behind each step.
func play(t *testing.T, q api.Quorum, script []step) *plain {
	t.Helper()
	m, p := made(t, q), plainOf(q)
	for i, s := range script {
		what := func() string { return "of " + quorumText(q) + ", behind " + names(script[:i+1]) }
		if got, want := m.Hear(s.place, s.sure, s.l), p.hear(s.place, s.sure, s.l); got != want {
			t.Fatalf("P12.1: %s: error %d, not %d", what(), got, want)
		}
		hold(t, what, m, p)
	}
	return p
}

func TestAllShortScripts(t *testing.T) {
	steps := []step{
		{0, 0, nil}, {1, 0, nil}, {2, 0, nil},
		{0, 0, row(0, "a")}, {1, 1, row(1, "b")}, {2, 0, row(0, "a", "b")}, {0, 2, row(2, "c")}, {1, 3, nil},
		{1, 0, []api.Item{at(2, "c"), at(0, "x")}}, {2, 2, row(1, "y", "c")}, {0, 4, []api.Item{at(0, "a"), at(3, "d"), at(3, "e")}},
		{3, 0, row(0, "a")}, {2, 1<<20 + 1, row(0, "a")},
	}
	var script [4]step
	for _, q := range []api.Quorum{{Places: 3, Write: 2, Ack: 2}, {Places: 3, Write: 3, Ack: 2}, {Places: 3, Write: 3, Ack: 3}, {Places: 2, Write: 2, Ack: 1}, {Places: 4, Write: 2, Ack: 2}} {
		for n := range 13 * 13 * 13 * 13 { // thirteen steps at four places
			for i := range script {
				script[i] = steps[n%len(steps)]
				n /= len(steps)
			}
			play(t, q, script[:])
		}
	}
}

// anyItems: entries as they may be: most have the bytes that they always have, few come twice, some are far away.
func anyItems(random *rand.Rand, from, count int) []api.Item {
	var l []api.Item
	for range random.Intn(count + 1) {
		n := uint64(from + random.Intn(count))
		switch random.Intn(12) {
		case 0:
			n = math.MaxUint64 - n
		case 1:
			n |= 1 << random.Intn(64)
		}
		l = append(l, at(n, strings.Repeat(strconv.FormatUint(n, 36), random.Intn(count)/count+1)))
		if random.Intn(200) == 0 {
			l[len(l)-1].Data = []byte("other")
		}
	}
	if len(l) > 0 && random.Intn(4) == 0 {
		l = append(l, l[random.Intn(len(l))])
	}
	return l
}

// anyStep: one as it may come, of a ledger of which about so many entries were heard from 0 on.
func anyStep(random *rand.Rand, q api.Quorum, count int) step {
	s := step{place: random.Intn(q.Places), sure: uint64(random.Intn(count + 1)), l: anyItems(random, max(0, count-4), 8)}
	switch random.Intn(30) {
	case 0:
		s.place = []int{math.MinInt, -1, q.Places, 7, 8, math.MaxInt}[random.Intn(6)]
	case 1:
		s.sure = []uint64{1<<20 + 1, 1 << 32, math.MaxUint64}[random.Intn(3)]
	case 2:
		s.sure = uint64(count + random.Intn(3))
	case 3:
		s.l = anyItems(random, 0, count+1)
	}
	return s
}

// Lists come as they may, right and wrong ones.
func TestLongScripts(t *testing.T) {
	random := rand.New(rand.NewSource(13))
	most := 0
	for _, q := range right() {
		for range 10 {
			var script []step
			p := plainOf(q)
			for range 60 {
				l, _ := p.result()
				s := anyStep(random, q, len(l))
				p.hear(s.place, s.sure, s.l)
				script = append(script, s)
			}
			p = play(t, q, script)
			l, _ := p.result()
			most = max(most, len(l))
		}
	}
	if most < 20 {
		t.Errorf("the scripts are none: a Result has at most %d entries", most)
	}
}

// In whatever order the same lists are heard, the same is told of them.
func TestInAnyOrder(t *testing.T) {
	random := rand.New(rand.NewSource(14))
	for _, q := range right() {
		var script []step
		for place := range q.Places {
			var l []api.Item
			for _, n := range random.Perm(30)[:random.Intn(30)] {
				l = append(l, at(uint64(n), strconv.Itoa(n)))
			}
			script = append(script, step{place, uint64(random.Intn(3)), l})
		}
		want, wantErr := play(t, q, script).result()
		for range 5 {
			random.Shuffle(len(script), func(i, j int) { script[i], script[j] = script[j], script[i] })
			if l, e := play(t, q, script).result(); e != wantErr || !same(l, want) {
				t.Fatalf("P12.2: of %s, behind %s: %s, error %d; not %s, error %d", quorumText(q), names(script), items(l), e, items(want), wantErr)
			}
		}
	}
}

// What is done to a copy, and to what it was copied from, is seen by neither in the other one.
func TestCopiesGoTheirOwnWays(t *testing.T) {
	random := rand.New(rand.NewSource(15))
	for _, q := range right() {
		m, p := made(t, q), plainOf(q)
		for range 40 {
			l, _ := p.result()
			c, d := *m, p.copied()
			for range 3 {
				s := anyStep(random, q, len(l))
				s.l = slices.Clone(s.l)
				for i := range s.l {
					s.l[i].Data = append([]byte("copy "), s.l[i].Data...) // what the other one never hears
				}
				heard(t, q, &c, d, s)
			}
			heard(t, q, m, p, anyStep(random, q, len(l)))
			hold(t, func() string { return "R8: of " + quorumText(q) + ", what was copied" }, m, p)
			hold(t, func() string { return "R8: of " + quorumText(q) + ", a copy" }, &c, d)
		}
	}
}

// heard: a step on both.
func heard(t *testing.T, q api.Quorum, m *mender.Mender, p *plain, s step) {
	t.Helper()
	if got, want := m.Hear(s.place, s.sure, s.l), p.hear(s.place, s.sure, s.l); got != want {
		t.Fatalf("R8: of %s, where there are copies, %s: error %d, not %d", quorumText(q), names([]step{s}), got, want)
	}
}
