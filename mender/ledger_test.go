package mender_test

import (
	"math/rand"
	"slices"
	"strconv"
	"testing"

	"mailcoach/api"
	"mailcoach/disk"
	"mailcoach/mender"
	"mailcoach/quorum"
	"mailcoach/shelf"
	"mailcoach/writer"
)

// whole: has the Result whatever a writer had confirmed, with its bytes?
func whole(t *testing.T, what func() string, m *mender.Mender, w *writer.Writer, all []api.Item) {
	t.Helper()
	if !m.Ready() {
		return
	}
	l, e := m.Result()
	if e != api.OK || len(l) < int(w.Sure()) || !same(l, all[:len(l)]) {
		t.Fatalf("P12.3: %s: Result: %s, error %d; %d were confirmed", what(), items(l), e, w.Sure())
	}
}

// parts: all pairs of an entry below a count and a place that it goes to.
func parts(q api.Quorum, count int) [][2]int {
	var l [][2]int
	for n := range count {
		for _, place := range quorum.Set(q, uint64(n)) {
			l = append(l, [2]int{n, place})
		}
	}
	return l
}

// Whoever had which entries, and whoever of them is heard: all of the small ledgers.
func TestWhateverSmallLedgersHad(t *testing.T) {
	all := row(0, "a", "b", "c")
	for _, q := range right() {
		l := parts(q, len(all))
		if len(l) > 9 {
			continue
		}
		for has := range 1 << len(l) {
			w := written(t, q, all)
			told := make([][]api.Item, q.Places)
			for i, part := range l {
				if has>>i&1 == 1 {
					w.Ack(part[1], uint64(part[0]))
					told[part[1]] = append(told[part[1]], all[part[0]])
				}
			}
			for heard := range 1 << q.Places {
				m := made(t, q)
				for place := range q.Places {
					if heard>>place&1 == 1 {
						hear(t, m, place, w.Sure(), told[place]...)
					}
				}
				whole(t, func() string { return "of " + quorumText(q) + ", heard " + strconv.FormatInt(int64(heard), 2) }, m, w, all)
			}
		}
	}
}

// written: a writer of these entries, none of which is confirmed.
func written(t *testing.T, q api.Quorum, l []api.Item) *writer.Writer {
	t.Helper()
	w, e := writer.New(q)
	for _, item := range l {
		if n, e := w.Add(item.Data); n != item.Entry || e != api.OK {
			t.Fatalf("P11.1: Add: %d, error %d", n, e)
		}
	}
	if e != api.OK {
		t.Fatalf("P11.1: New: error %d", e)
	}
	return w
}

// scene is a ledger under way: who writes it, the nodes at its places, what is sent to them and what they say, and who mends it.
type scene struct {
	t      *testing.T
	random *rand.Rand
	q      api.Quorum
	w      *writer.Writer
	m      *mender.Mender
	all    []api.Item
	nodes  []*shelf.Shelf
	disks  []*disk.Disk
	sent   []sent
	said   []sent
	fenced int // how many were
	late   int // how many were confirmed when it was Ready already
}

// sent is an entry on its way to a place, or a place's word of it on its way back.
type sent struct {
	place int
	entry uint64
	sure  uint64
}

// begun: an empty ledger.
func begun(t *testing.T, random *rand.Rand, q api.Quorum) *scene {
	s := &scene{t: t, random: random, q: q, w: written(t, q, nil), m: made(t, q)}
	for range q.Places {
		d, _ := disk.New(1 << 16)
		node, e := shelf.Open(d)
		if e != api.OK {
			t.Fatalf("P9.1: Open: error %d", e)
		}
		s.nodes, s.disks = append(s.nodes, node), append(s.disks, d)
	}
	return s
}

// ledger: its number.
const ledger = 5

// add: an entry more, sent to its places.
func (s *scene) add() {
	data := []byte(strconv.Itoa(s.random.Intn(1000)))
	n, e := s.w.Add(data)
	if e != api.OK {
		return
	}
	s.all = append(s.all, api.Item{Entry: n, Data: data})
	for _, place := range quorum.Set(s.q, n) {
		s.sent = append(s.sent, sent{place, n, s.w.Sure()})
	}
}

// take: one of a list, as it comes; it goes from it most often, else it comes twice.
func (s *scene) take(l *[]sent) (sent, bool) {
	if len(*l) == 0 {
		return sent{}, false
	}
	i := s.random.Intn(min(len(*l), 12))
	one := (*l)[i]
	if s.random.Intn(8) > 0 {
		*l = slices.Delete(*l, i, i+1)
	}
	return one, s.random.Intn(15) > 0 // else it is lost
}

// arrive: an entry comes to its place, which says so, if it isn't fenced.
func (s *scene) arrive() {
	if one, ok := s.take(&s.sent); ok && s.nodes[one.place].Add(ledger, s.all[one.entry], one.sure, false) == api.OK {
		s.said = append(s.said, one)
	}
}

// back: a place's word comes to the writer.
func (s *scene) back() {
	if one, ok := s.take(&s.said); ok {
		n := len(s.w.Ack(one.place, one.entry))
		if s.m.Ready() {
			s.late += n
		}
	}
}

// again: the writer sends what it lacks at a place once more, be it that it holds the place's node for another one.
func (s *scene) again() {
	place := s.random.Intn(s.q.Places)
	if s.random.Intn(2) == 0 {
		s.w.Replace(place)
	}
	l, lacking := s.w.Waiting()
	for i, item := range l {
		if slices.Contains(lacking[i], place) {
			s.sent = append(s.sent, sent{place, item.Entry, s.w.Sure()})
		}
	}
}

// fall: a node falls, and is started again.
func (s *scene) fall() {
	place := s.random.Intn(s.q.Places)
	s.disks[place].Crash(s.random.Intn(100), s.random.Intn(10)-1)
	node, e := shelf.Open(s.disks[place])
	if e != api.OK {
		s.t.Fatalf("P9.3: Open: error %d", e)
	}
	s.nodes[place] = node
}

// fence: a place is, and tells the mender all that it has.
func (s *scene) fence() {
	place := s.random.Intn(s.q.Places)
	sure, e := s.nodes[place].Fence(ledger)
	if e != api.OK {
		s.t.Fatalf("P9.2: Fence: error %d", e)
	}
	hear(s.t, s.m, place, sure, s.nodes[place].List(ledger)...)
	s.fenced++
}

// step: something comes; where it is fenced, often.
func (s *scene) step(fence bool) {
	switch n := s.random.Intn(40); {
	case n < 8:
		s.add()
	case n < 22:
		s.arrive()
	case n < 35:
		s.back()
	case n < 37:
		s.again()
	case n < 38:
		s.fall()
	case fence:
		s.fence()
	}
}

// A writer goes on while its ledger is fenced, place by place: what it takes for confirmed, ahead of that or behind it, the mender has.
func TestWhateverWasConfirmed(t *testing.T) {
	random := rand.New(rand.NewSource(16))
	confirmed, late := 0, 0
	for _, q := range right() {
		for range 8 {
			s := begun(t, random, q)
			what := func() string {
				return "of " + quorumText(q) + ", " + strconv.Itoa(s.fenced) + " times fenced, of " + strconv.Itoa(len(s.all))
			}
			for range random.Intn(300) {
				s.step(false)
			}
			for range 200 {
				s.step(true)
				whole(t, what, s.m, s.w, s.all)
			}
			confirmed += int(s.w.Sure())
			late += s.late
		}
	}
	if confirmed < 1000 || late < 100 {
		t.Errorf("the scripts are none: %d entries were confirmed, %d behind what was heard", confirmed, late)
	}
}
