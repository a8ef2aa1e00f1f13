package bundle_test

import (
	"fmt"
	"hash/crc32"
	"math"
	"math/rand"
	"slices"
	"strconv"
	"strings"
	"testing"
	"unsafe"

	"mailcoach/api"
	"mailcoach/bundle"
	"mailcoach/crc"
)

// outside: numbers that are no hash, and where no bundle can begin.
func outside() []int {
	return []int{-1, -2, -65535, -65536, math.MinInt32, math.MinInt, 65536, 65537, 2 * 65536, 65536 + 5, 1 << 32, 1<<32 + 5, 1 << 48, math.MaxInt}
}

// hold: where a map's bundles begin, by All; and Of each hash where they begin and end.
func hold(t *testing.T, what string, m *bundle.Map, want ...int) {
	t.Helper()
	if got := m.All(); !slices.Equal(got, want) {
		t.Fatalf("P16.1: %s: All: %v, want %v", what, got, want)
	}
	ends := append(slices.Clone(want), 65536)
	for i, begin := range want {
		for hash := begin; hash < ends[i+1]; hash++ {
			if lo, hi, ok := m.Of(hash); !ok || lo != begin || hi != ends[i+1] {
				t.Fatalf("P16.1: %s: Of(%d): %d, %d, %v, want %d, %d", what, hash, lo, hi, ok, begin, ends[i+1])
			}
		}
	}
	for _, hash := range outside() {
		if lo, hi, ok := m.Of(hash); ok || lo != 0 || hi != 0 {
			t.Fatalf("P16.1, R3: %s: Of(%d): %d, %d, %v", what, hash, lo, hi, ok)
		}
	}
}

// splits: a Split, and its error; one that is refused changes nothing.
func splits(t *testing.T, m *bundle.Map, at int, code api.Errno) {
	t.Helper()
	before := m.All()
	if e := m.Split(at); e != code {
		t.Fatalf("P16.1: Split(%d): error %d, want %d, of %v", at, e, code, before)
	}
	if got := m.All(); code != api.OK && !slices.Equal(got, before) {
		t.Fatalf("R4: behind a Split(%d) that was refused: %v, want %v", at, got, before)
	}
}

// joins: a Join, and its error; one that is refused changes nothing.
func joins(t *testing.T, m *bundle.Map, at int, code api.Errno) {
	t.Helper()
	before := m.All()
	if e := m.Join(at); e != code {
		t.Fatalf("P16.1: Join(%d): error %d, want %d, of %v", at, e, code, before)
	}
	if got := m.All(); code != api.OK && !slices.Equal(got, before) {
		t.Fatalf("R4: behind a Join(%d) that was refused: %v, want %v", at, got, before)
	}
}

// full: a map of as many bundles as there may be, split in an order that isn't theirs.
func full(t *testing.T) (*bundle.Map, []int) {
	t.Helper()
	m := bundle.New()
	want := []int{0}
	for i := range api.MaxBundles - 1 {
		splits(t, m, 4096*(1+i*7%15), api.OK) // 7 and 15 have no divisor in common: each comes once
		want = append(want, 4096*(i+1))
	}
	hold(t, "as many as there may be", m, want...)
	return m, want
}

func TestExamples(t *testing.T) {
	m := bundle.New()
	splits(t, m, 16384, api.OK)
	lo, hi, ok := m.Of(5)
	if lo != 0 || hi != 16384 || !ok {
		t.Errorf("P16.1: Of(5): %d, %d, %v", lo, hi, ok)
	}
	if s := bundle.Name(lo, hi); s != "0000-4000" {
		t.Errorf("P16.2: Name: %q", s)
	}
}

func TestHash(t *testing.T) {
	for topic, want := range map[string]int{"": 0, "123456789": 0xe306} {
		if h := bundle.Hash(topic); h != want {
			t.Errorf("P16.1: Hash(%q): %x, want %x", topic, h, want)
		}
	}
	random := rand.New(rand.NewSource(16))
	topics := []string{"0", "1", "2", "topic/0", "a", "A", "ä", "\x00", "\x00\x00", "\xff", "\xff\xfe no text", strings.Repeat("long", 10000)}
	for range 20000 {
		b := make([]byte, random.Intn(80))
		random.Read(b)
		topics = append(topics, string(b))
	}
	castagnoli := crc32.MakeTable(crc32.Castagnoli)
	seen := map[int]int{}
	for _, topic := range topics {
		h := bundle.Hash(topic)
		if want := int(crc32.Checksum([]byte(topic), castagnoli) >> 16); h != want || h != int(crc.Sum([]byte(topic)))/65536 {
			t.Fatalf("P16.1: Hash(%.40q): %x, want %x", topic, h, want)
		}
		if again := bundle.Hash(topic); again != h {
			t.Fatalf("R8: Hash(%.40q): %x, then %x", topic, h, again)
		}
		seen[h>>12]++
	}
	for part := range 16 {
		if seen[part] < 500 {
			t.Errorf("P16.1: of the hashes from %x000 on there were %d", part, seen[part])
		}
	}
}

func TestHashLeavesItsTopicAlone(t *testing.T) {
	b := []byte("123456789")
	h := bundle.Hash(unsafe.String(&b[0], len(b)))
	if string(b) != "123456789" {
		t.Errorf("R6: Hash changes what it is handed: %q", b)
	}
	if h != 0xe306 {
		t.Errorf("P16.1: Hash: %x", h)
	}
}

func TestNewHasOneBundle(t *testing.T) {
	for what, m := range map[string]*bundle.Map{"a new map": bundle.New(), "a zero map": {}} {
		hold(t, what, m, 0)
		for _, at := range []int{1, 2, 16384, 65535} {
			joins(t, m, at, api.ErrNone)
		}
		splits(t, m, 7, api.OK)
		hold(t, what+", split", m, 0, 7)
		joins(t, m, 7, api.OK)
		hold(t, what+", joined", m, 0)
	}
}

// Each hash but 0 can be where a bundle begins.
func TestSplitAndJoinAnywhere(t *testing.T) {
	m := bundle.New()
	splits(t, m, 30000, api.OK)
	splits(t, m, 30002, api.OK)
	for at := 1; at <= 65535; at++ {
		if at == 30000 || at == 30002 {
			splits(t, m, at, api.ErrExists)
			continue
		}
		joins(t, m, at, api.ErrNone)
		splits(t, m, at, api.OK)
		want := []int{0, 30000, 30002, at}
		slices.Sort(want)
		if got := m.All(); !slices.Equal(got, want) {
			t.Fatalf("P16.1: All behind Split(%d): %v", at, got)
		}
		i := slices.Index(want, at)
		end := append(want, 65536)[i+1]
		if lo, hi, ok := m.Of(at - 1); lo != want[i-1] || hi != at || !ok {
			t.Fatalf("P16.1: Of(%d) ahead of Split(%d): %d, %d, %v", at-1, at, lo, hi, ok)
		}
		if lo, hi, ok := m.Of(at); lo != at || hi != end || !ok {
			t.Fatalf("P16.1: Of(%d): %d, %d, %v", at, lo, hi, ok)
		}
		splits(t, m, at, api.ErrExists)
		joins(t, m, at, api.OK)
		if lo, hi, ok := m.Of(at); lo != want[i-1] || hi != end || !ok {
			t.Fatalf("P16.1: Of(%d) behind Join: %d, %d, %v", at, lo, hi, ok)
		}
		joins(t, m, at, api.ErrNone)
	}
	hold(t, "all is joined again", m, 0, 30000, 30002)
}

func TestSplitAndJoinAtTheEdges(t *testing.T) {
	m := bundle.New()
	for _, at := range append(outside(), 0) {
		splits(t, m, at, api.ErrRange)
		joins(t, m, at, api.ErrRange)
	}
	hold(t, "nothing was right", m, 0)
	splits(t, m, 65535, api.OK)
	hold(t, "a bundle of the last hash alone", m, 0, 65535)
	splits(t, m, 1, api.OK)
	hold(t, "a bundle of the first hash alone", m, 0, 1, 65535)
	splits(t, m, 2, api.OK)
	splits(t, m, 65534, api.OK)
	hold(t, "bundles of one hash each", m, 0, 1, 2, 65534, 65535)
	joins(t, m, 1, api.OK)
	hold(t, "the first two are one", m, 0, 2, 65534, 65535)
	joins(t, m, 65535, api.OK)
	hold(t, "the last two are one", m, 0, 2, 65534)
	joins(t, m, 2, api.OK)
	joins(t, m, 65534, api.OK)
	hold(t, "all are one", m, 0)
}

func TestSplitOfMany(t *testing.T) {
	m, want := full(t)
	for _, at := range []int{1, 2, 4095, 4097, 40000, 61441, 65535} {
		splits(t, m, at, api.ErrMany)
		joins(t, m, at, api.ErrNone)
	}
	// R2: one that is refused for more than one reason.
	for _, at := range append(outside(), 0) {
		splits(t, m, at, api.ErrRange)
		joins(t, m, at, api.ErrRange)
	}
	for _, at := range want[1:] {
		splits(t, m, at, api.ErrExists)
	}
	hold(t, "R4: all were refused", m, want...)
	for i := 1; i < len(want); i++ {
		joins(t, m, want[i], api.OK)
		splits(t, m, want[i]-1, api.OK) // who went has left room for one
		splits(t, m, want[i], api.ErrMany)
		want[i]--
		hold(t, "one has moved", m, want...)
	}
	for left := len(want) - 1; left > 0; left-- {
		i := 1 + left*5%left
		joins(t, m, want[i], api.OK)
		want = slices.Delete(want, i, i+1)
		hold(t, "one is joined", m, want...)
	}
}

func TestNilMap(t *testing.T) {
	var m *bundle.Map
	for _, at := range append(outside(), 0, 1, 5, 16384, 65535) {
		if lo, hi, ok := m.Of(at); lo != 0 || hi != 0 || ok {
			t.Errorf("R7: Of(%d) of a nil map: %d, %d, %v", at, lo, hi, ok)
		}
		if e := m.Split(at); e != api.ErrNil {
			t.Errorf("R7: Split(%d) of a nil map: error %d", at, e)
		}
		if e := m.Join(at); e != api.ErrNil {
			t.Errorf("R7: Join(%d) of a nil map: error %d", at, e)
		}
	}
	if l := m.All(); len(l) != 0 {
		t.Errorf("R7: All of a nil map: %v", l)
	}
}

func TestAllIsNewMemory(t *testing.T) {
	for name, m := range map[string]*bundle.Map{"a new map": bundle.New(), "a zero map": {}} {
		for i := range 3 {
			want := []int{0, 9, 700}[:i+1]
			if i > 0 {
				splits(t, m, want[i], api.OK)
			}
			one, other := m.All(), m.All()
			one = one[:cap(one)] // spare room too
			for j := range one {
				one[j] = 5678
			}
			if !slices.Equal(other, want) {
				t.Errorf("R6: two answers of All of %s share memory: %v", name, other)
			}
			hold(t, "R6: behind scribbles in All of "+name, m, want...)
		}
	}
	m, want := full(t)
	l := m.All()
	clear(l[:cap(l)])
	hold(t, "R6: behind scribbles in All of a full map", m, want...)
}

func TestMapsAreNotInOneAnothersWay(t *testing.T) {
	one, other := bundle.New(), bundle.New()
	splits(t, one, 5, api.OK)
	splits(t, other, 6, api.OK)
	splits(t, other, 5, api.OK)
	joins(t, one, 5, api.OK)
	hold(t, "R8: the one map", one, 0)
	hold(t, "R8: the other map", other, 0, 5, 6)
	hold(t, "R8: a third map", bundle.New(), 0)
}

func TestCopiesOfAMapGoTheirOwnWays(t *testing.T) {
	m := bundle.New()
	for _, at := range []int{40, 10, 30, 20, 50} {
		splits(t, m, at, api.OK)
	}
	joins(t, m, 50, api.OK)
	left, behind, ahead, less, last := *m, *m, *m, *m, *m
	splits(t, &behind, 60, api.OK)
	splits(t, &ahead, 5, api.OK)
	joins(t, &less, 10, api.OK)
	joins(t, &last, 40, api.OK)
	splits(t, m, 45, api.OK)
	hold(t, "R8: the map", m, 0, 10, 20, 30, 40, 45)
	hold(t, "R8: a copy that was left as it was", &left, 0, 10, 20, 30, 40)
	hold(t, "R8: a copy that was split behind all", &behind, 0, 10, 20, 30, 40, 60)
	hold(t, "R8: a copy that was split ahead of all", &ahead, 0, 5, 10, 20, 30, 40)
	hold(t, "R8: a copy whose first was joined", &less, 0, 20, 30, 40)
	hold(t, "R8: a copy whose last was joined", &last, 0, 10, 20, 30)
	zero := bundle.Map{}
	copied := zero
	splits(t, &zero, 5, api.OK)
	hold(t, "R8: a copy of a zero map", &copied, 0)
}

func TestName(t *testing.T) {
	for _, w := range []struct {
		lo, hi int
		want   string
	}{
		{0, 0, "0000-0000"}, {0, 16384, "0000-4000"}, {0, 65536, "0000-10000"}, {65536, 65536, "10000-10000"}, {65536, 0, "10000-0000"},
		{1, 15, "0001-000f"}, {16, 255, "0010-00ff"}, {256, 4095, "0100-0fff"}, {4096, 65535, "1000-ffff"}, {65535, 65536, "ffff-10000"},
		{0xabcd, 0xef01, "abcd-ef01"}, {0x2345, 0x6789, "2345-6789"}, {9, 10, "0009-000a"}, {5, 3, "0005-0003"},
	} {
		if s := bundle.Name(w.lo, w.hi); s != w.want {
			t.Errorf("P16.2: Name(%d, %d): %q, want %q", w.lo, w.hi, s, w.want)
		}
	}
}

func TestNameOfAllNumbers(t *testing.T) {
	random := rand.New(rand.NewSource(17))
	for n := range 65537 {
		for _, other := range []int{0, 1, 4096, 65535, 65536, random.Intn(65537)} {
			for _, w := range [][2]int{{n, other}, {other, n}} {
				if s, want := bundle.Name(w[0], w[1]), fmt.Sprintf("%04x-%04x", w[0], w[1]); s != want {
					t.Fatalf("P16.2: Name(%d, %d): %q, want %q", w[0], w[1], s, want)
				}
			}
		}
	}
}

// The numbers of a bundle can be had back from its name, so no two bundles have one.
func TestNamesOfBundles(t *testing.T) {
	m, want := full(t)
	for i, s := range want {
		lo, hi, _ := m.Of(s + 7*i)
		from, to, ok := strings.Cut(bundle.Name(lo, hi), "-")
		a, e1 := strconv.ParseInt(from, 16, 64)
		b, e2 := strconv.ParseInt(to, 16, 64)
		if !ok || e1 != nil || e2 != nil || int(a) != lo || int(b) != hi {
			t.Errorf("P16.2: Name(%d, %d): %q", lo, hi, bundle.Name(lo, hi))
		}
	}
}

// Of such numbers the chapter says nothing, but that the call ends.
func TestNameOfOtherNumbers(t *testing.T) {
	for _, lo := range outside() {
		for _, hi := range append(outside(), 0, 65536) {
			if s := bundle.Name(lo, hi); s != bundle.Name(lo, hi) {
				t.Errorf("P1, R8: Name(%d, %d): %q", lo, hi, s)
			}
			bundle.Name(hi, lo)
		}
	}
}
