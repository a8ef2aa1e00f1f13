package dispatch_test

import (
	"math"
	"slices"
	"strconv"
	"strings"
	"testing"
	"unsafe"

	"mailcoach/api"
	"mailcoach/dispatch"
)

// pos: a place.
func pos(ledger, entry uint64) api.Pos { return api.Pos{Ledger: ledger, Entry: entry} }

// out: what is out.
func out(at api.Pos, c uint64, key string) api.Out { return api.Out{Pos: at, Consumer: c, Key: key} }

// desk: one of a kind, behind some steps, none of which is refused.
func desk(t *testing.T, kind api.SubKind, steps ...step) *dispatch.Desk {
	t.Helper()
	d, _ := fresh(t, kind)
	for i, s := range steps {
		if a := s.of(d); a.e != api.OK {
			t.Fatalf("P18.1 to P18.3: kind %d, behind %s: error %d", kind, names(steps[:i+1]), a.e)
		}
	}
	return d
}

// hold: what is out, by the places.
func hold(t *testing.T, what string, d *dispatch.Desk, want ...api.Out) {
	t.Helper()
	if got := d.All(); !slices.Equal(got, want) {
		t.Fatalf("P18.1: %s: All:%s, want%s", what, told(got), told(want))
	}
}

// are: the consumers, as they came.
func are(t *testing.T, what string, d *dispatch.Desk, want ...api.Taker) {
	t.Helper()
	if got := d.Consumers(); !slices.Equal(got, want) {
		t.Fatalf("P18.1: %s: Consumers:%s, want%s", what, taken(got), taken(want))
	}
}

// refuses: a step is answered an error, beside nothing, and changes nothing.
func refuses(t *testing.T, d *dispatch.Desk, e api.Errno, s step) {
	t.Helper()
	outs, consumers := d.All(), d.Consumers()
	if a := s.of(d); !a.equal(answer{e: e}) {
		t.Fatalf("P18.1 to P18.3, R2, R3: %s: %d, error %d,%s, want the error %d alone", names([]step{s}), a.c, a.e, told(a.l), e)
	}
	hold(t, "R4: behind "+names([]step{s}), d, outs...)
	are(t, "R4: behind "+names([]step{s}), d, consumers...)
}

// gets: places of a key, one behind the other from the ledger's Entry 0 on, go to these consumers; 0: to nobody, for want of permits.
func gets(t *testing.T, d *dispatch.Desk, ledger uint64, key string, want ...uint64) {
	t.Helper()
	for i, c := range want {
		s := offer(pos(ledger, uint64(i)), key)
		if c == 0 {
			refuses(t, d, api.ErrPermits, s)
			continue
		}
		if a := s.of(d); !a.equal(answer{c: c}) {
			t.Fatalf("P18.2: %s: %d, error %d, want %d", names([]step{s}), a.c, a.e, c)
		}
	}
}

// does: a step is answered OK, and nothing else.
func does(t *testing.T, d *dispatch.Desk, s step) {
	t.Helper()
	if a := s.of(d); !a.equal(answer{}) {
		t.Fatalf("P18.1 to P18.3: %s: %d, error %d,%s", names([]step{s}), a.c, a.e, told(a.l))
	}
}

// goes: a consumer leaves, with what it has.
func goes(t *testing.T, d *dispatch.Desk, c uint64, want ...api.Out) {
	t.Helper()
	if a := leave(c).of(d); !a.equal(answer{l: want}) {
		t.Fatalf("P18.1: Leave(%d): error %d,%s, want%s", c, a.e, told(a.l), told(want))
	}
}

// takers: consumers without permits.
func takers(c ...uint64) []api.Taker {
	var l []api.Taker
	for _, c := range c {
		l = append(l, api.Taker{Id: c})
	}
	return l
}

// upTo: the numbers from 1 to n.
func upTo(n uint64) []uint64 {
	var l []uint64
	for c := uint64(1); c <= n; c++ {
		l = append(l, c)
	}
	return l
}

func TestExamples(t *testing.T) {
	d := desk(t, api.SAll, join(5), join(3), flow(5, 1), flow(3, 1))
	gets(t, d, 1, "", 5, 3, 0)
	hold(t, "the chapter's example", d, out(pos(1, 0), 5, ""), out(pos(1, 1), 3, ""))
	are(t, "the chapter's example", d, takers(5, 3)...)
}

func TestNewOfAllKinds(t *testing.T) {
	for kind := range 256 {
		d, e := dispatch.New(api.SubKind(kind))
		if right := 1 <= kind && kind <= 4; right && (e != api.OK || d == nil) || !right && (e != api.ErrKind || d != nil) {
			t.Errorf("P18.1: New(%d): error %d, a desk: %v", kind, e, d != nil)
		}
	}
	for _, kind := range kinds() {
		d := desk(t, kind)
		hold(t, "nobody is there", d)
		are(t, "nobody is there", d)
		gets(t, d, 1, "a", 0)
		gets(t, d, 1, "", 0)
		refuses(t, d, api.ErrConsumer, leave(1))
		refuses(t, d, api.ErrConsumer, leave(0))
		refuses(t, d, api.ErrConsumer, flow(1, 1))
		refuses(t, d, api.ErrConsumer, flow(0, 0))
		refuses(t, d, api.ErrNone, done(1, pos(0, 0)))
		refuses(t, d, api.ErrNone, done(0, pos(0, 0)))
	}
}

func TestJoin(t *testing.T) {
	for _, kind := range []api.SubKind{api.SFirst, api.SAll, api.SKeys} {
		d := desk(t, kind)
		ids := []uint64{9, math.MaxUint64, 1, 1 << 63, 2, 70, 3, 1 << 32}
		for i, c := range ids {
			refuses(t, d, api.ErrRange, join(0))
			does(t, d, join(c))
			are(t, "behind the others, without permits", d, takers(ids[:i+1]...)...)
			refuses(t, d, api.ErrExists, join(c))
			refuses(t, d, api.ErrExists, join(9))
		}
		refuses(t, d, api.ErrMany, join(4))
		refuses(t, d, api.ErrMany, join(math.MaxUint64-1))
		refuses(t, d, api.ErrRange, join(0))
		for _, c := range ids {
			refuses(t, d, api.ErrExists, join(c)) // R2: ahead of ErrMany
		}
		goes(t, d, 1)
		does(t, d, join(4))
		refuses(t, d, api.ErrMany, join(1))
		goes(t, d, 9)
		does(t, d, join(9))
		are(t, "one came again", d, takers(math.MaxUint64, 1<<63, 2, 70, 3, 1<<32, 4, 9)...)
	}
}

func TestJoinOfSOne(t *testing.T) {
	d := desk(t, api.SOne, join(7))
	refuses(t, d, api.ErrOwner, join(8))
	refuses(t, d, api.ErrOwner, join(math.MaxUint64))
	refuses(t, d, api.ErrExists, join(7))
	refuses(t, d, api.ErrRange, join(0))
	does(t, d, flow(7, 2))
	gets(t, d, 1, "a", 7)
	refuses(t, d, api.ErrOwner, join(8))
	goes(t, d, 7, out(pos(1, 0), 7, "a"))
	does(t, d, join(8))
	refuses(t, d, api.ErrOwner, join(7))
	are(t, "another one came", d, takers(8)...)
	gets(t, d, 1, "a", 0)
	does(t, d, flow(8, 1))
	gets(t, d, 1, "a", 8, 0)
}

func TestLeave(t *testing.T) {
	d := desk(t, api.SAll, join(5), join(3), join(4), flow(5, 10), flow(3, 10), flow(4, 10))
	for i, at := range []api.Pos{pos(2, 0), pos(1, 9), pos(9, 0), pos(1, 1<<40), pos(2, 1), pos(0, 0), pos(1, 2), pos(9, 1), pos(8, math.MaxUint64), pos(math.MaxUint64, 0)} {
		a := offer(at, "k"+strconv.Itoa(i)).of(d)
		if want := []uint64{5, 3, 4}[i%3]; !a.equal(answer{c: want}) {
			t.Fatalf("P18.2: the place %d: %d, error %d, want %d", i, a.c, a.e, want)
		}
	}
	refuses(t, d, api.ErrConsumer, leave(0))
	refuses(t, d, api.ErrConsumer, leave(6))
	goes(t, d, 5, out(pos(1, 2), 5, "k6"), out(pos(1, 1<<40), 5, "k3"), out(pos(2, 0), 5, "k0"), out(pos(math.MaxUint64, 0), 5, "k9"))
	refuses(t, d, api.ErrConsumer, leave(5))
	refuses(t, d, api.ErrConsumer, flow(5, 1))
	refuses(t, d, api.ErrNone, done(5, pos(2, 0)))
	are(t, "one left", d, api.Taker{Id: 3, Permits: 7}, api.Taker{Id: 4, Permits: 7})
	stay := []api.Out{out(pos(0, 0), 4, "k5"), out(pos(1, 9), 3, "k1"), out(pos(2, 1), 3, "k4"), out(pos(8, math.MaxUint64), 4, "k8"), out(pos(9, 0), 4, "k2"), out(pos(9, 1), 3, "k7")}
	hold(t, "what the others have stays", d, stay...)
	does(t, d, join(5))
	are(t, "one came again, its permits are gone", d, api.Taker{Id: 3, Permits: 7}, api.Taker{Id: 4, Permits: 7}, api.Taker{Id: 5})
	hold(t, "and so is what it had", d, stay...)
	goes(t, d, 5)
	goes(t, d, 4, out(pos(0, 0), 4, "k5"), out(pos(8, math.MaxUint64), 4, "k8"), out(pos(9, 0), 4, "k2"))
	gets(t, d, 0, "again", 3)
	goes(t, d, 3, out(pos(0, 0), 3, "again"), out(pos(1, 9), 3, "k1"), out(pos(2, 1), 3, "k4"), out(pos(9, 1), 3, "k7"))
	hold(t, "all left", d)
	are(t, "all left", d)
}

func TestFlow(t *testing.T) {
	d := desk(t, api.SAll, join(5), join(3))
	wrong := []int{0, -1, -1000, 1001, 1002, 1 << 31, 1 << 32, math.MaxInt - 1, math.MaxInt, math.MinInt, math.MinInt + 1}
	for _, n := range append(wrong, 1, 1000) {
		refuses(t, d, api.ErrConsumer, flow(4, n)) // R2: ahead of ErrPermits
		refuses(t, d, api.ErrConsumer, flow(0, n))
	}
	for _, n := range wrong {
		refuses(t, d, api.ErrPermits, flow(5, n))
	}
	does(t, d, flow(5, 1))
	for _, n := range append(wrong, 1000) {
		refuses(t, d, api.ErrPermits, flow(5, n)) // 1 and MaxInt would go round
	}
	does(t, d, flow(5, 998))
	are(t, "999", d, api.Taker{Id: 5, Permits: 999}, api.Taker{Id: 3})
	refuses(t, d, api.ErrPermits, flow(5, 2))
	does(t, d, flow(5, 1))
	refuses(t, d, api.ErrPermits, flow(5, 1))
	does(t, d, flow(3, 1000))
	refuses(t, d, api.ErrPermits, flow(3, 1))
	are(t, "as many as may be", d, api.Taker{Id: 5, Permits: 1000}, api.Taker{Id: 3, Permits: 1000})
	gets(t, d, 1, "a", 5, 3, 5)
	are(t, "permits go", d, api.Taker{Id: 5, Permits: 998}, api.Taker{Id: 3, Permits: 999})
	does(t, d, done(5, pos(1, 0)))
	goes(t, d, 3, out(pos(1, 1), 3, "a"))
	are(t, "they don't come back", d, api.Taker{Id: 5, Permits: 998})
	refuses(t, d, api.ErrPermits, flow(5, 3))
	does(t, d, flow(5, 2))
	are(t, "there is room for them again", d, api.Taker{Id: 5, Permits: 1000})
}

func TestOfferIsRefused(t *testing.T) {
	for _, kind := range kinds() {
		d := desk(t, kind, join(5), flow(5, 1000))
		for i := range uint64(api.MaxOut) {
			if a := offer(pos(i%3, i), "k").of(d); !a.equal(answer{c: 5}) {
				t.Fatalf("P18.2: kind %d, the place %d: error %d", kind, i, a.e)
			}
			refuses(t, d, api.ErrOut, offer(pos(i%3, i), "k"))
			refuses(t, d, api.ErrOut, offer(pos(0, 0), "another key"))
		}
		for _, at := range []api.Pos{pos(1, 0), pos(0, 256), pos(9, 9), pos(math.MaxUint64, math.MaxUint64)} {
			refuses(t, d, api.ErrMany, offer(at, "k"))
			refuses(t, d, api.ErrMany, offer(at, ""))
		}
		for i := range uint64(api.MaxOut) {
			refuses(t, d, api.ErrOut, offer(pos(i%3, i), "")) // R2: ahead of ErrMany
		}
		are(t, "744 are left", d, api.Taker{Id: 5, Permits: 744})
		does(t, d, done(5, pos(1, 100)))
		if a := offer(pos(1, 101), "k").of(d); !a.equal(answer{c: 5}) {
			t.Fatalf("P18.2: kind %d, with 255 out: error %d", kind, a.e)
		}
		refuses(t, d, api.ErrMany, offer(pos(1, 100), "k"))
		if l, e := d.Leave(5); e != api.OK || len(l) != api.MaxOut {
			t.Fatalf("P18.1: kind %d: Leave of one that has all: %d, error %d", kind, len(l), e)
		}
		gets(t, d, 1, "k", 0)
	}
}

// Without a permit nobody gets anything; that is looked at last.
func TestOfferWithoutPermits(t *testing.T) {
	for _, kind := range kinds() {
		d := desk(t, kind, join(5), flow(5, 256))
		for i := range uint64(255) {
			offer(pos(1, i), "k").of(d)
		}
		does(t, d, done(5, pos(1, 0)))
		if a := offer(pos(3, 0), "k").of(d); !a.equal(answer{c: 5}) {
			t.Fatalf("P18.2: kind %d: error %d", kind, a.e)
		}
		are(t, "the last permit went", d, takers(5)...)
		refuses(t, d, api.ErrPermits, offer(pos(1, 0), "k"))
		refuses(t, d, api.ErrOut, offer(pos(3, 0), "k"))
		does(t, d, flow(5, 1))
		if a := offer(pos(1, 0), "k").of(d); !a.equal(answer{c: 5}) {
			t.Fatalf("P18.2: kind %d: error %d", kind, a.e)
		}
		refuses(t, d, api.ErrMany, offer(pos(1, 255), "k")) // no permit is left either
		refuses(t, d, api.ErrOut, offer(pos(1, 0), "k"))
	}
}

func TestOfferOfSFirst(t *testing.T) {
	d := desk(t, api.SFirst, join(5), join(3), flow(3, 9))
	gets(t, d, 1, "a", 0)
	does(t, d, flow(5, 2))
	gets(t, d, 1, "a", 5, 5, 0)
	goes(t, d, 5, out(pos(1, 0), 5, "a"), out(pos(1, 1), 5, "a"))
	does(t, d, join(5))
	does(t, d, flow(5, 9))
	gets(t, d, 1, "a", 3, 3)
	does(t, d, join(1))
	does(t, d, flow(1, 9))
	goes(t, d, 5)
	gets(t, d, 2, "b", 3)
	goes(t, d, 3, out(pos(1, 0), 3, "a"), out(pos(1, 1), 3, "a"), out(pos(2, 0), 3, "b"))
	gets(t, d, 2, "b", 1)
}

func TestOfferOfSAllGoesRound(t *testing.T) {
	d := desk(t, api.SAll, join(5), join(3), join(4), flow(5, 9), flow(3, 2), flow(4, 4))
	gets(t, d, 1, "a", 5, 3, 4, 5, 3, 4, 5, 4, 5, 4, 5, 5, 5, 5, 5, 0)
	does(t, d, flow(3, 1))
	gets(t, d, 2, "a", 3, 0)
	does(t, d, flow(3, 2)) // it got something last: it is asked last
	does(t, d, flow(5, 1))
	gets(t, d, 3, "a", 5, 3, 3, 0)
}

// What is refused is no turn: whoever got something last is still the one.
func TestOfferOfSAllBehindRefusals(t *testing.T) {
	d := desk(t, api.SAll, join(5), join(3), flow(5, 1))
	gets(t, d, 1, "a", 5, 0)
	refuses(t, d, api.ErrOut, offer(pos(1, 0), "a"))
	does(t, d, flow(5, 5))
	does(t, d, flow(3, 5))
	gets(t, d, 2, "a", 3)
	refuses(t, d, api.ErrOut, offer(pos(1, 0), "a"))
	does(t, d, done(5, pos(1, 0)))
	gets(t, d, 3, "a", 5, 3)
}

func TestOfferOfSAllBehindLeave(t *testing.T) {
	four := []step{join(5), join(3), join(4), join(6), flow(5, 9), flow(3, 9), flow(4, 9), flow(6, 9)}
	d := desk(t, api.SAll, four...)
	gets(t, d, 1, "a", 5, 3)
	goes(t, d, 3, out(pos(1, 1), 3, "a")) // who got something last isn't there: from the first one
	gets(t, d, 2, "a", 5, 4, 6, 5)
	goes(t, d, 4, out(pos(2, 1), 4, "a")) // it got something earlier
	gets(t, d, 3, "a", 6, 5, 6)

	d = desk(t, api.SAll, four...)
	gets(t, d, 1, "a", 5, 3)
	goes(t, d, 3, out(pos(1, 1), 3, "a"))
	does(t, d, join(3)) // it came again, and is the last one: from behind it is from the first one
	does(t, d, flow(3, 9))
	gets(t, d, 2, "a", 5, 4, 6, 3, 5)

	d = desk(t, api.SAll, four...)
	gets(t, d, 1, "a", 5, 3)
	goes(t, d, 3, out(pos(1, 1), 3, "a"))
	for _, s := range []step{join(3), join(7), flow(3, 9), flow(7, 9)} { // nobody got anything while it was away
		does(t, d, s)
	}
	gets(t, d, 2, "a", 7, 5, 4, 6, 3, 7) // from behind it, who came behind it

	d = desk(t, api.SAll, four...)
	gets(t, d, 1, "a", 5, 3)
	goes(t, d, 3, out(pos(1, 1), 3, "a"))
	gets(t, d, 2, "a", 5) // somebody else got something while it was away
	for _, s := range []step{join(3), join(7), flow(3, 9), flow(7, 9)} {
		does(t, d, s)
	}
	gets(t, d, 3, "a", 4, 6, 3, 7, 5)

	d = desk(t, api.SAll, join(5), flow(5, 9))
	gets(t, d, 1, "a", 5)
	goes(t, d, 5, out(pos(1, 0), 5, "a"))
	for _, s := range []step{join(5), join(3), flow(5, 9), flow(3, 9)} { // all had left
		does(t, d, s)
	}
	gets(t, d, 2, "a", 3, 5, 3)
}

// The sum of 123456789 is e3069283 (base sixteen), and that of no bytes 0.
func TestOfferOfSKeysByTheSum(t *testing.T) {
	at := []int{0, 0, 1, 0, 3, 0, 3, 2, 3} // the sum's remainder by how many there are
	rising := []uint64{2, 10, 11, 100, 1 << 32, 1 << 63, math.MaxUint64 - 1, math.MaxUint64}
	for n := 1; n <= api.MaxConsumers; n++ {
		for turn := range n {
			came := slices.Concat(rising[turn:n], rising[:turn]) // it is their numbers that count, not when they came
			if turn%2 == 1 {
				slices.Reverse(came)
			}
			d := desk(t, api.SKeys)
			for _, c := range came {
				does(t, d, join(c))
				does(t, d, flow(c, 9))
			}
			gets(t, d, 1, "123456789", rising[at[n]], rising[at[n]])
			gets(t, d, 2, "", rising[0], rising[0])
		}
	}
}

func TestOfferOfSKeysWhileAKeyIsOut(t *testing.T) {
	d := desk(t, api.SKeys, join(5), flow(5, 2))
	gets(t, d, 1, "123456789", 5)
	for _, s := range []step{join(3), join(4), join(9), flow(3, 9), flow(4, 9), flow(9, 9)} {
		does(t, d, s) // 3, 4, 5, 9: of four the sum says 9
	}
	gets(t, d, 2, "123456789", 5, 0) // the others have permits, but may not have it
	does(t, d, done(5, pos(1, 0)))
	gets(t, d, 3, "123456789", 0)
	does(t, d, done(5, pos(2, 0)))
	gets(t, d, 3, "123456789", 9, 9)
	does(t, d, join(2)) // of five it says 2
	does(t, d, flow(2, 9))
	gets(t, d, 4, "123456789", 9)
	goes(t, d, 9, out(pos(3, 0), 9, "123456789"), out(pos(3, 1), 9, "123456789"), out(pos(4, 0), 9, "123456789"))
	gets(t, d, 5, "123456789", 0) // of 2, 3, 4, 5 it says 5, which has no permit
	does(t, d, flow(5, 1))
	gets(t, d, 5, "123456789", 5, 0)
}

// What is out is with its own key alone, whatever the key's bytes.
func TestOfferOfSKeysByTheKeysBytes(t *testing.T) {
	d := desk(t, api.SKeys, join(5), flow(5, 200))
	keys := []string{"", "\x00", "a", "a\x00", "aa", "A", "ä", "a\u0308", "\xff", "\xff\xfe", strings.Repeat("a", 5000)}
	var want []api.Out
	for i, key := range keys {
		gets(t, d, uint64(i), key, 5)
		want = append(want, out(pos(uint64(i), 0), 5, key))
	}
	hold(t, "keys of all kinds", d, want...)
	for c := uint64(6); c < 13; c++ {
		does(t, d, join(c))
		does(t, d, flow(c, 100))
	}
	others := 0
	for i := range uint64(100) { // those that aren't out go to whom their sums say
		key := "a" + strconv.FormatUint(i, 10)
		if a := offer(pos(100, i), key).of(d); a.e != api.OK {
			t.Fatalf("P18.2: Offer of %q: error %d", key, a.e)
		} else if a.c != 5 {
			others++
		}
	}
	if others < 50 {
		t.Errorf("P18.2: of 100 keys %d went to the others", others)
	}
	for i, key := range keys[:9] {
		gets(t, d, 200+uint64(i), key, 5)
	}
}

func TestDone(t *testing.T) {
	for _, kind := range []api.SubKind{api.SFirst, api.SAll, api.SKeys} {
		d := desk(t, kind, join(5), flow(5, 9))
		gets(t, d, 2, "a", 5)
		does(t, d, join(3))
		gets(t, d, 1, "a", 5, 5)
		for _, at := range []api.Pos{pos(0, 0), pos(1, 2), pos(2, 1), pos(0, 1), pos(3, 0), pos(math.MaxUint64, 0)} {
			for _, c := range []uint64{5, 3, 4, 0} {
				refuses(t, d, api.ErrNone, done(c, at))
			}
		}
		for _, c := range []uint64{3, 4, 0, math.MaxUint64} {
			refuses(t, d, api.ErrConsumer, done(c, pos(1, 1)))
		}
		does(t, d, done(5, pos(1, 1)))
		hold(t, "two are left", d, out(pos(1, 0), 5, "a"), out(pos(2, 0), 5, "a"))
		refuses(t, d, api.ErrNone, done(5, pos(1, 1)))
		refuses(t, d, api.ErrNone, done(3, pos(1, 1)))
		does(t, d, done(5, pos(2, 0)))
		does(t, d, done(5, pos(1, 0)))
		hold(t, "all is done", d)
		if i := slices.Index(d.Consumers(), api.Taker{Id: 5, Permits: 6}); i < 0 {
			t.Errorf("P18.3: kind %d: a permit came back:%s", kind, taken(d.Consumers()))
		}
	}
}

// What is done, or was left, may be offered again, and is out anew.
func TestPlacesAreOfferedAgain(t *testing.T) {
	d := desk(t, api.SAll, join(5), join(3), flow(5, 9), flow(3, 9))
	gets(t, d, 1, "a", 5)
	does(t, d, done(5, pos(1, 0)))
	gets(t, d, 1, "b", 3)
	hold(t, "with another one, of another key", d, out(pos(1, 0), 3, "b"))
	refuses(t, d, api.ErrConsumer, done(5, pos(1, 0)))
	goes(t, d, 3, out(pos(1, 0), 3, "b"))
	gets(t, d, 1, "c", 5)
	hold(t, "left, and with another one", d, out(pos(1, 0), 5, "c"))
}

func TestNilDesk(t *testing.T) {
	var d *dispatch.Desk
	for _, s := range []step{join(0), join(1), leave(0), leave(1), flow(0, 0), flow(1, 1), flow(1, math.MaxInt), offer(pos(0, 0), ""), offer(pos(1, 1), "a"), done(0, pos(0, 0)), done(1, pos(1, 1))} {
		if a := s.of(d); !a.equal(answer{e: api.ErrNil}) {
			t.Errorf("R7: %s of a nil desk: %d, error %d,%s", names([]step{s}), a.c, a.e, told(a.l))
		}
	}
	if l := d.All(); len(l) != 0 {
		t.Errorf("R7: All of a nil desk:%s", told(l))
	}
	if l := d.Consumers(); len(l) != 0 {
		t.Errorf("R7: Consumers of a nil desk:%s", taken(l))
	}
}

// P1: a zero desk, which New didn't make, panics at nothing; it hands nothing out.
func TestZeroDesk(t *testing.T) {
	d := &dispatch.Desk{}
	gets(t, d, 1, "a", 0)
	does(t, d, join(5))
	does(t, d, flow(5, 1))
	gets(t, d, 1, "a", 0)
	refuses(t, d, api.ErrNone, done(5, pos(1, 0)))
	goes(t, d, 5)
}

// text: a text in memory that may be written over.
func text(b []byte) string { return unsafe.String(unsafe.SliceData(b), len(b)) }

func TestMemory(t *testing.T) {
	d := desk(t, api.SKeys, join(5), join(3), flow(5, 9), flow(3, 9))
	b := []byte("key")
	c, e := d.Offer(pos(1, 0), text(b))
	if e != api.OK || string(b) != "key" {
		t.Fatalf("P18.2, R6: Offer: error %d, and what it was handed is %q", e, b)
	}
	copy(b, "???")
	want := out(pos(1, 0), c, "key")
	hold(t, "R6: behind scribbles in a key", d, want)
	gets(t, d, 2, "key", c)
	more := out(pos(2, 0), c, "key")

	l, consumers := d.All(), d.Consumers()
	again := d.All()
	twin, third := *d, *d // of copies, too
	left, _ := twin.Leave(c)
	gone, _ := third.Leave(c)
	at := map[*byte]bool{}
	for _, o := range slices.Concat(l, again, left, gone) {
		at[unsafe.StringData(o.Key)] = true
	}
	if len(at) != 8 {
		t.Error("R6: keys of two answers share memory")
	}
	l[0], left[0], consumers[0] = api.Out{}, api.Out{}, api.Taker{}
	l, left, consumers = append(l[:0], more, more), append(left[:1], more, more), append(consumers[:1], api.Taker{Id: 7}, api.Taker{Id: 8})
	if len(l) != 2 || len(left) != 3 || len(consumers) != 3 {
		t.Fatal("lists that were scribbled in")
	}
	hold(t, "R6: behind scribbles in answers", d, want, more)
	left, _ = d.Leave(c)
	if !slices.Equal(left, []api.Out{want, more}) {
		t.Errorf("R6: behind scribbles in answers: Leave:%s", told(left))
	}
	for _, one := range d.Consumers() {
		if one != (api.Taker{Id: 8 - c, Permits: 9}) { // the other one of 5 and 3
			t.Errorf("R6: behind scribbles in answers: Consumers:%s", taken(d.Consumers()))
		}
	}
}

func TestDesksAreNotInOneAnothersWay(t *testing.T) {
	one, other := desk(t, api.SAll, join(5), join(3), flow(5, 9), flow(3, 9)), desk(t, api.SAll, join(5), join(3), flow(5, 9), flow(3, 9))
	gets(t, one, 1, "a", 5)
	gets(t, other, 1, "a", 5, 3) // R8: by this desk, nobody got anything
	gets(t, one, 2, "a", 3)
	hold(t, "R8: the one desk", one, out(pos(1, 0), 5, "a"), out(pos(2, 0), 3, "a"))
	hold(t, "R8: the other desk", other, out(pos(1, 0), 5, "a"), out(pos(1, 1), 3, "a"))
}

func TestCopiesOfADeskGoTheirOwnWays(t *testing.T) {
	for _, kind := range []api.SubKind{api.SFirst, api.SAll, api.SKeys} {
		ids := upTo(7)
		d := desk(t, kind)
		for _, c := range ids {
			does(t, d, join(c))
			does(t, d, flow(c, 1))
		}
		a := offer(pos(5, 5), "a").of(d)
		outs, consumers := d.All(), d.Consumers()
		more, flowed, gone, handed, finished, left := *d, *d, *d, *d, *d, *d
		does(t, &more, join(8))
		does(t, &flowed, flow(a.c, 3))
		goes(t, &gone, a.c, outs...)
		does(t, &handed, flow(a.c, 3))
		for _, at := range []api.Pos{pos(1, 1), pos(9, 9), pos(5, 6)} {
			offer(at, "a").of(&handed)
		}
		does(t, &finished, done(a.c, pos(5, 5)))
		does(t, d, join(9))
		hold(t, "R8: a copy that was left as it was", &left, outs...)
		are(t, "R8: a copy that was left as it was", &left, consumers...)
		hold(t, "R8: the desk", d, outs...)
		are(t, "R8: the desk", d, append(slices.Clone(consumers), api.Taker{Id: 9})...)
		hold(t, "R8: a copy with a consumer more", &more, outs...)
		are(t, "R8: a copy with a consumer more", &more, append(slices.Clone(consumers), api.Taker{Id: 8})...)
		hold(t, "R8: a copy with permits more", &flowed, outs...)
		hold(t, "R8: a copy with a consumer less", &gone)
		hold(t, "R8: a copy that is done", &finished)
		are(t, "R8: a copy that is done", &finished, consumers...)
		if l := handed.All(); len(l) != 4 {
			t.Errorf("R8: kind %d: a copy that handed out more:%s", kind, told(l))
		}
	}
}
