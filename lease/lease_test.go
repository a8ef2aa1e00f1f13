package lease_test

import (
	"math"
	"slices"
	"strconv"
	"strings"
	"testing"

	"mailcoach/api"
	"mailcoach/lease"
)

const top = math.MaxUint64

// session: of a number, that ends then and lives so long.
func session(id, ends, life uint64) api.Session {
	return api.Session{Id: id, Ends: ends, Life: life}
}

// many: n sessions, their numbers 1, 3, 5 and so on.
func many(n int) []api.Session {
	var l []api.Session
	for i := range uint64(n) {
		l = append(l, session(2*i+1, 10*i+100, i+1))
	}
	return l
}

// told: numbers as a text.
func told(l []uint64) string {
	var s []string
	for _, n := range l {
		s = append(s, strconv.FormatUint(n, 10))
	}
	return "[" + strings.Join(s, " ") + "]"
}

// hold: a book's last number and its sessions, by All and by Live.
func hold(t *testing.T, what string, b *lease.Book, last uint64, want ...api.Session) {
	t.Helper()
	n, l := b.All()
	if n != last || !slices.Equal(l, want) {
		t.Fatalf("P7.1: %s: All: %d, %v; want %d, %v", what, n, l, last, want)
	}
	there := map[uint64]bool{}
	for _, s := range want {
		there[s.Id] = true
		for _, now := range []uint64{0, s.Ends - 1, s.Ends, s.Ends + 1, 1 << 32, 1 << 63, top - 1, top} {
			if got := b.Live(s.Id, now); got != (s.Ends > now) {
				t.Fatalf("P7.2: %s: Live(%d, %d): %v, of %v", what, s.Id, now, got, s)
			}
		}
	}
	for _, s := range slices.Concat(want, []api.Session{session(0, 0, 0), session(last, 0, 0), session(top, 0, 0)}) {
		for _, id := range []uint64{s.Id - 1, s.Id, s.Id + 1, s.Id ^ 1<<32} {
			if !there[id] && (b.Live(id, 0) || b.Live(id, top)) {
				t.Fatalf("P7.2: %s: Live(%d, 0), which isn't there: true", what, id)
			}
		}
	}
}

// made: a book of just these sessions.
func made(t *testing.T, last uint64, l ...api.Session) *lease.Book {
	t.Helper()
	b, ok := lease.New(last, l)
	if !ok || b == nil {
		t.Fatalf("P7.1: New(%d, %v): %v", last, l, ok)
	}
	hold(t, "behind New", b, last, l...)
	return b
}

// none: sessions of which there is no book.
func none(t *testing.T, what string, last uint64, l ...api.Session) {
	t.Helper()
	if b, ok := lease.New(last, l); ok || b != nil {
		t.Errorf("P7.1, R3: New(%d, %s): %v, %v", last, what, b, ok)
	}
}

// opens: a session more, and its number.
func opens(t *testing.T, b *lease.Book, now, life, want uint64) {
	t.Helper()
	if id, e := b.Open(now, life); id != want || e != api.OK {
		t.Fatalf("P7.2: Open(%d, %d): %d, error %d; want %d", now, life, id, e, want)
	}
}

// shut: an Open that answers an error, and changes nothing.
func shut(t *testing.T, b *lease.Book, now, life uint64, code api.Errno) {
	t.Helper()
	last, l := b.All()
	if id, e := b.Open(now, life); id != 0 || e != code {
		t.Errorf("P7.2: Open(%d, %d): %d, error %d; want error %d", now, life, id, e, code)
	}
	hold(t, "R4: behind an Open that was refused", b, last, l...)
}

// renews: a session; one that is refused changes nothing.
func renews(t *testing.T, b *lease.Book, id, now uint64, code api.Errno) {
	t.Helper()
	last, l := b.All()
	if e := b.Renew(id, now); e != code {
		t.Errorf("P7.2: Renew(%d, %d): error %d, want %d", id, now, e, code)
	}
	if code != api.OK {
		hold(t, "R4: behind a Renew that was refused", b, last, l...)
	}
}

// closes: a session; one that is refused changes nothing.
func closes(t *testing.T, b *lease.Book, id uint64, code api.Errno) {
	t.Helper()
	last, l := b.All()
	if e := b.Close(id); e != code {
		t.Errorf("P7.2: Close(%d): error %d, want %d", id, e, code)
	}
	if code == api.OK {
		l = slices.DeleteFunc(l, func(s api.Session) bool { return s.Id == id })
	}
	hold(t, "behind Close", b, last, l...)
}

// expires: what goes, and that nothing else does.
func expires(t *testing.T, b *lease.Book, now uint64, want ...uint64) {
	t.Helper()
	last, l := b.All()
	if got := b.Expire(now); !slices.Equal(got, want) {
		t.Errorf("P7.2: Expire(%d): %s, want %s", now, told(got), told(want))
	}
	hold(t, "behind Expire", b, last, slices.DeleteFunc(l, func(s api.Session) bool { return slices.Contains(want, s.Id) })...)
}

func TestExamples(t *testing.T) {
	b := made(t, 0)
	opens(t, b, 5, 10, 1)
	hold(t, "the chapter's example", b, 1, session(1, 15, 10))
	renews(t, b, 1, 14, api.OK)
	hold(t, "the chapter's example", b, 1, session(1, 24, 10))
	expires(t, b, 15)
	expires(t, b, 24, 1)
}

func TestNew(t *testing.T) {
	for name, l := range map[string][]api.Session{
		"one":                     {session(1, 5, 3)},
		"the greatest":            {session(top, top, api.MaxTime)},
		"one that never lived":    {session(1, 0, 1)},
		"ends that fall":          {session(1, 9, 1), session(2, 8, 1), session(3, 7, 2)},
		"numbers far apart":       {session(1, 1, 1), session(1<<32, 1, 1), session(1<<63, 1, 1), session(top, 1, 1)},
		"the last numbers":        {session(top-1, 1, 1), session(top, 1, 1)},
		"as many as may be":       many(api.MaxSessions),
		"one less than may be":    many(api.MaxSessions - 1),
		"a life beyond its end":   {session(1, 2, 1000)},
		"lives of all lengths":    {session(1, 2, 1), session(2, 2, 2), session(3, 2, api.MaxTime-1), session(4, 2, api.MaxTime)},
		"none, of no room either": {},
	} {
		last := uint64(1)
		if len(l) > 0 {
			last = l[len(l)-1].Id
		}
		t.Run(name, func(t *testing.T) {
			made(t, last, l...)
			made(t, top, l...)
		})
	}
	for _, last := range []uint64{0, 1, 7, 1 << 63, top} {
		b, ok := lease.New(last, nil)
		if !ok || b == nil {
			t.Fatalf("P7.1, R5: New(%d, nil): %v", last, ok)
		}
		hold(t, "a book without sessions", b, last)
	}
	hold(t, "a zero book", &lease.Book{}, 0)
}

func TestNewRefuses(t *testing.T) {
	good, more := session(5, 9, 3), session(7, 9, 3)
	for name, l := range map[string][]api.Session{
		"the number 0":                 {session(0, 9, 3)},
		"the number 0 ahead":           {session(0, 9, 3), good},
		"the number 0 behind":          {good, session(0, 9, 3)},
		"a number above the last":      {session(8, 9, 3)},
		"one above the last behind":    {good, more, session(8, 9, 3)},
		"one far above the last":       {good, session(top, 9, 3)},
		"the same number twice":        {good, good},
		"the same number, else others": {good, session(5, 10, 4)},
		"numbers that fall":            {more, good},
		"numbers that fall at the end": {session(1, 9, 3), more, good},
		"no life":                      {session(5, 9, 0)},
		"no life ahead":                {session(1, 9, 0), good},
		"no life behind":               {good, session(7, 9, 0)},
		"a life too long":              {session(5, 9, api.MaxTime+1)},
		"a life too long behind":       {good, session(7, 9, api.MaxTime+1)},
		"the longest life":             {session(5, 9, top)},
		"a zero session":               {{}},
	} {
		none(t, name, 7, l...)
	}
	none(t, "a session, and 0 was the last", 0, session(1, 9, 3))
	for _, n := range []int{api.MaxSessions + 1, api.MaxSessions + 2, 20 * api.MaxSessions} {
		none(t, "more than there may be", top, many(n)...)
	}
	for i := range api.MaxSessions {
		l := many(api.MaxSessions)
		l[i].Life = 0
		none(t, "one without a life", top, l...)
		if l = many(api.MaxSessions); i > 0 {
			l[i].Id = l[i-1].Id
			none(t, "two of a number", top, l...)
		}
		l = many(api.MaxSessions)
		none(t, "one above the last", l[i].Id-1, l...)
	}
}

func TestOpen(t *testing.T) {
	b := made(t, 0)
	opens(t, b, 0, 1, 1)
	opens(t, b, 0, api.MaxTime, 2)
	opens(t, b, 7, 1, 3)
	opens(t, b, 3, 2, 4)
	want := []api.Session{session(1, 1, 1), session(2, api.MaxTime, api.MaxTime), session(3, 8, 1), session(4, 5, 2)}
	hold(t, "behind Open", b, 4, want...)
	for _, now := range []uint64{0, 1, 1000, top} {
		for _, life := range []uint64{0, api.MaxTime + 1, 1 << 41, 1 << 63, top} {
			shut(t, b, now, life, api.ErrTime)
		}
	}
	hold(t, "behind all", b, 4, want...)
	b = made(t, 40, session(7, 9, 3))
	opens(t, b, 1, 1, 41)
	hold(t, "a number above the last, not above the greatest", b, 41, session(7, 9, 3), session(41, 2, 1))
	b = &lease.Book{}
	opens(t, b, 1, 2, 1)
	hold(t, "a zero book, behind Open", b, 1, session(1, 3, 2))
}

func TestOpenAtTheEndOfTime(t *testing.T) {
	for _, c := range []struct{ now, life, ends uint64 }{
		{top - 10, 9, top - 1}, {top - 10, 10, top}, {top - 10, 11, top}, {top - 10, api.MaxTime, top}, {top, 1, top},
		{top, api.MaxTime, top}, {top - 1, 1, top}, {top - 1, 2, top}, {top - api.MaxTime, api.MaxTime, top},
		{top - api.MaxTime - 1, api.MaxTime, top - 1}, {top - api.MaxTime + 1, api.MaxTime, top}, {1 << 63, api.MaxTime, 1<<63 + api.MaxTime},
	} {
		b := made(t, 0)
		opens(t, b, c.now, c.life, 1)
		hold(t, "an end as late as can be", b, 1, session(1, c.ends, c.life))
		b = made(t, 1, session(1, top, c.life))
		if c.now < top {
			renews(t, b, 1, c.now, api.OK)
			hold(t, "renewed, that ends as late as can be", b, 1, session(1, top, c.life))
			b = made(t, 1, session(1, c.now+1, c.life))
			renews(t, b, 1, c.now, api.OK)
			hold(t, "renewed, as late as can be", b, 1, session(1, c.ends, c.life))
		}
	}
	b := made(t, 0)
	opens(t, b, top, 1, 1)
	renews(t, b, 1, top, api.ErrExpired)
	expires(t, b, top-1)
	expires(t, b, top, 1)
}

func TestOpenOfMany(t *testing.T) {
	b := made(t, 0)
	for i := range uint64(api.MaxSessions) {
		opens(t, b, 0, i+1, i+1)
	}
	shut(t, b, 0, 1, api.ErrMany)
	shut(t, b, 1000, api.MaxTime, api.ErrMany) // all are over, but they are there
	closes(t, b, 5, api.OK)
	opens(t, b, 0, 1, 17)
	shut(t, b, 0, 1, api.ErrMany)
	expires(t, b, 2, 1, 2, 17)
	for i := range uint64(3) {
		opens(t, b, 2, 9, 18+i)
	}
	shut(t, b, 0, 1, api.ErrMany)
	b = made(t, 100, many(api.MaxSessions)...)
	shut(t, b, 0, 1, api.ErrMany)
	b = made(t, 100, many(api.MaxSessions-1)...)
	opens(t, b, 0, 1, 101)
	shut(t, b, 0, 1, api.ErrMany)
}

func TestOpenOfTheLastNumbers(t *testing.T) {
	b := made(t, top-2)
	opens(t, b, 0, 1, top-1)
	opens(t, b, 0, 2, top)
	shut(t, b, 0, 1, api.ErrMany)
	hold(t, "the last numbers", b, top, session(top-1, 1, 1), session(top, 2, 2))
	closes(t, b, top, api.OK)
	closes(t, b, top-1, api.OK)
	shut(t, b, 0, 1, api.ErrMany)
	hold(t, "no number is left", b, top)
}

// R2: of two errors of an Open, the one that the sentence names first.
func TestOpenAnswersTheFirstError(t *testing.T) {
	for _, b := range []*lease.Book{made(t, 100, many(api.MaxSessions)...), made(t, top), made(t, top, many(api.MaxSessions)...)} {
		for _, life := range []uint64{0, api.MaxTime + 1, top} {
			shut(t, b, 3, life, api.ErrTime)
		}
		shut(t, b, 3, 1, api.ErrMany)
		shut(t, b, 3, api.MaxTime, api.ErrMany)
	}
}

func TestNumbersAreGivenOnce(t *testing.T) {
	b := made(t, 0)
	for i := uint64(1); i < 100; i++ {
		opens(t, b, i, 2, i)
		if i%3 == 0 {
			closes(t, b, i, api.OK)
		} else {
			expires(t, b, i+2, i)
		}
		hold(t, "behind one that went", b, i)
	}
}

func TestRenew(t *testing.T) {
	for _, c := range []struct{ ends, life, now, want uint64 }{
		{10, 4, 0, 10}, {10, 4, 5, 10}, {10, 4, 6, 10}, {10, 4, 7, 11}, {10, 4, 9, 13}, {10, 1, 9, 10}, {10, 1, 8, 10},
		{10, 100, 0, 100}, {1, 1, 0, 1}, {1, 2, 0, 2}, {10, api.MaxTime, 9, api.MaxTime + 9}, {top, 1, top - 1, top}, {top, api.MaxTime, 0, top},
	} {
		l := []api.Session{session(2, 1, 1), session(3, c.ends, c.life), session(9, top, 1)}
		b := made(t, 12, l...)
		renews(t, b, 3, c.now, api.OK)
		l[1].Ends = c.want
		hold(t, "behind Renew", b, 12, l...)
		renews(t, b, 3, c.now, api.OK)
		hold(t, "behind the same Renew again", b, 12, l...)
	}
}

func TestRenewRefuses(t *testing.T) {
	b := made(t, 12, session(2, 0, 1), session(3, 10, 4), session(9, top, 1), session(11, 1, api.MaxTime))
	for _, now := range []uint64{0, 9, 10, top} {
		for _, id := range []uint64{0, 1, 4, 8, 10, 12, 13, 1<<32 + 3, top} {
			renews(t, b, id, now, api.ErrNone)
		}
		renews(t, b, 2, now, api.ErrExpired)
	}
	for _, now := range []uint64{10, 11, 14, 1 << 40, top} {
		renews(t, b, 3, now, api.ErrExpired)
		renews(t, b, 11, now, api.ErrExpired)
	}
	renews(t, b, 11, 1, api.ErrExpired)
	renews(t, b, 9, top, api.ErrExpired)
	renews(t, b, 3, 9, api.OK)
	renews(t, b, 3, 10, api.OK) // it was over at 10, ahead of that
	hold(t, "behind all", b, 12, session(2, 0, 1), session(3, 14, 4), session(9, top, 1), session(11, 1, api.MaxTime))
}

func TestClose(t *testing.T) {
	for _, order := range [][]uint64{{2, 3, 9}, {9, 3, 2}, {3, 9, 2}, {3, 2, 9}} {
		b := made(t, 12, session(2, 0, 1), session(3, 10, 4), session(9, top, 1))
		for _, id := range order {
			for _, no := range []uint64{0, 1, 4, 8, 10, 12, 13, 1<<32 + 3, top} {
				closes(t, b, no, api.ErrNone)
			}
			closes(t, b, id, api.OK)
			closes(t, b, id, api.ErrNone)
			renews(t, b, id, 0, api.ErrNone)
		}
		hold(t, "behind all", b, 12)
		expires(t, b, top)
		opens(t, b, 1, 1, 13)
		hold(t, "behind all, and Open", b, 13, session(13, 2, 1))
	}
}

func TestExpire(t *testing.T) {
	l := []api.Session{session(1, 30, 1), session(3, 10, 9), session(4, 20, 1), session(8, 10, 2), session(9, 0, 1), session(10, top, 1)}
	for now, want := range map[uint64][]uint64{
		0: {9}, 1: {9}, 9: {9}, 10: {3, 8, 9}, 19: {3, 8, 9}, 20: {3, 4, 8, 9}, 29: {3, 4, 8, 9}, 30: {1, 3, 4, 8, 9}, 31: {1, 3, 4, 8, 9},
		top - 1: {1, 3, 4, 8, 9}, top: {1, 3, 4, 8, 9, 10},
	} {
		b := made(t, 12, l...)
		expires(t, b, now, want...)
		expires(t, b, now)
		for _, id := range want {
			renews(t, b, id, 0, api.ErrNone)
			closes(t, b, id, api.ErrNone)
		}
		opens(t, b, now, 5, 13)
	}
	b := made(t, 12, l...)
	expires(t, b, 20, 3, 4, 8, 9)
	expires(t, b, 3) // what is gone doesn't come again
	expires(t, b, 30, 1)
	expires(t, b, top, 10)
	expires(t, b, top)
	b = made(t, 100, many(api.MaxSessions)...)
	var all []uint64
	for _, s := range many(api.MaxSessions) {
		all = append(all, s.Id)
	}
	expires(t, b, 99)
	expires(t, b, top, all...)
	expires(t, made(t, 5), top)
}

func TestWhatIsHandedInIsLeftAlone(t *testing.T) {
	mark, l := session(99, 99, 99), []api.Session{session(1, 10, 4), session(2, 20, 4), session(3, 30, 4)}
	whole := slices.Concat([]api.Session{mark}, l, []api.Session{mark, mark})
	before, part := slices.Clone(whole), whole[1:4]
	b := made(t, 3, part...)
	opens(t, b, 0, 5, 4)
	renews(t, b, 1, 9, api.OK)
	closes(t, b, 2, api.OK)
	expires(t, b, 15, 1, 4)
	if !slices.Equal(whole, before) {
		t.Errorf("R6: what was handed in, or room around it, was changed: %v", whole)
	}
	b, _ = lease.New(3, part)
	for i := range whole {
		whole[i] = mark
	}
	hold(t, "R6: behind scribbles in what was handed in", b, 3, l...)
}

func TestAnswersAreNewMemory(t *testing.T) {
	for n := 1; n < api.MaxSessions; n++ {
		l := many(n)
		b := made(t, 100, l...)
		_, first := b.All()
		_, second := b.All()
		first = first[:cap(first)]
		for i := range first {
			first[i] = session(77, 77, 77)
		}
		hold(t, "R6: behind scribbles in an answer", b, 100, l...)
		renews(t, b, 1, 99, api.OK)
		renews(t, b, 2*uint64(n)-1, 99, api.OK)
		opens(t, b, 500, 5, 101)
		gone := b.Expire(200)
		before := slices.Clone(gone)
		if !slices.Equal(second, l) {
			t.Errorf("R6: an answer goes with its book: %v", second)
		}
		b.Expire(top)
		if !slices.Equal(gone, before) {
			t.Errorf("R6: an Expire's answer goes with its book: %s", told(gone))
		}
	}
}

func TestNilBook(t *testing.T) {
	var b *lease.Book
	for _, n := range []uint64{0, 1, api.MaxTime + 1, top} {
		if id, e := b.Open(0, n); id != 0 || e != api.ErrNil {
			t.Errorf("R7: Open(0, %d) of a nil book: %d, error %d", n, id, e)
		}
		if e := b.Renew(n, 0); e != api.ErrNil {
			t.Errorf("R7: Renew(%d, 0) of a nil book: error %d", n, e)
		}
		if e := b.Close(n); e != api.ErrNil {
			t.Errorf("R7: Close(%d) of a nil book: error %d", n, e)
		}
		if l := b.Expire(n); len(l) != 0 {
			t.Errorf("R7: Expire(%d) of a nil book: %s", n, told(l))
		}
		if b.Live(n, 0) {
			t.Errorf("R7: Live(%d, 0) of a nil book: true", n)
		}
	}
	if last, l := b.All(); last != 0 || len(l) != 0 {
		t.Errorf("R7: All of a nil book: %d, %v", last, l)
	}
}

func TestBooksAreNotInOneAnothersWay(t *testing.T) {
	one, other := made(t, 0), made(t, 7)
	opens(t, one, 1, 2, 1)
	opens(t, other, 3, 4, 8)
	hold(t, "R8: the one book", one, 1, session(1, 3, 2))
	expires(t, one, 9, 1)
	hold(t, "R8: the other book", other, 8, session(8, 7, 4))
	hold(t, "R8: a third book", made(t, 0), 0)
}

func TestCopiesOfABookGoTheirOwnWays(t *testing.T) {
	for n := 2; n < api.MaxSessions; n++ {
		l := many(n)
		b := made(t, 50, l...)
		more, longer, closed, expired, left := *b, *b, *b, *b, *b
		opens(t, &more, 1, 2, 51)
		opens(t, b, 3, 4, 51)
		renews(t, &longer, 3, 109, api.OK)
		closes(t, &closed, 1, api.OK)
		expires(t, &expired, 100, 1)
		hold(t, "R8: the book", b, 51, append(slices.Clone(l), session(51, 7, 4))...)
		hold(t, "R8: a copy that was left as it was", &left, 50, l...)
		hold(t, "R8: a copy with another session more", &more, 51, append(slices.Clone(l), session(51, 3, 2))...)
		hold(t, "R8: a copy with one that lives longer", &longer, 50, slices.Concat(l[:1], []api.Session{session(3, 111, 2)}, l[2:])...)
		hold(t, "R8: a copy of which one was closed", &closed, 50, l[1:]...)
		hold(t, "R8: a copy of which one has gone", &expired, 50, l[1:]...)
	}
}
