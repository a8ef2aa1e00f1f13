package dedup_test

import (
	"bytes"
	"math"
	"slices"
	"strconv"
	"strings"
	"testing"
	"unsafe"

	"mailcoach/api"
	"mailcoach/dedup"
	"mailcoach/pack"
)

const top = math.MaxUint64

// pos: a place.
func pos(ledger, entry uint64) api.Pos { return api.Pos{Ledger: ledger, Entry: entry} }

// line: a sender's, all of whose numbers are done.
func line(name string, done uint64, at api.Pos) api.Line {
	return api.Line{Name: name, Top: done, Done: done, At: at}
}

// begun: a sender's line, of which nothing is done.
func begun(name string, seq uint64) api.Line { return api.Line{Name: name, Top: seq} }

// written: the bytes of a table, by Write.
func written(x *dedup.Table) []byte {
	w := &pack.Writer{}
	x.Write(w)
	return w.Done()
}

// taken: a table of bytes that are right.
func taken(t *testing.T, b []byte) *dedup.Table {
	t.Helper()
	var x *dedup.Table
	if e := pack.Read(b, func(r *pack.Reader) { x = dedup.Take(r) }); e != api.OK || x == nil {
		t.Fatalf("P15.2: Take of % x: error %d", b, e)
	}
	return x
}

// hold: a table's lines (by their names), by All, Last and Write.
func hold(t *testing.T, what string, x *dedup.Table, want ...api.Line) {
	t.Helper()
	if got := x.All(); !slices.Equal(got, want) {
		t.Fatalf("P15.1: %s: All:%s, want%s", what, told(got), told(want))
	}
	for _, w := range want {
		if l, ok := x.Last(w.Name); !ok || l != w {
			t.Fatalf("P15.1: %s: Last(%.20q): %v,%s", what, w.Name, ok, told([]api.Line{l}))
		}
	}
	for _, name := range []string{"", "nobody", strings.Repeat("a", 65)} {
		if l, ok := x.Last(name); ok || l != (api.Line{}) {
			t.Fatalf("P15.1, R3: %s: Last(%.20q): %v,%s", what, name, ok, told([]api.Line{l}))
		}
	}
	if b := written(x); !bytes.Equal(b, plainBytes(want)) {
		t.Fatalf("P15.2: %s: Write: % x", what, b)
	}
}

// begins: a number, and its error; one that is refused changes nothing.
func begins(t *testing.T, x *dedup.Table, name string, seq uint64, code api.Errno) {
	t.Helper()
	before := x.All()
	if e := x.Begin(name, seq); e != code {
		t.Fatalf("P15.1: Begin(%.20q, %d): error %d, want %d, of%s", name, seq, e, code, told(before))
	}
	if code != api.OK {
		hold(t, "R4: behind a Begin that was refused", x, before...)
	}
}

// does: a number that is done, and its error; one that is refused changes nothing.
func does(t *testing.T, x *dedup.Table, name string, seq uint64, at api.Pos, code api.Errno) {
	t.Helper()
	before := x.All()
	if e := x.Done(name, seq, at); e != code {
		t.Fatalf("P15.1: Done(%.20q, %d): error %d, want %d, of%s", name, seq, e, code, told(before))
	}
	if code != api.OK {
		hold(t, "R4: behind a Done that was refused", x, before...)
	}
}

// full: a table of as many lines as there may be; of each second one nothing is done.
func full(t *testing.T) (*dedup.Table, []api.Line) {
	t.Helper()
	x := dedup.New()
	var l []api.Line
	for i := range uint64(api.MaxProducers) {
		name := "s" + strconv.Itoa(10+int(i))
		begins(t, x, name, i+5, api.OK)
		l = append(l, begun(name, i+5))
		if i%2 == 0 {
			does(t, x, name, i+3, pos(i, 2*i), api.OK)
			l[i].Done, l[i].At = i+3, pos(i, 2*i)
		}
	}
	hold(t, "as many as there may be", x, l...)
	return x, l
}

func TestExamples(t *testing.T) {
	x := dedup.New()
	begins(t, x, "a", 3, api.OK)
	begins(t, x, "a", 3, api.ErrPending)
	does(t, x, "a", 3, pos(4, 7), api.OK)
	begins(t, x, "a", 2, api.ErrOld)
	begins(t, x, "a", 5, api.OK)
	hold(t, "the chapter's example", x, api.Line{Name: "a", Top: 5, Done: 3, At: pos(4, 7)})
	x.Forget()
	hold(t, "the chapter's example", x, line("a", 3, pos(4, 7)))
}

func TestNewHasNoLines(t *testing.T) {
	for what, x := range map[string]*dedup.Table{"a new table": dedup.New(), "a zero table": {}, "a table of no lines": taken(t, []byte{0})} {
		hold(t, what, x)
		does(t, x, "a", 0, pos(1, 1), api.ErrNone)
		does(t, x, "a", 1, pos(1, 1), api.ErrNone)
		does(t, x, "", 0, pos(1, 1), api.ErrNone)
		x.Forget()
		hold(t, what+", behind Forget", x)
		begins(t, x, "a", 1, api.OK)
		hold(t, what+", behind Begin", x, begun("a", 1))
	}
}

func TestNamesByLength(t *testing.T) {
	long := strings.Repeat("n", api.MaxName)
	wide := strings.Repeat("ä", api.MaxName/2) // two bytes each: 64
	x := dedup.New()
	for _, name := range []string{"", long + "n", wide + "ä", wide + "n", strings.Repeat("ä", api.MaxName), strings.Repeat(long, 100)} {
		for _, seq := range []uint64{0, 1, top} { // R2: a name is looked at ahead of its number
			begins(t, x, name, seq, api.ErrName)
			does(t, x, name, seq, pos(1, 2), api.ErrNone)
		}
	}
	hold(t, "no name was right", x)
	names := []string{"\x00", "\x00\x00", "A", "n", long[1:], long, wide, "\xff", "\xff\xfe no text", strings.Repeat("\xff", api.MaxName)}
	slices.SortFunc(names, func(a, b string) int { return slices.Compare([]byte(a), []byte(b)) })
	var l []api.Line
	for i, name := range names {
		begins(t, x, name, uint64(i+1), api.OK)
		l = append(l, begun(name, uint64(i+1)))
	}
	hold(t, "names of all kinds", x, l...)
}

// Names go by their bytes: not by their letters, nor by their lengths, nor as they came.
func TestLinesGoByTheirNames(t *testing.T) {
	names := []string{"\x00", "A", "Z", "a", "a\x00", "aa", "ab", "b", "z", "\u007f", "ä", "ﬀ", "𐀀", "\xff"}
	var l []api.Line
	for i, name := range names {
		l = append(l, line(name, uint64(i+1), pos(9, uint64(i))))
	}
	for from := range names {
		for _, by := range []int{1, 3, 5, 9, 11, 13} { // each has no divisor in common with 14: all names come
			x := dedup.New()
			for i := range names {
				n := (from + i*by) % len(names)
				begins(t, x, names[n], uint64(n+1), api.OK)
				does(t, x, names[n], uint64(n+1), pos(9, uint64(n)), api.OK)
			}
			hold(t, "names in whatever order", x, l...)
		}
	}
}

func TestBeginOfNumbers(t *testing.T) {
	x := dedup.New()
	begins(t, x, "a", 0, api.ErrRange)
	begins(t, x, "a", 10, api.OK)
	hold(t, "of a new line nothing is done", x, begun("a", 10))
	for _, seq := range []uint64{1, 2, 9, 10} {
		begins(t, x, "a", seq, api.ErrPending)
	}
	begins(t, x, "a", 0, api.ErrRange)
	begins(t, x, "a", 11, api.OK)
	begins(t, x, "a", 20, api.OK)
	hold(t, "numbers may be left out", x, begun("a", 20))
	does(t, x, "a", 15, pos(3, 4), api.OK)
	for _, seq := range []uint64{1, 10, 14, 15} {
		begins(t, x, "a", seq, api.ErrOld)
	}
	for _, seq := range []uint64{16, 19, 20} {
		begins(t, x, "a", seq, api.ErrPending)
	}
	begins(t, x, "a", 0, api.ErrRange)
	begins(t, x, "a", 21, api.OK)
	hold(t, "what is done stays", x, api.Line{Name: "a", Top: 21, Done: 15, At: pos(3, 4)})
	begins(t, x, "b", 1, api.OK)
	begins(t, x, "a", top, api.OK)
	begins(t, x, "a", top, api.ErrPending)
	hold(t, "the greatest number", x, api.Line{Name: "a", Top: top, Done: 15, At: pos(3, 4)}, begun("b", 1))
	does(t, x, "a", top, pos(0, 0), api.OK)
	begins(t, x, "a", top, api.ErrOld)
	begins(t, x, "a", 1<<63, api.ErrOld)
	hold(t, "the greatest number, done", x, line("a", top, pos(0, 0)), begun("b", 1))
}

func TestDoneOfNumbers(t *testing.T) {
	x := dedup.New()
	begins(t, x, "a", 10, api.OK)
	for _, seq := range []uint64{11, 12, 1 << 32, 1 << 63, top} {
		does(t, x, "a", seq, pos(1, 1), api.ErrNone)
	}
	does(t, x, "b", 1, pos(1, 1), api.ErrNone)
	does(t, x, "b", 0, pos(1, 1), api.ErrNone)
	does(t, x, "a", 0, pos(1, 1), api.ErrOld) // 0 is at most the Done of a line of which nothing is done
	does(t, x, "a", 4, pos(top, 1), api.OK)   // one that wasn't begun itself, but is below the Top
	hold(t, "a number below the Top", x, api.Line{Name: "a", Top: 10, Done: 4, At: pos(top, 1)})
	for _, seq := range []uint64{0, 1, 3, 4} {
		does(t, x, "a", seq, pos(9, 9), api.ErrOld)
	}
	does(t, x, "a", 5, pos(2, top), api.OK) // a place that is ahead of the one that was told
	hold(t, "the place is the later number's", x, api.Line{Name: "a", Top: 10, Done: 5, At: pos(2, top)})
	does(t, x, "a", 10, pos(0, 0), api.OK)
	hold(t, "all is done", x, line("a", 10, pos(0, 0)))
	does(t, x, "a", 10, pos(1, 1), api.ErrOld)
	does(t, x, "a", 11, pos(1, 1), api.ErrNone)
	begins(t, x, "a", 11, api.OK)
	hold(t, "begun again", x, api.Line{Name: "a", Top: 11, Done: 10, At: pos(0, 0)})
}

func TestForget(t *testing.T) {
	x, l := full(t)
	x.Forget()
	var left []api.Line
	for _, l := range l {
		if l.Done > 0 {
			left = append(left, line(l.Name, l.Done, l.At))
		}
	}
	hold(t, "behind Forget", x, left...)
	x.Forget()
	hold(t, "behind a second Forget", x, left...)
	begins(t, x, left[0].Name, left[0].Done, api.ErrOld)
	does(t, x, left[0].Name, left[0].Done+1, pos(8, 8), api.ErrNone) // that was begun, and counts no more
	begins(t, x, left[0].Name, left[0].Done+1, api.OK)
	does(t, x, "s11", 1, pos(8, 8), api.ErrNone)
	begins(t, x, "s11", 1, api.OK) // it was begun with 6, and forgotten
	x.Forget()
	hold(t, "behind a third Forget", x, left...)
	only := dedup.New()
	begins(t, only, "a", top, api.OK)
	only.Forget()
	hold(t, "one alone, forgotten", only)
	begins(t, only, "a", 1, api.OK)
	hold(t, "one alone, begun again", only, begun("a", 1))
}

func TestBeginOfMany(t *testing.T) {
	x, l := full(t)
	begins(t, x, "one more", 1, api.ErrMany)
	begins(t, x, "one more", top, api.ErrMany)
	begins(t, x, "one more", 0, api.ErrRange)
	begins(t, x, "", 1, api.ErrName)
	begins(t, x, strings.Repeat("n", 65), 0, api.ErrName)
	does(t, x, "one more", 1, pos(1, 1), api.ErrNone)
	for i := range l {
		begins(t, x, l[i].Name, l[i].Top, api.ErrPending)
		begins(t, x, l[i].Name, l[i].Top+1, api.OK) // who has a line needs no room
		l[i].Top++
	}
	hold(t, "as many as there may be, gone on", x, l...)
	x.Forget()
	for i := range 8 {
		begins(t, x, "t"+strconv.Itoa(i), 1, api.OK)
	}
	begins(t, x, "t8", 1, api.ErrMany)
	for i := range 8 {
		does(t, x, "t"+strconv.Itoa(i), 1, pos(1, uint64(i)), api.OK)
	}
	x.Forget() // none goes
	begins(t, x, "t8", 1, api.ErrMany)
	x = taken(t, written(x))
	begins(t, x, "t8", 1, api.ErrMany)
	begins(t, x, "t7", 2, api.OK)
}

func TestNilTable(t *testing.T) {
	var x *dedup.Table
	for _, name := range []string{"", "a", strings.Repeat("a", 65)} {
		for _, seq := range []uint64{0, 1, top} {
			if e := x.Begin(name, seq); e != api.ErrNil {
				t.Errorf("R7: Begin(%.20q, %d) of a nil table: error %d", name, seq, e)
			}
			if e := x.Done(name, seq, pos(1, 1)); e != api.ErrNil {
				t.Errorf("R7: Done(%.20q, %d) of a nil table: error %d", name, seq, e)
			}
		}
		if l, ok := x.Last(name); ok || l != (api.Line{}) {
			t.Errorf("R7: Last(%.20q) of a nil table: %v,%s", name, ok, told([]api.Line{l}))
		}
	}
	x.Forget()
	if l := x.All(); len(l) != 0 {
		t.Errorf("R7: All of a nil table:%s", told(l))
	}
	if b := written(x); len(b) != 0 {
		t.Errorf("R7: Write of a nil table: % x", b)
	}
	x.Write(nil)
}

// text: a text in memory that may be written over.
func text(b []byte) string { return unsafe.String(unsafe.SliceData(b), len(b)) }

func TestMemoryOfNames(t *testing.T) {
	x := dedup.New()
	for i, f := range []func(name string) bool{
		func(name string) bool { return x.Begin(name, 3) == api.OK },
		func(name string) bool { return x.Begin(name, 4) == api.OK },
		func(name string) bool { return x.Done(name, 3, pos(1, 2)) == api.OK },
		func(name string) bool { _, ok := x.Last(name); return ok },
	} {
		b := []byte("name")
		if !f(text(b)) || string(b) != "name" {
			t.Fatalf("P15.1, R6: the call %d is refused, or changes what it is handed: %q", i, b)
		}
		copy(b, "????")
	}
	want := api.Line{Name: "name", Top: 4, Done: 3, At: pos(1, 2)}
	hold(t, "R6: behind scribbles in names", x, want)
	last, _ := x.Last("name")
	again, _ := x.Last("name")
	l := x.All()
	at := []*byte{unsafe.StringData(last.Name), unsafe.StringData(again.Name), unsafe.StringData(l[0].Name), unsafe.StringData(x.All()[0].Name)}
	for i := range at {
		if slices.Contains(at[:i], at[i]) {
			t.Error("R6: names of two answers share memory")
		}
	}
	l[0] = api.Line{Name: "?", Top: 9}
	l = append(l[:0], begun("??", 8), begun("???", 7))
	hold(t, "R6: behind scribbles in All", x, want)
	b := written(x)
	x = taken(t, b)
	for i := range b {
		b[i] = '?'
	}
	hold(t, "R6: behind scribbles in bytes", x, line("name", 3, pos(1, 2)))
}

func TestTablesAreNotInOneAnothersWay(t *testing.T) {
	one, other := dedup.New(), dedup.New()
	begins(t, one, "a", 1, api.OK)
	begins(t, other, "b", 2, api.OK)
	hold(t, "R8: the one table", one, begun("a", 1))
	one.Forget()
	hold(t, "R8: the other table", other, begun("b", 2))
	hold(t, "R8: the one table", one)
	hold(t, "R8: a third table", dedup.New())
}

func TestCopiesOfATableGoTheirOwnWays(t *testing.T) {
	x, l := full(t)
	x.Forget()
	begins(t, x, "s11", 6, api.OK)
	l = slices.DeleteFunc(x.All(), func(l api.Line) bool { return l.Name == "s11" })
	more, on, done, forgot, left := *x, *x, *x, *x, *x
	begins(t, &more, "s99", 1, api.OK)
	begins(t, &on, "s11", 7, api.OK)
	does(t, &done, "s11", 6, pos(5, 5), api.OK)
	forgot.Forget()
	begins(t, x, "s98", 1, api.OK)
	with := func(all ...api.Line) []api.Line { return slices.Concat(l[:1], all[:1], l[1:], all[1:]) }
	hold(t, "R8: the table", x, with(begun("s11", 6), begun("s98", 1))...)
	hold(t, "R8: a copy that was left as it was", &left, with(begun("s11", 6))...)
	hold(t, "R8: a copy with a line more", &more, with(begun("s11", 6), begun("s99", 1))...)
	hold(t, "R8: a copy that began more", &on, with(begun("s11", 7))...)
	hold(t, "R8: a copy that is done", &done, with(line("s11", 6, pos(5, 5)))...)
	hold(t, "R8: a copy that forgot", &forgot, l...)
	zero := dedup.Table{}
	copied := zero
	begins(t, &zero, "a", 1, api.OK)
	hold(t, "R8: a copy of a zero table", &copied)
}
