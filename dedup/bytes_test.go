package dedup_test

import (
	"bytes"
	"math/rand"
	"slices"
	"strings"
	"testing"

	"mailcoach/api"
	"mailcoach/dedup"
	"mailcoach/pack"
)

// filled: a table of these lines, which are right, each begun as its Top.
func filled(t *testing.T, l []api.Line) *dedup.Table {
	t.Helper()
	x := dedup.New()
	for _, l := range l {
		begins(t, x, l.Name, l.Top, api.OK)
		if l.Done > 0 {
			does(t, x, l.Name, l.Done, l.At, api.OK)
		}
	}
	return x
}

// some: lines that are right, all of whose numbers are done.
func some(t *testing.T) [][]api.Line {
	t.Helper()
	x, _ := full(t)
	x.Forget()
	all := x.All()
	for i := range all {
		all = append(all, line("t"+all[i].Name, top-uint64(i), pos(top-uint64(i), 1<<56+uint64(i))))
	}
	return [][]api.Line{
		nil,
		{line("a", 1, pos(0, 0))},
		{line("\x00", top, pos(top, top))},
		{line("a", 1, pos(1<<63+2, 3<<56|5)), line("a\x00", 1<<63, pos(0, 7)), line("b", 0x0102030405060708, pos(7, 0))},
		{line(strings.Repeat("n", 64), 258, pos(1, 2)), line(strings.Repeat("ä", 32), 1<<32, pos(3, 4))},
		all[:api.MaxProducers-1],
		all,
	}
}

// fails: bytes of which there is no table; Take is left at once.
func fails(t *testing.T, what string, b []byte, code api.Errno) {
	t.Helper()
	on := false
	e := pack.Read(b, func(r *pack.Reader) {
		dedup.Take(r)
		on = true
	})
	if e != code || on {
		t.Errorf("P15.2: Take of %s (%d bytes): error %d, want %d; went on: %v", what, len(b), e, code, on)
	}
}

func TestBytes(t *testing.T) {
	x := dedup.New()
	begins(t, x, "b", 0x0908, api.OK)
	begins(t, x, "c", 5, api.OK)
	begins(t, x, "ä", 0x0102030405060708, api.OK)
	begins(t, x, "a", top, api.OK)
	does(t, x, "b", 0x0201, pos(3, 0x0405), api.OK)
	does(t, x, "ä", 0x0102030405060708, pos(top, 0), api.OK)
	want := []byte{
		2,
		0, 0, 0, 1, 'b', 0, 0, 0, 0, 0, 0, 2, 1, 0, 0, 0, 0, 0, 0, 0, 3, 0, 0, 0, 0, 0, 0, 4, 5,
		0, 0, 0, 2, 0xc3, 0xa4, 1, 2, 3, 4, 5, 6, 7, 8, 255, 255, 255, 255, 255, 255, 255, 255, 0, 0, 0, 0, 0, 0, 0, 0,
	}
	if b := written(x); !bytes.Equal(b, want) {
		t.Errorf("P15.2: Write: % x", b)
	}
	hold(t, "what was taken", taken(t, want), line("b", 0x0201, pos(3, 0x0405)), line("ä", 0x0102030405060708, pos(top, 0)))
	if b := written(dedup.New()); !bytes.Equal(b, []byte{0}) {
		t.Errorf("P15.2: Write of no lines: % x", b)
	}
	hold(t, "what was written stays", x, begun("a", top), api.Line{Name: "b", Top: 0x0908, Done: 0x0201, At: pos(3, 0x0405)}, begun("c", 5), line("ä", 0x0102030405060708, pos(top, 0)))
}

// What is taken is what Forget leaves.
func TestThereAndBack(t *testing.T) {
	for _, l := range some(t) {
		x := filled(t, l)
		b := written(x)
		if !bytes.Equal(b, plainBytes(l)) {
			t.Errorf("P15.2: Write of%s: % x", told(l), b)
		}
		hold(t, "there and back", taken(t, b), l...)
	}
	x, _ := full(t)
	y := taken(t, written(x))
	x.Forget()
	hold(t, "there and back, of lines that are under way", y, x.All()...)
	if len(x.All()) != api.MaxProducers/2 {
		t.Errorf("P15.1: Forget left%s", told(x.All()))
	}
	begins(t, y, "s10", 3, api.ErrOld)
	begins(t, y, "s10", 4, api.OK)
	begins(t, y, "s11", 1, api.OK)
}

// Write and Take leave what stands round a table to others.
func TestAmongOthers(t *testing.T) {
	for _, a := range some(t) {
		for _, b := range some(t) {
			w := &pack.Writer{}
			w.Text("ahead")
			filled(t, a).Write(w)
			filled(t, b).Write(w)
			w.U8(7)
			all := w.Done()
			if want := slices.Concat([]byte{0, 0, 0, 5}, []byte("ahead"), plainBytes(a), plainBytes(b), []byte{7}); !bytes.Equal(all, want) {
				t.Fatalf("P15.2: Write of%s and%s: % x", told(a), told(b), all)
			}
			e := pack.Read(all, func(r *pack.Reader) {
				if s, x, y, n := r.Text(), dedup.Take(r), dedup.Take(r), r.U8(); s != "ahead" || !slices.Equal(x.All(), a) || !slices.Equal(y.All(), b) || n != 7 {
					t.Errorf("P15.2: Take of%s and%s:%s,%s", told(a), told(b), told(x.All()), told(y.All()))
				}
			})
			if e != api.OK {
				t.Errorf("P15.2: Take of%s and%s: error %d", told(a), told(b), e)
			}
		}
	}
}

// lined: bytes of lines, right or not.
func lined(l ...api.Line) []byte {
	b := []byte{byte(len(l))}
	for _, l := range l {
		// A line without a Done isn't written: it is put as one that has one, whose bytes are 0 then.
		one := plainBytes([]api.Line{line(l.Name, max(l.Done, 1), l.At)})[1:]
		if l.Done == 0 {
			one[4+len(l.Name)+7] = 0
		}
		b = append(b, one...)
	}
	return b
}

func TestLinesThatAreNotRight(t *testing.T) {
	a, b, c := line("a", 1, pos(1, 1)), line("b", 2, pos(1, 2)), line("c", 3, pos(1, 3))
	long := line(strings.Repeat("z", api.MaxName), 1, pos(1, 4))
	hold(t, "what is right", taken(t, lined(a, b, c, long)), a, b, c, long)
	for what, l := range map[string][]api.Line{
		"a first one without a name":         {line("", 1, pos(1, 1))},
		"a first one without a name, others": {line("", 1, pos(1, 1)), a, b},
		"one without a name behind":          {a, line("", 1, pos(1, 1))},
		"a name twice":                       {a, a},
		"a name twice, with other numbers":   {a, line("a", 9, pos(9, 9))},
		"a name twice behind":                {a, b, c, c},
		"names that fall":                    {b, a},
		"names that fall behind":             {a, c, b},
		"names that fall, one between":       {b, c, a},
		"a name that begins another one":     {line("ab", 1, pos(1, 1)), a},
		"names that rise by letters alone":   {a, line("B", 1, pos(1, 1))},
		"a name too long":                    {line(strings.Repeat("n", 65), 1, pos(1, 1))},
		"a name too long behind":             {a, b, line(strings.Repeat("n", 65), 1, pos(1, 1))},
		"a name too long by its bytes":       {line(strings.Repeat("ä", 33), 1, pos(1, 1))},
		"a name far too long":                {line(strings.Repeat("n", 100000), 1, pos(1, 1))},
		"nothing done":                       {line("a", 0, pos(1, 1))},
		"nothing done, of a place":           {line("a", 0, pos(top, top)), b},
		"nothing done behind":                {a, line("b", 0, pos(0, 0))},
		"all wrong":                          {line("", 0, pos(0, 0))},
	} {
		whole := lined(l...)
		fails(t, what, whole, api.ErrState)
		for _, rest := range [][]byte{{0}, {1, 2, 3}} {
			fails(t, what+", and more behind", slices.Concat(whole, rest), api.ErrState)
		}
		wrong := len(whole)
		for n := range l { // what is behind the line that isn't right doesn't matter
			if cut := lined(l[:n+1]...); !rises(l[:n+1]) {
				wrong = len(cut)
				break
			}
		}
		for n := range whole {
			code := api.ErrShort // a line is looked at when it was taken whole
			if n >= wrong {
				code = api.ErrState
			}
			if len(whole) < 1000 || n < 100 || n > len(whole)-100 {
				fails(t, what+", cut", whole[:n], code)
			}
		}
	}
}

// rises: are they right lines?
func rises(l []api.Line) bool {
	for i, x := range l {
		if x.Name == "" || len(x.Name) > 64 || x.Done == 0 || i > 0 && x.Name <= l[i-1].Name || i >= 16 {
			return false
		}
	}
	return true
}

func TestTakeOfMany(t *testing.T) {
	var l []api.Line
	for i := range 255 {
		l = append(l, line(string([]byte{'a' + byte(i/16), 'a' + byte(i%16)}), uint64(i+1), pos(1, uint64(i))))
	}
	for n := range 17 {
		hold(t, "as many as may be", taken(t, lined(l[:n]...)), l[:n]...)
	}
	edge := len(lined(l[:17]...))
	for n := 17; n <= 255; n++ {
		b := lined(l[:n]...)
		fails(t, "too many", b, api.ErrState)
		fails(t, "too many, of which 17 are there", b[:edge], api.ErrState)
		for i := len(lined(l[:16]...)); i < edge; i++ {
			fails(t, "too many, of which the 17th is cut", b[:i], api.ErrShort)
		}
	}
}

func TestShortAndLongBytes(t *testing.T) {
	for _, l := range some(t) {
		b := plainBytes(l)
		for n := range b {
			fails(t, "bytes that are cut", b[:n], api.ErrShort)
		}
		for _, rest := range [][]byte{{0}, {1, 2, 3}, b} {
			if e := pack.Read(slices.Concat(b, rest), func(r *pack.Reader) { dedup.Take(r) }); e != api.ErrRest {
				t.Errorf("P15.2: Take of%s with more behind: error %d", told(l), e)
			}
		}
	}
	for _, b := range [][]byte{nil, {1}, {255}, {1, 255, 255, 255, 255}, {1, 0, 0, 0, 2, 'a'}, {1, 0, 0, 0, 0}} {
		fails(t, "few bytes", b, api.ErrShort)
	}
	for _, b := range [][]byte{lined(line("\xff", 1, pos(1, 1))), lined(line("a", 1, pos(1, 1)), line("b\xc3", 0, pos(1, 1))), {1, 0, 0, 0, 1, 0x80}} {
		fails(t, "a name that is no text", b, api.ErrText)
	}
}

// Whatever bytes there are: an error, or the one table that has just these bytes.
func TestTurnedBytes(t *testing.T) {
	random := rand.New(rand.NewSource(15))
	all := some(t)
	var right, refused int
	for range 30000 {
		b := plainBytes(all[random.Intn(len(all))])
		for range 1 + random.Intn(2) {
			i := random.Intn(len(b))
			b[i] = []byte{0, 1, 2, 255, b[i] + 1, b[i] - 1, byte(random.Intn(256))}[random.Intn(7)]
		}
		before := bytes.Clone(b)
		var x *dedup.Table
		e := pack.Read(b, func(r *pack.Reader) { x = dedup.Take(r) })
		if !bytes.Equal(b, before) {
			t.Fatal("R6: Take changed what it was handed")
		}
		if e != api.OK {
			refused++
			if e != api.ErrState && e != api.ErrShort && e != api.ErrRest && e != api.ErrText {
				t.Fatalf("P15.2: Take of % x: error %d", b, e)
			}
			continue
		}
		right++
		l := x.All()
		if !rises(l) || !bytes.Equal(plainBytes(l), b) || !bytes.Equal(written(x), b) {
			t.Fatalf("P15.2: Take of % x:%s", b, told(l))
		}
		for _, l := range l {
			if l.Top != l.Done {
				t.Fatalf("P15.2: Take of % x: of %.20q the Top is %d", b, l.Name, l.Top)
			}
		}
	}
	if right < 1000 || refused < 1000 {
		t.Errorf("%d were right, %d refused", right, refused)
	}
}

func TestNilWriterAndOtherReaders(t *testing.T) {
	for _, l := range some(t) {
		filled(t, l).Write(nil) // R7: it does nothing
	}
	hold(t, "P1: a reader without a Read", dedup.Take(&pack.Reader{}))
	var kept *pack.Reader
	pack.Read(plainBytes(some(t)[3]), func(r *pack.Reader) {
		kept = r
		r.Fail(api.ErrText)
	})
	hold(t, "P1: a reader whose Read has ended", dedup.Take(kept))
}
