package cursor_test

import (
	"bytes"
	"math/rand"
	"slices"
	"testing"

	"mailcoach/api"
	"mailcoach/cursor"
	"mailcoach/pack"
)

// some: right cursors.
func some() []api.Cursor {
	_, l := wide()
	return append(l,
		cur(at(top, top)),
		cur(at(1<<63+2, 3<<56|5), held(1<<63+2, 4<<56, 5<<56+1)),
		cur(at(0, 0), held(0, 0, 1), held(1, 0, top), held(top, 258, top-1)),
	)
}

// written: the bytes of a cursor, by Write.
func written(c api.Cursor) []byte {
	w := &pack.Writer{}
	cursor.Write(w, c)
	return w.Done()
}

func TestBytes(t *testing.T) {
	c := cur(at(1, 0x0203), held(4, 5, 6, 0x0708, top), held(9, 0, 1))
	want := []byte{
		0, 0, 0, 0, 0, 0, 0, 1, 0, 0, 0, 0, 0, 0, 2, 3, // Mark
		0, 2, // Held
		0, 0, 0, 0, 0, 0, 0, 4, 0, 2,
		0, 0, 0, 0, 0, 0, 0, 5, 0, 0, 0, 0, 0, 0, 0, 6,
		0, 0, 0, 0, 0, 0, 7, 8, 255, 255, 255, 255, 255, 255, 255, 255,
		0, 0, 0, 0, 0, 0, 0, 9, 0, 1,
		0, 0, 0, 0, 0, 0, 0, 0, 0, 0, 0, 0, 0, 0, 0, 1,
	}
	if b, e := cursor.Encode(c); e != api.OK || !bytes.Equal(b, want) {
		t.Errorf("P14.3: Encode: % x, error %d", b, e)
	}
	if b := written(c); !bytes.Equal(b, want) {
		t.Errorf("P14.3: Write: % x", b)
	}
	if got, e := cursor.Decode(want); e != api.OK || !same(got, c) {
		t.Errorf("P14.3: Decode: %v, error %d", got, e)
	}
	if b, e := cursor.Encode(api.Cursor{}); e != api.OK || !bytes.Equal(b, make([]byte, 18)) {
		t.Errorf("P14.3: Encode of a zero one: % x, error %d", b, e)
	}
}

func TestThereAndBack(t *testing.T) {
	for _, c := range some() {
		b, e := cursor.Encode(c)
		if want := plainBytes(c); e != api.OK || !bytes.Equal(b, want) || !bytes.Equal(written(c), want) {
			t.Errorf("P14.3: Encode of %v: % x, error %d", c, b, e)
		}
		if got, e := cursor.Decode(b); e != api.OK || !same(got, c) {
			t.Errorf("P14.3: Decode of %v: %v, error %d", c, got, e)
		}
	}
}

// Write and Take leave what stands round a cursor to others.
func TestAmongOthers(t *testing.T) {
	for _, c := range some() {
		for _, d := range some() {
			w := &pack.Writer{}
			w.Text("ahead")
			cursor.Write(w, c)
			cursor.Write(w, d)
			w.U8(7)
			b := w.Done()
			if want := slices.Concat([]byte{0, 0, 0, 5}, []byte("ahead"), plainBytes(c), plainBytes(d), []byte{7}); !bytes.Equal(b, want) {
				t.Fatalf("P14.3: Write of %v and %v: % x", c, d, b)
			}
			e := pack.Read(b, func(r *pack.Reader) {
				if s, x, y, n := r.Text(), cursor.Take(r), cursor.Take(r), r.U8(); s != "ahead" || !same(x, c) || !same(y, d) || n != 7 {
					t.Errorf("P14.3: Take of %v and %v: %v, %v", c, d, x, y)
				}
			})
			if e != api.OK {
				t.Errorf("P14.3: Take of %v and %v: error %d", c, d, e)
			}
		}
	}
}

// wrong: cursors that aren't right, one for each thing that may be wrong.
func wrong() []api.Cursor {
	return []api.Cursor{
		cur(at(0, 0), held(3)),
		cur(at(0, 0), held(3, 1, 2), held(4)),
		cur(at(0, 0), held(3, 1, 1)),
		cur(at(0, 0), held(3, 2, 1)),
		cur(at(0, 0), held(3, 1, 2, 2, 3)),
		cur(at(0, 0), held(3, 4, 5, 1, 2)),
		cur(at(0, 0), held(3, 1, 2), held(3, 4, 5)),
		cur(at(0, 0), held(3, 1, 2), held(2, 4, 5)),
		cur(at(3, 2), held(3, 1, 3)),
		cur(at(3, 2), held(2, 7, 8)),
	}
}

func TestWhatIsNotRight(t *testing.T) {
	for _, c := range wrong() {
		if b, e := cursor.Encode(c); len(b) != 0 || e != api.ErrState {
			t.Errorf("P14.3, R3: Encode of %v: % x, error %d", c, b, e)
		}
		b := plainBytes(c)
		for _, rest := range [][]byte{nil, {0}, {1, 2, 3}} {
			if got, e := cursor.Decode(slices.Concat(b, rest)); !zero(got) || e != api.ErrState {
				t.Errorf("P14.3, R3: Decode of %v: %v, error %d", c, got, e)
			}
		}
		left := true
		e := pack.Read(b, func(r *pack.Reader) {
			cursor.Take(r)
			left = false
		})
		if e != api.ErrState || !left {
			t.Errorf("P14.3: Take of %v: error %d, went on: %v", c, e, !left)
		}
		for n := range b {
			if got, e := cursor.Decode(b[:n]); !zero(got) || e != api.ErrShort {
				t.Errorf("P14.3, R3: Decode of %d bytes of %v: %v, error %d", n, c, got, e)
			}
		}
	}
}

func TestShortAndLongBytes(t *testing.T) {
	for _, c := range some() {
		b := plainBytes(c)
		for n := range b {
			if got, e := cursor.Decode(b[:n]); !zero(got) || e != api.ErrShort {
				t.Errorf("P14.3, R3: Decode of %d bytes of %v: %v, error %d", n, c, got, e)
			}
		}
		for _, rest := range [][]byte{{0}, {1, 2, 3}, b} {
			if got, e := cursor.Decode(slices.Concat(b, rest)); !zero(got) || e != api.ErrRest {
				t.Errorf("P14.3, R3: Decode of %v with more behind: %v, error %d", c, got, e)
			}
		}
	}
	for _, b := range [][]byte{nil, {}, {1}, make([]byte, 17), append(make([]byte, 16), 255, 255), append(make([]byte, 17), 1, 0, 0, 0, 0, 0, 0, 0, 5, 255, 255)} {
		if got, e := cursor.Decode(b); !zero(got) || e != api.ErrShort {
			t.Errorf("P14.3, R3: Decode of % x: %v, error %d", b, got, e)
		}
	}
}

// ledgersOf: a cursor that holds an entry of each of so many ledgers.
func ledgersOf(n int) api.Cursor {
	var c api.Cursor
	for i := range uint64(n) {
		c.Held = append(c.Held, held(i, i, i+1))
	}
	return c
}

// rangesOf: so many ranges of a ledger.
func rangesOf(ledger uint64, n int) api.Held {
	h := api.Held{Ledger: ledger}
	for i := range uint64(n) {
		h.Ranges = append(h.Ranges, api.Range{Lo: 2 * i, Hi: 2*i + 1})
	}
	return h
}

func TestMany(t *testing.T) {
	small, full, over := held(2, 0, 1), rangesOf(5, 65535), rangesOf(5, 65536)
	for _, c := range []api.Cursor{
		ledgersOf(65535),
		cur(at(0, 0), full),
		cur(at(0, 0), small, full, rangesOf(7, 65535)),
	} {
		b, e := cursor.Encode(c)
		if e != api.OK || !bytes.Equal(b, plainBytes(c)) {
			t.Errorf("P14.3: Encode of %d Held: error %d", len(c.Held), e)
		}
		if got, e := cursor.Decode(b); e != api.OK || !same(got, c) {
			t.Errorf("P14.3: Decode of %d Held: error %d", len(c.Held), e)
		}
	}
	for _, c := range []api.Cursor{
		ledgersOf(65536),
		ledgersOf(65537),
		ledgersOf(1 << 17),
		cur(at(0, 0), over),
		cur(at(0, 0), over, held(9, 0, 1)),
		cur(at(0, 0), small, over, held(9, 0, 1)),
		cur(at(0, 0), small, rangesOf(5, 1<<17)),
	} {
		if b, e := cursor.Encode(c); len(b) != 0 || e != api.ErrMany {
			t.Errorf("P14.3, R3: Encode of %d Held: %d bytes, error %d", len(c.Held), len(b), e)
		}
		if !cursor.Check(c) {
			t.Errorf("P14.1: Check of %d Held: false", len(c.Held))
		}
		// R2: that it isn't right is ahead of that it is too much.
		c.Held = append(slices.Clone(c.Held), held(1<<40))
		if b, e := cursor.Encode(c); len(b) != 0 || e != api.ErrState {
			t.Errorf("P14.3, R2: Encode of %d Held, the last one wrong: %d bytes, error %d", len(c.Held), len(b), e)
		}
	}
}

// Whatever bytes there are: an error and nothing, or the one cursor that has just these bytes.
func TestTurnedBytes(t *testing.T) {
	random := rand.New(rand.NewSource(14))
	var right, refused int
	for range 30000 {
		all := some()
		b := plainBytes(all[random.Intn(len(all))])
		for range 1 + random.Intn(2) {
			i := random.Intn(len(b))
			b[i] = []byte{0, 1, 2, 255, b[i] + 1, b[i] - 1, byte(random.Intn(256))}[random.Intn(7)]
		}
		before := bytes.Clone(b)
		c, e := cursor.Decode(b)
		if !bytes.Equal(b, before) {
			t.Fatal("R6: Decode changed what it was handed")
		}
		if e != api.OK {
			refused++
			if !zero(c) || e != api.ErrState && e != api.ErrShort && e != api.ErrRest {
				t.Fatalf("P14.3, R3: Decode of % x: %v, error %d", b, c, e)
			}
			continue
		}
		right++
		if !cursor.Check(c) || !bytes.Equal(plainBytes(c), b) {
			t.Fatalf("P14.3: Decode of % x: %v", b, c)
		}
	}
	if right < 1000 || refused < 1000 {
		t.Errorf("%d were right, %d refused", right, refused)
	}
}

func TestMemoryOfBytes(t *testing.T) {
	for _, c := range some() {
		own := roomy(c)
		before := whole(own)
		w := &pack.Writer{}
		cursor.Write(w, own)
		b, _ := cursor.Encode(own)
		if whole(own) != before {
			t.Errorf("R6: Write and Encode of %v changed what they were handed", c)
		}
		got, _ := cursor.Decode(b)
		for i := range b {
			b[i] = 0xee
		}
		scribble(own)
		if !bytes.Equal(w.Done(), plainBytes(c)) || !same(got, c) {
			t.Errorf("R6: what Write and Decode of %v came to goes with what they were handed", c)
		}
		for i := range got.Held {
			scribbleRanges(got.Held[i].Ranges)
			if !same(cur(c.Mark, got.Held[i+1:]...), cur(c.Mark, c.Held[i+1:]...)) {
				t.Errorf("R6: two lists of what Decode of %v answers share memory", c)
			}
		}
	}
}

func TestNilWriterAndOtherReaders(t *testing.T) {
	for _, c := range some() {
		cursor.Write(nil, c) // R7: it does nothing
	}
	if c := cursor.Take(&pack.Reader{}); !zero(c) {
		t.Errorf("P1: Take of a reader without a Read: %v", c)
	}
	var kept *pack.Reader
	pack.Read(plainBytes(some()[3]), func(r *pack.Reader) {
		kept = r
		r.Fail(api.ErrText)
	})
	if c := cursor.Take(kept); !zero(c) {
		t.Errorf("P1: Take of a reader whose Read has ended: %v", c)
	}
}
