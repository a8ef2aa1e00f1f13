package pack_test

import (
	"bytes"
	"errors"
	"math"
	"math/rand"
	"runtime"
	"testing"

	"mailcoach/api"
	"mailcoach/pack"
)

// takers are the reader's calls, by their names.
var takers = []struct {
	name string
	take func(r *pack.Reader)
}{
	{"U8", func(r *pack.Reader) { r.U8() }},
	{"U16", func(r *pack.Reader) { r.U16() }},
	{"U32", func(r *pack.Reader) { r.U32() }},
	{"U64", func(r *pack.Reader) { r.U64() }},
	{"Bytes", func(r *pack.Reader) { r.Bytes() }},
	{"Text", func(r *pack.Reader) { r.Text() }},
}

// holdRead: what Read answers of bytes, against what the document asks for.
func holdRead(t *testing.T, what string, b []byte, by func(r *pack.Reader), want api.Errno) {
	t.Helper()
	if got := pack.Read(b, by); got != want {
		t.Errorf("%s: Read of % x answers %d, want %d", what, b, got, want)
	}
}

// caught: what a call panics with; nil: it doesn't.
func caught(call func()) (v any) {
	defer func() { v = recover() }()
	call()
	return nil
}

// swallow: a call whose panic comes to nothing.
func swallow(call func()) { caught(call) }

func TestReadCallsByOnce(t *testing.T) {
	for _, b := range [][]byte{nil, {}, {1}, {1, 2, 3}} {
		calls := 0
		pack.Read(b, func(r *pack.Reader) {
			calls++
			if r == nil {
				t.Fatalf("P2.2: Read of % x hands over no reader", b)
			}
			if r.Left() != len(b) {
				t.Errorf("P2.2: of % x there are %d left at first", b, r.Left())
			}
		})
		if calls != 1 {
			t.Errorf("P2.2: Read of % x calls by %d times", b, calls)
		}
	}
}

func TestReaderTakesWhatWasPut(t *testing.T) {
	b := written(func(w *pack.Writer) {
		w.U8(math.MaxUint8)
		w.U16(math.MaxUint16)
		w.U32(math.MaxUint32)
		w.U64(math.MaxUint64)
		w.U8(1)
		w.U16(0x0203)
		w.U32(0x04050607)
		w.U64(0x08090a0b0c0d0e0f)
		w.U64(0)
		w.Bytes([]byte{0, 255})
		w.Bytes(nil)
		w.Text("Fähre, 渡し\x00")
		w.Text("")
		w.U8(9)
	})
	holdRead(t, "P2.2", b, func(r *pack.Reader) {
		if r.U8() != math.MaxUint8 || r.U16() != math.MaxUint16 || r.U32() != math.MaxUint32 || r.U64() != math.MaxUint64 {
			t.Error("P2.2: the greatest numbers")
		}
		if r.U8() != 1 || r.U16() != 0x0203 || r.U32() != 0x04050607 || r.U64() != 0x08090a0b0c0d0e0f || r.U64() != 0 {
			t.Error("P2.2: numbers")
		}
		if !bytes.Equal(r.Bytes(), []byte{0, 255}) || len(r.Bytes()) != 0 {
			t.Error("P2.2: Bytes")
		}
		if r.Text() != "Fähre, 渡し\x00" || r.Text() != "" {
			t.Error("P2.2: Text")
		}
		if r.Left() != 1 || r.U8() != 9 || r.Left() != 0 {
			t.Error("P2.2: Left")
		}
	}, api.OK)
}

func TestReaderTakesManyThings(t *testing.T) {
	random := rand.New(rand.NewSource(2))
	kinds, numbers, texts := []int{}, []uint64{}, []string{}
	w := &pack.Writer{}
	for range 3000 {
		kind, n, s := random.Intn(6), random.Uint64(), string([]rune{rune(random.Intn(0xd800)), rune(random.Intn(128))})
		kinds, numbers, texts = append(kinds, kind), append(numbers, n), append(texts, s)
		switch kind {
		case 0:
			w.U8(uint8(n))
		case 1:
			w.U16(uint16(n))
		case 2:
			w.U32(uint32(n))
		case 3:
			w.U64(n)
		case 4:
			w.Bytes([]byte(s))
		case 5:
			w.Text(s)
		}
	}
	e := pack.Read(w.Done(), func(r *pack.Reader) {
		for i, n := range numbers {
			same := true
			switch kinds[i] {
			case 0:
				same = r.U8() == uint8(n)
			case 1:
				same = r.U16() == uint16(n)
			case 2:
				same = r.U32() == uint32(n)
			case 3:
				same = r.U64() == n
			case 4:
				same = string(r.Bytes()) == texts[i]
			case 5:
				same = r.Text() == texts[i]
			}
			if !same {
				t.Fatalf("P2.2: the thing %d, of the kind %d, isn't what was put", i, kinds[i])
			}
		}
	})
	if e != api.OK {
		t.Errorf("P2.2: of many things Read answers %d", e)
	}
}

func TestLeftCountsDown(t *testing.T) {
	b := written(func(w *pack.Writer) {
		w.U8(1)
		w.U16(1)
		w.U32(1)
		w.U64(1)
		w.Bytes([]byte("abc"))
		w.Text("de")
	})
	holdRead(t, "P2.2", b, func(r *pack.Reader) {
		for i, want := range []int{28, 27, 25, 21, 13, 6} {
			if r.Left() != want {
				t.Errorf("P2.2: ahead of %s there are %d left, want %d", takers[i].name, r.Left(), want)
			}
			takers[i].take(r)
		}
		if r.Left() != 0 {
			t.Errorf("P2.2: at the end there are %d left", r.Left())
		}
	}, api.OK)
}

func TestTooFewBytesAreShort(t *testing.T) {
	whole := [][]byte{{1}, {1, 2}, {1, 2, 3, 4}, {1, 2, 3, 4, 5, 6, 7, 8}, {0, 0, 0, 3, 'a', 'b', 'c'}, {0, 0, 0, 3, 'a', 'b', 'c'}}
	for i, c := range takers {
		for ahead := range 3 {
			b := append(make([]byte, ahead), whole[i]...)
			by := func(r *pack.Reader) {
				for range ahead {
					r.U8()
				}
				c.take(r)
			}
			holdRead(t, "P2.2: "+c.name+" of enough", b, by, api.OK)
			for cut := ahead; cut < len(b); cut++ {
				holdRead(t, "P2.2: "+c.name+" of too few", b[:cut], by, api.ErrShort)
			}
		}
		holdRead(t, "P2.2: "+c.name+" of nil", nil, c.take, api.ErrShort)
	}
	holdRead(t, "P2.2: the chapter's example", []byte{1}, func(r *pack.Reader) { r.U16() }, api.ErrShort)
}

func TestCountsThatAreTooGreatAreShort(t *testing.T) {
	for _, b := range [][]byte{{255, 255, 255, 255}, {255, 255, 255, 255, 'a'}, {128, 0, 0, 0, 'a'}, {127, 255, 255, 255, 'a'}, {0, 0, 0, 2, 'a'}, {0, 0, 0, 2, 0xff}} {
		holdRead(t, "P2.2: Bytes", b, func(r *pack.Reader) { r.Bytes() }, api.ErrShort)
		holdRead(t, "P2.2: Text", b, func(r *pack.Reader) { r.Text() }, api.ErrShort)
	}
}

func TestTextsThatAreNotUTF8(t *testing.T) {
	for _, s := range []string{"\xff", "a\x80", "\xc3", "\xc0\x80", "\xed\xa0\x80", "\xf4\x90\x80\x80", "\xe6\xb8", "ok\xfe"} {
		b := written(func(w *pack.Writer) { w.Text(s) })
		holdRead(t, "P2.2: Text", b, func(r *pack.Reader) { r.Text() }, api.ErrText)
		holdRead(t, "P2.2: Text, and bytes left", append(b, 1), func(r *pack.Reader) { r.Text() }, api.ErrText)
		holdRead(t, "P2.2: Bytes that aren't UTF-8", b, func(r *pack.Reader) {
			if string(r.Bytes()) != s {
				t.Errorf("P2.2: Bytes of %q", s)
			}
		}, api.OK)
	}
	for _, s := range []string{"\u0000", "\u007f", "\u0080", "\ufffd", "\ufeff", "\U0010ffff", "渡"} {
		b := written(func(w *pack.Writer) { w.Text(s) })
		holdRead(t, "P2.2: a Text that is UTF-8", b, func(r *pack.Reader) {
			if got := r.Text(); got != s {
				t.Errorf("P2.2: Text of %q: %q", s, got)
			}
		}, api.OK)
	}
}

func TestFailLeavesBy(t *testing.T) {
	for _, code := range []api.Errno{api.ErrNil, api.ErrState, api.ErrShort, api.ErrRest, api.ErrQuota, 1000, -1, math.MaxInt64, math.MinInt64} {
		gone := true
		holdRead(t, "P2.2: Fail", []byte{1, 2}, func(r *pack.Reader) {
			r.U8()
			r.Fail(code)
			gone = false
		}, code)
		if !gone {
			t.Errorf("P2.2: by goes on behind Fail(%d)", code)
		}
		holdRead(t, "P2.2: Fail of no bytes", nil, func(r *pack.Reader) { r.Fail(code) }, code)
	}
}

func TestFailWithOKIsNone(t *testing.T) {
	on := false
	holdRead(t, "P2.2: Fail(OK)", []byte{7}, func(r *pack.Reader) {
		r.Fail(api.OK)
		on = r.U8() == 7
		r.Fail(api.OK)
	}, api.OK)
	if !on {
		t.Error("P2.2: by doesn't go on behind Fail(OK)")
	}
	holdRead(t, "P2.2: Fail(OK), and bytes left", []byte{7}, func(r *pack.Reader) { r.Fail(api.OK) }, api.ErrRest)
	holdRead(t, "P2.2: Fail(OK), and another one", nil, func(r *pack.Reader) {
		r.Fail(api.OK)
		r.Fail(api.ErrState)
	}, api.ErrState)
}

func TestByIsLeftAtOnce(t *testing.T) {
	for _, c := range takers {
		trail := ""
		holdRead(t, "P2.2: "+c.name, nil, func(r *pack.Reader) {
			defer func() { trail += "deferred" }()
			func() {
				c.take(r)
				trail += "behind, "
			}()
			trail += "further, "
			r.Fail(api.ErrState)
		}, api.ErrShort)
		if trail != "deferred" {
			t.Errorf("P2.2: behind a %s that can't be, by goes on: %s", c.name, trail)
		}
	}
}

func TestBytesLeft(t *testing.T) {
	for n := 1; n < 20; n++ {
		b := make([]byte, n)
		holdRead(t, "P2.2: nothing taken", b, func(r *pack.Reader) {}, api.ErrRest)
		holdRead(t, "P2.2: all but one taken", b, func(r *pack.Reader) {
			for r.Left() > 1 {
				r.U8()
			}
		}, api.ErrRest)
		holdRead(t, "P2.2: all taken", b, func(r *pack.Reader) {
			for r.Left() > 0 {
				r.U8()
			}
		}, api.OK)
	}
	holdRead(t, "P2.2: nothing there, nothing taken", nil, func(r *pack.Reader) {}, api.OK)
	holdRead(t, "P2.2: nothing there, nothing taken", []byte{}, func(r *pack.Reader) {}, api.OK)
}

// own is a value that others panic with.
type own struct{ n int }

func TestPanicsOfOthersPass(t *testing.T) {
	wrong := errors.New("wrong")
	pointer := &own{1}
	for _, v := range []any{"text", 7, api.ErrShort, api.OK, wrong, own{2}, pointer, false, 'x', 1.5} {
		if got := caught(func() { pack.Read([]byte{1}, func(r *pack.Reader) { panic(v) }) }); got != v {
			t.Errorf("P2.2: by panics with %v, Read with %v", v, got)
		}
	}
	var list []int
	got := caught(func() { pack.Read(nil, func(r *pack.Reader) { list[0] = 1 }) })
	if _, ok := got.(runtime.Error); !ok {
		t.Errorf("P2.2: by panics with an error of the runtime, Read with %v", got)
	}
	got = caught(func() { pack.Read(nil, func(r *pack.Reader) { panic(any(nil)) }) })
	if _, ok := got.(*runtime.PanicNilError); !ok {
		t.Errorf("P2.2: by panics with nil, Read with %v", got)
	}
	got = caught(func() {
		pack.Read(nil, func(r *pack.Reader) {
			defer func() { panic("otherwise") }()
			r.U8()
		})
	})
	if got != "otherwise" {
		t.Errorf("P2.2: by panics otherwise while it is left, Read with %v", got)
	}
}

func TestByThatTakesBackItself(t *testing.T) {
	gone := false
	holdRead(t, "P2.2: by takes back what is thrown, and ends", []byte{1}, func(r *pack.Reader) {
		swallow(func() { r.U16() })
	}, api.ErrShort)
	holdRead(t, "P2.2: by takes it back, and would go on", []byte{1}, func(r *pack.Reader) {
		swallow(func() { r.Fail(api.ErrState) })
		r.U8()
		gone = true
	}, api.ErrState)
	holdRead(t, "P2.2: by takes it back, and fails otherwise", []byte{1}, func(r *pack.Reader) {
		swallow(func() { r.U16() })
		r.Fail(api.ErrState)
		gone = true
	}, api.ErrShort)
	if gone {
		t.Error("P2.2: by goes on behind what can't be, once it has taken that back")
	}
	holdRead(t, "P2.2: by throws on what it has taken back", nil, func(r *pack.Reader) {
		panic(caught(func() { r.U8() }))
	}, api.ErrShort)
}

func TestReadWithinRead(t *testing.T) {
	inner, behind := api.OK, false
	holdRead(t, "P2.2: the inner reader fails", []byte{1}, func(r *pack.Reader) {
		inner = pack.Read([]byte{1}, func(s *pack.Reader) { s.U16() })
		r.U8()
	}, api.OK)
	if inner != api.ErrShort {
		t.Errorf("P2.2: the inner Read answers %d", inner)
	}
	holdRead(t, "P2.2: the outer reader fails within", []byte{1}, func(r *pack.Reader) {
		pack.Read([]byte{1}, func(s *pack.Reader) { r.U16() })
		behind = true
	}, api.ErrShort)
	holdRead(t, "P2.2: the outer reader's Fail within", nil, func(r *pack.Reader) {
		pack.Read(nil, func(s *pack.Reader) { r.Fail(api.ErrKind) })
		behind = true
	}, api.ErrKind)
	if behind {
		t.Error("P2.2: the inner Read takes back what the outer reader throws")
	}
	var stale any
	pack.Read(nil, func(r *pack.Reader) { stale = caught(func() { r.U8() }) })
	if got := caught(func() { pack.Read(nil, func(r *pack.Reader) { panic(stale) }) }); got != stale {
		t.Error("P2.2: Read takes back what the reader of an ended one has thrown")
	}
}

func TestCopiesOfAReader(t *testing.T) {
	holdRead(t, "P2.2: a copy looks ahead", []byte{1, 2}, func(r *pack.Reader) {
		ahead := *r
		if ahead.U16() != 258 || ahead.Left() != 0 || r.Left() != 2 || r.U16() != 258 {
			t.Error("R8: a reader and its copy are in one another's way")
		}
	}, api.OK)
	holdRead(t, "P2.2: a copy's call can't be", []byte{1}, func(r *pack.Reader) {
		ahead := *r
		ahead.U16()
	}, api.ErrShort)
}

func TestReaderOfNoRead(t *testing.T) {
	var kept *pack.Reader
	pack.Read([]byte{1, 2, 3}, func(r *pack.Reader) { kept = r })
	var failed *pack.Reader
	pack.Read([]byte{1, 2, 3}, func(r *pack.Reader) {
		failed = r
		r.Fail(api.ErrState)
	})
	var thrown *pack.Reader
	swallow(func() {
		pack.Read([]byte{1, 2, 3}, func(r *pack.Reader) {
			thrown = r
			panic("otherwise")
		})
	})
	for name, r := range map[string]*pack.Reader{"zero": {}, "of a Read that ended": kept, "of a Read that failed": failed, "of a Read that panicked": thrown} {
		v := caught(func() {
			if r.U8() != 0 || r.U16() != 0 || r.U32() != 0 || r.U64() != 0 || len(r.Bytes()) != 0 || r.Text() != "" || r.Left() != 0 {
				t.Errorf("P1: a reader %s has something", name)
			}
			r.Fail(api.ErrState)
			r.Fail(api.OK)
		})
		if v != nil {
			t.Errorf("P1: a reader %s panics with %v", name, v)
		}
	}
}

func TestReadByNobody(t *testing.T) {
	for _, b := range [][]byte{nil, {}, {1}} {
		if v := caught(func() { holdRead(t, "P1, R7: by nobody", b, nil, api.ErrNil) }); v != nil {
			t.Errorf("P1: Read by nobody panics with %v", v)
		}
	}
}

func TestReadLeavesBytesAlone(t *testing.T) {
	room := []byte{9, 0, 0, 0, 2, 'a', 'b', 0, 0, 0, 1, 'c', 9, 9}
	before := bytes.Clone(room)
	var second []byte
	holdRead(t, "P2.2", room[1:12], func(r *pack.Reader) {
		first := r.Bytes()
		_ = append(first, 7, 7, 7, 7, 7)
		copy(first, []byte{7, 7})
		second = r.Bytes()
	}, api.OK)
	if string(second) != "c" {
		t.Errorf("R6: an answer shares memory with what is read: behind it stand % x", second)
	}
	second[0] = 7
	if !bytes.Equal(room, before) {
		t.Errorf("R6: bytes that were read, or room around them, were changed, or answered: % x", room)
	}
}

func TestAnswersOfAReaderAreNewMemory(t *testing.T) {
	b := written(func(w *pack.Writer) {
		w.Bytes([]byte("ab"))
		w.Bytes([]byte("c"))
	})
	var first, second []byte
	holdRead(t, "P2.2", b, func(r *pack.Reader) {
		first, second = r.Bytes(), r.Bytes()
	}, api.OK)
	_ = append(first, "scribbles"...)
	copy(first, "xx")
	if string(second) != "c" {
		t.Errorf("R6: two answers share memory: %q", second)
	}
}

func TestReaderHasBytesOfItsOwn(t *testing.T) {
	b := []byte{1, 2, 3}
	holdRead(t, "R8: bytes that are changed while they are read", b, func(r *pack.Reader) {
		copy(b, "xyz")
		if r.U8() != 1 || r.U16() != 0x0203 {
			t.Error("R8: what the reader takes hangs on what became of the bytes")
		}
	}, api.OK)
}

func TestReadKeepsNothing(t *testing.T) {
	b := []byte{1, 2}
	by := func(r *pack.Reader) { r.U16() }
	holdRead(t, "R8: first", b, by, api.OK)
	holdRead(t, "R8: another one", b[:1], by, api.ErrShort)
	holdRead(t, "R8: as the first", b, by, api.OK)
}
