package pack_test

import (
	"bytes"
	"encoding/binary"
	"math"
	"math/rand"
	"strings"
	"testing"

	"mailcoach/pack"
)

// written: what a new Writer is Done with behind what is put.
func written(put func(w *pack.Writer)) []byte {
	w := &pack.Writer{}
	put(w)
	return w.Done()
}

// holdBytes: what was written, against what the document asks for.
func holdBytes(t *testing.T, what string, got, want []byte) {
	t.Helper()
	if !bytes.Equal(got, want) {
		t.Errorf("%s: % x, want % x", what, got, want)
	}
}

func TestZeroWriterHasNothing(t *testing.T) {
	var w pack.Writer
	if b := w.Done(); len(b) != 0 {
		t.Errorf("P2.1: Done of a zero Writer: % x", b)
	}
	if b := w.Done(); len(b) != 0 {
		t.Errorf("P2.1: Done of a zero Writer once more: % x", b)
	}
}

func TestWriterPutsNumbers(t *testing.T) {
	cases := []struct {
		name string
		put  func(w *pack.Writer)
		want []byte
	}{
		{"U8 of 0", func(w *pack.Writer) { w.U8(0) }, []byte{0}},
		{"U8 of 1", func(w *pack.Writer) { w.U8(1) }, []byte{1}},
		{"U8 of the greatest", func(w *pack.Writer) { w.U8(math.MaxUint8) }, []byte{255}},
		{"U16 of 0", func(w *pack.Writer) { w.U16(0) }, []byte{0, 0}},
		{"U16", func(w *pack.Writer) { w.U16(258) }, []byte{1, 2}},
		{"U16 of the greatest", func(w *pack.Writer) { w.U16(math.MaxUint16) }, []byte{255, 255}},
		{"U32 of 0", func(w *pack.Writer) { w.U32(0) }, []byte{0, 0, 0, 0}},
		{"U32", func(w *pack.Writer) { w.U32(0x01020304) }, []byte{1, 2, 3, 4}},
		{"U32 of the greatest", func(w *pack.Writer) { w.U32(math.MaxUint32) }, []byte{255, 255, 255, 255}},
		{"U64 of 0", func(w *pack.Writer) { w.U64(0) }, []byte{0, 0, 0, 0, 0, 0, 0, 0}},
		{"U64", func(w *pack.Writer) { w.U64(0x0102030405060708) }, []byte{1, 2, 3, 4, 5, 6, 7, 8}},
		{"U64 of the greatest", func(w *pack.Writer) { w.U64(math.MaxUint64) }, bytes.Repeat([]byte{255}, 8)},
		{"U64 of 2 to the 63", func(w *pack.Writer) { w.U64(1 << 63) }, []byte{128, 0, 0, 0, 0, 0, 0, 0}},
	}
	for _, c := range cases {
		holdBytes(t, "P2.1: "+c.name, written(c.put), c.want)
	}
}

func TestWriterPutsEachNumberOfTwoBytes(t *testing.T) {
	for n := range 1 << 16 {
		got := written(func(w *pack.Writer) { w.U16(uint16(n)) })
		if len(got) != 2 || got[0] != byte(n/256) || got[1] != byte(n%256) {
			t.Fatalf("P2.1: U16(%d): % x", n, got)
		}
	}
}

func TestWriterPutsBytesAndTexts(t *testing.T) {
	long := strings.Repeat("mailcoach", 8000)
	cases := []struct {
		name string
		s    string
		head []byte
	}{
		{"none", "", []byte{0, 0, 0, 0}},
		{"one", "a", []byte{0, 0, 0, 1}},
		{"a 0", "\x00", []byte{0, 0, 0, 1}},
		{"several", "topic", []byte{0, 0, 0, 5}},
		{"letters of several bytes", "Fähre, 渡し", []byte{0, 0, 0, 14}},
		{"what isn't UTF-8", "\xff\xc0\x80", []byte{0, 0, 0, 3}},
		{"256", strings.Repeat("x", 256), []byte{0, 0, 1, 0}},
		{"72000", long, []byte{0, 1, 0x19, 0x40}},
	}
	for _, c := range cases {
		want := append(bytes.Clone(c.head), c.s...)
		holdBytes(t, "P2.1: Bytes, "+c.name, written(func(w *pack.Writer) { w.Bytes([]byte(c.s)) }), want)
		holdBytes(t, "P2.1: Text, "+c.name, written(func(w *pack.Writer) { w.Text(c.s) }), want)
	}
	holdBytes(t, "P2.1: Bytes of nil", written(func(w *pack.Writer) { w.Bytes(nil) }), make([]byte, 4))
}

func TestWriterPutsOneBehindTheOther(t *testing.T) {
	w := &pack.Writer{}
	w.U16(258)
	w.Text("a")
	holdBytes(t, "P2.1: the chapter's example", w.Done(), []byte{1, 2, 0, 0, 0, 1, 'a'})
	w.U8(7)
	holdBytes(t, "P2.1: what follows a Done", w.Done(), []byte{1, 2, 0, 0, 0, 1, 'a', 7})
	holdBytes(t, "P2.1: Done once more", w.Done(), []byte{1, 2, 0, 0, 0, 1, 'a', 7})
	w.Bytes(nil)
	w.U64(1)
	w.U32(2)
	holdBytes(t, "P2.1: what follows another one", w.Done(), []byte{1, 2, 0, 0, 0, 1, 'a', 7, 0, 0, 0, 0, 0, 0, 0, 0, 0, 0, 0, 1, 0, 0, 0, 2})
}

func TestWriterPutsManyThings(t *testing.T) {
	random := rand.New(rand.NewSource(1))
	w, want := &pack.Writer{}, []byte(nil)
	for range 3000 {
		n, some := random.Uint64(), make([]byte, random.Intn(40))
		random.Read(some)
		switch random.Intn(6) {
		case 0:
			w.U8(uint8(n))
			want = append(want, byte(n))
		case 1:
			w.U16(uint16(n))
			want = binary.BigEndian.AppendUint16(want, uint16(n))
		case 2:
			w.U32(uint32(n))
			want = binary.BigEndian.AppendUint32(want, uint32(n))
		case 3:
			w.U64(n)
			want = binary.BigEndian.AppendUint64(want, n)
		case 4:
			w.Bytes(some)
			want = append(binary.BigEndian.AppendUint32(want, uint32(len(some))), some...)
		case 5:
			w.Text(string(some))
			want = append(binary.BigEndian.AppendUint32(want, uint32(len(some))), some...)
		}
	}
	if !bytes.Equal(w.Done(), want) {
		t.Error("P2.1: of many things, put one behind the other, other bytes are Done")
	}
}

func TestWriterLeavesWhatItIsHandedAlone(t *testing.T) {
	room := []byte("ahead, the bytes, and spare room")
	before := bytes.Clone(room)
	b := room[7:16]
	w := &pack.Writer{}
	w.Bytes(b)
	w.U64(math.MaxUint64)
	if !bytes.Equal(room, before) {
		t.Errorf("R6: bytes that were put, or room around them, were changed: %q", room)
	}
	done := w.Done()
	copy(b, "scribbled")
	if !bytes.Equal(w.Done(), done) {
		t.Error("R6: bytes that were put were kept")
	}
}

func TestDoneIsNewMemory(t *testing.T) {
	w := &pack.Writer{}
	w.Text("abc")
	first, second := w.Done(), w.Done()
	want := []byte{0, 0, 0, 3, 'a', 'b', 'c'}
	for i := range first {
		first[i] = 255
	}
	_ = append(first, 1, 2, 3)
	holdBytes(t, "R6: an answer behind scribbles in another one", second, want)
	holdBytes(t, "R6: Done behind scribbles in an answer", w.Done(), want)
	w.U8(9)
	holdBytes(t, "R6: an answer behind a further put", second, want)
	holdBytes(t, "R6: Done behind scribbles and a further put", w.Done(), append(want, 9))
}

func TestWritersAreNotInOneAnothersWay(t *testing.T) {
	one, other := &pack.Writer{}, &pack.Writer{}
	one.U8(1)
	other.U8(2)
	one.U8(3)
	holdBytes(t, "R8: the one Writer", one.Done(), []byte{1, 3})
	holdBytes(t, "R8: the other Writer", other.Done(), []byte{2})
}

func TestCopiesOfAWriterGoTheirOwnWays(t *testing.T) {
	for n := range 70 { // whatever room is left behind what was put
		var w pack.Writer
		want := make([]byte, n)
		for range n {
			w.U8(0)
		}
		one, other := w, w
		one.U8(1)
		other.U8(2)
		w.U8(3)
		late := one
		one.U8(4)
		late.U16(258)
		holdBytes(t, "R8: the Writer", w.Done(), append(want[:n:n], 3))
		holdBytes(t, "R8: a copy", one.Done(), append(want[:n:n], 1, 4))
		holdBytes(t, "R8: another copy", other.Done(), append(want[:n:n], 2))
		holdBytes(t, "R8: a copy of a copy", late.Done(), append(want[:n:n], 1, 1, 2))
	}
}

func TestNilWriterDoesNothing(t *testing.T) {
	var w *pack.Writer
	w.U8(1)
	w.U16(1)
	w.U32(1)
	w.U64(1)
	w.Bytes([]byte("a"))
	w.Bytes(nil)
	w.Text("a")
	if b := w.Done(); len(b) != 0 {
		t.Errorf("R7: Done of a nil Writer: % x", b)
	}
}
