package pack_test

import (
	"bytes"
	"encoding/binary"
	"hash/crc32"
	"math/rand"
	"testing"

	"mailcoach/api"
	"mailcoach/pack"
)

// noise: n bytes, the same ones each time.
func noise(seed int64, n int) []byte {
	b := make([]byte, n)
	rand.New(rand.NewSource(seed)).Read(b)
	return b
}

// framed: a frame by the chapter's words, of any size and any sum.
func framed(size, sum uint32, body []byte) []byte {
	b := binary.BigEndian.AppendUint32(nil, size)
	b = binary.BigEndian.AppendUint32(b, sum)
	return append(b, body...)
}

// sumOf: the Sum of bytes, by the library.
func sumOf(b []byte) uint32 { return crc32.Checksum(b, crc32.MakeTable(crc32.Castagnoli)) }

// frame: that of bytes.
func frame(t *testing.T, b []byte) []byte {
	t.Helper()
	f, e := pack.Frame(b)
	if e != api.OK {
		t.Fatalf("P2.3: Frame of %d bytes answers %d", len(b), e)
	}
	return f
}

// holdError: Unframe of bytes answers an error, and nothing beside it.
func holdError(t *testing.T, what string, b []byte, want api.Errno) {
	t.Helper()
	body, rest, e := pack.Unframe(b)
	if e != want {
		t.Errorf("P2.3: Unframe of %s answers %d, want %d", what, e, want)
	}
	if len(body) != 0 || len(rest) != 0 {
		t.Errorf("R3: Unframe of %s answers bytes beside an error", what)
	}
}

func TestFrame(t *testing.T) {
	for _, n := range []int{0, 1, 2, 7, 8, 9, 255, 256, 257, 4095, 4096} {
		b := noise(int64(n), n)
		if got, want := frame(t, b), framed(uint32(n), sumOf(b), b); !bytes.Equal(got, want) {
			t.Errorf("P2.3: Frame of %d bytes isn't their count, their Sum, and they", n)
		}
	}
	if got := frame(t, nil); !bytes.Equal(got, make([]byte, 8)) {
		t.Errorf("P2.3: Frame of nil: % x", got)
	}
	want := []byte{0, 0, 0, 9, 0xe3, 0x06, 0x92, 0x83, '1', '2', '3', '4', '5', '6', '7', '8', '9'}
	if got := frame(t, []byte("123456789")); !bytes.Equal(got, want) {
		t.Errorf("P2.3: Frame of 123456789: % x", got)
	}
}

func TestFrameOfTooMany(t *testing.T) {
	for _, n := range []int{4097, 5000, 1 << 16, 1 << 20} {
		if f, e := pack.Frame(make([]byte, n)); e != api.ErrLong || len(f) != 0 {
			t.Errorf("P2.3: Frame of %d bytes answers %d bytes and %d", n, len(f), e)
		}
	}
}

func TestUnframeTakesBack(t *testing.T) {
	for _, n := range []int{0, 1, 8, 300, 4095, 4096} {
		for _, left := range []int{0, 1, 7, 8, 5000} {
			b, behind := noise(int64(n), n), noise(int64(left)+1, left)
			body, rest, e := pack.Unframe(append(frame(t, b), behind...))
			if e != api.OK || !bytes.Equal(body, b) || !bytes.Equal(rest, behind) {
				t.Errorf("P2.3: Unframe of a frame of %d bytes, and %d behind it: %d bytes, %d, %d", n, left, len(body), len(rest), e)
			}
		}
	}
}

func TestUnframeOneBehindTheOther(t *testing.T) {
	bodies, b := [][]byte{[]byte("a"), nil, noise(1, 4096), []byte("ab")}, []byte(nil)
	for _, body := range bodies {
		b = append(b, frame(t, body)...)
	}
	for i, want := range bodies {
		body, rest, e := pack.Unframe(b)
		if e != api.OK || !bytes.Equal(body, want) {
			t.Fatalf("P2.3: the frame %d of several: %d bytes, %d", i, len(body), e)
		}
		b = rest
	}
	if len(b) != 0 {
		t.Errorf("P2.3: behind the last frame there are %d bytes", len(b))
	}
}

func TestUnframeOfACutFrame(t *testing.T) {
	for _, n := range []int{0, 1, 5, 300, 4096} {
		f := frame(t, noise(int64(n), n))
		for cut := range f {
			body, rest, e := pack.Unframe(f[:cut])
			if e != api.ErrShort || len(body) != 0 || len(rest) != 0 {
				t.Fatalf("P2.3: Unframe of a frame of %d bytes, cut behind %d, answers %d", n, cut, e)
			}
		}
	}
	holdError(t, "nil", nil, api.ErrShort)
	holdError(t, "no bytes", []byte{}, api.ErrShort)
}

func TestUnframeOfATurnedBit(t *testing.T) {
	for _, n := range []int{0, 1, 2, 40, 1000} {
		f := frame(t, noise(int64(n), n))
		for bit := range 8 * len(f) {
			f[bit/8] ^= 1 << (bit % 8)
			body, rest, e := pack.Unframe(f)
			want := api.ErrSum
			if size := binary.BigEndian.Uint32(f); size > 4096 {
				want = api.ErrLong
			} else if size > uint32(n) {
				want = api.ErrShort
			}
			if e != want || len(body) != 0 || len(rest) != 0 {
				t.Fatalf("P2.3: Unframe of a frame of %d bytes, the bit %d turned, answers %d, want %d", n, bit, e, want)
			}
			f[bit/8] ^= 1 << (bit % 8)
		}
	}
}

func TestUnframeLooksInOrder(t *testing.T) {
	long := noise(1, 4097)
	for _, c := range []struct {
		name string
		b    []byte
		want api.Errno
	}{
		{"seven bytes that speak of too many", []byte{255, 255, 255, 255, 0, 0, 0}, api.ErrShort},
		{"the greatest count", framed(1<<32-1, 0, nil), api.ErrLong},
		{"a count of 2 to the 31", framed(1<<31, 0, nil), api.ErrLong},
		{"too many that aren't there", framed(4097, 0, nil), api.ErrLong},
		{"too many that are there, with their Sum", framed(4097, sumOf(long), long), api.ErrLong},
		{"4096 of which none is there", framed(4096, 1, nil), api.ErrShort},
		{"4096 of which one isn't there", framed(4096, 1, long[:4095]), api.ErrShort},
		{"4096 with another Sum", framed(4096, sumOf(long[:4096])+1, long[:4096]), api.ErrSum},
		{"none with another Sum", framed(0, 1, nil), api.ErrSum},
		{"a Sum of all that stands behind", framed(2, sumOf([]byte("abc")), []byte("abc")), api.ErrSum},
		{"a Sum with the lowest byte first", []byte{0, 0, 0, 9, 0x83, 0x92, 0x06, 0xe3, '1', '2', '3', '4', '5', '6', '7', '8', '9'}, api.ErrSum},
	} {
		holdError(t, c.name, c.b, c.want)
	}
}

func TestFrameLeavesBytesAlone(t *testing.T) {
	room := noise(2, 64)
	before := bytes.Clone(room)
	f := frame(t, room[8:24])
	for i := range f {
		f[i] = 0
	}
	if !bytes.Equal(room, before) {
		t.Error("R6: bytes that were framed, or room around them, were changed, or answered")
	}
}

func TestUnframeLeavesBytesAlone(t *testing.T) {
	b := append(append(frame(t, []byte("body")), "rest"...), "spare room"...)
	before := bytes.Clone(b)
	body, rest, _ := pack.Unframe(b[:16])
	_ = append(body, "scribbles"...)
	_ = append(rest, "scribbles"...)
	copy(body, "xxxx")
	if string(rest) != "rest" {
		t.Error("R6: body and rest share memory")
	}
	copy(rest, "xxxx")
	if !bytes.Equal(b, before) {
		t.Errorf("R6: bytes that were unframed, or room behind them, were changed, or answered: %q", b)
	}
}
