package crc_test

import (
	"bytes"
	"encoding/binary"
	"hash/crc32"
	"math/bits"
	"math/rand"
	"testing"

	"mailcoach/crc"
)

var castagnoli = crc32.MakeTable(crc32.Castagnoli)

// noise: n bytes, the same ones each time.
func noise(seed int64, n int) []byte {
	b := make([]byte, n)
	rand.New(rand.NewSource(seed)).Read(b)
	return b
}

// byRule: P1.1 and P1.2 to the letter: a register of single bits, the lowest first.
func byRule(sum uint32, b []byte) uint32 {
	const polynomial = "10000010111101100011101101111000" // 82f63b78, the highest bit first
	var register [32]bool
	for i := range register {
		register[i] = sum>>i&1 == 0
	}
	for _, c := range b {
		for i := range 8 {
			register[i] = register[i] != (c>>i&1 == 1)
		}
		for range 8 {
			low := register[0]
			copy(register[:], register[1:])
			register[31] = false
			for i := range register {
				register[i] = register[i] != (low && polynomial[31-i] == '1')
			}
		}
	}
	var out uint32
	for i, bit := range register {
		if !bit {
			out |= 1 << i
		}
	}
	return out
}

func TestSumOfKnownBytes(t *testing.T) {
	rising, falling := make([]byte, 32), make([]byte, 32)
	for i := range 32 {
		rising[i], falling[i] = byte(i), byte(31-i)
	}
	cases := []struct {
		name string
		b    []byte
		want uint32
	}{
		{"nil", nil, 0},
		{"no bytes", []byte{}, 0},
		{"the chapter's example", []byte("123456789"), 0xe3069283},
		{"one byte 0", []byte{0}, 0x527d5351},
		{"one letter", []byte("a"), 0xc1d04330},
		{"32 bytes 0", make([]byte, 32), 0x8a9136aa},
		{"32 bytes 255", bytes.Repeat([]byte{255}, 32), 0x62a8ab43},
		{"0 to 31", rising, 0x46dd794e},
		{"31 to 0", falling, 0x113fdb5c},
	}
	for _, c := range cases {
		if got := crc.Sum(c.b); got != c.want {
			t.Errorf("P1.1: Sum of %s: %08x, want %08x", c.name, got, c.want)
		}
	}
}

func TestSumGoesByItsRule(t *testing.T) {
	for c := range 256 {
		b := []byte{byte(c)}
		if got, want := crc.Sum(b), byRule(0, b); got != want {
			t.Errorf("P1.1: Sum of the byte %02x: %08x, want %08x", c, got, want)
		}
	}
	for n := range 70 {
		b := noise(int64(n), n)
		if got, want := crc.Sum(b), byRule(0, b); got != want {
			t.Errorf("P1.1: Sum of %d bytes: %08x, want %08x", n, got, want)
		}
	}
}

func TestSumOfManyBytes(t *testing.T) {
	for _, n := range []int{255, 256, 257, 4095, 4096, 4097, 1<<16 + 1, 1 << 22} {
		b := noise(int64(n), n)
		if got, want := crc.Sum(b), crc32.Checksum(b, castagnoli); got != want {
			t.Errorf("P1.1: Sum of %d bytes: %08x, want %08x", n, got, want)
		}
	}
}

func TestMoreOfNoBytesIsTheSum(t *testing.T) {
	for _, sum := range []uint32{0, 1, 1 << 31, 0x82f63b78, 0xe3069283, 1<<32 - 1} {
		if got := crc.More(sum, nil); got != sum {
			t.Errorf("P1.2: More(%08x, nil): %08x", sum, got)
		}
		if got := crc.More(sum, []byte{}); got != sum {
			t.Errorf("P1.2: More(%08x, no bytes): %08x", sum, got)
		}
	}
}

func TestMoreGoesByItsRule(t *testing.T) {
	for _, sum := range []uint32{0, 1, 1 << 31, 0x82f63b78, 0xdeadbeef, 1<<32 - 1} {
		for c := range 256 {
			b := []byte{byte(c)}
			if got, want := crc.More(sum, b), byRule(sum, b); got != want {
				t.Errorf("P1.2: More(%08x) of the byte %02x: %08x, want %08x", sum, c, got, want)
			}
		}
		for _, n := range []int{2, 3, 8, 31, 32, 33} {
			b := noise(int64(n), n)
			if got, want := crc.More(sum, b), byRule(sum, b); got != want {
				t.Errorf("P1.2: More(%08x) of %d bytes: %08x, want %08x", sum, n, got, want)
			}
		}
	}
}

func TestMoreGoesOnFromASum(t *testing.T) {
	b := noise(1, 300)
	whole := crc.Sum(b)
	step := uint32(0)
	for i := range b {
		if got := crc.More(crc.Sum(b[:i]), b[i:]); got != whole {
			t.Errorf("P1.2: parted at %d: %08x, want %08x", i, got, whole)
		}
		step = crc.More(step, b[i:i+1])
	}
	if step != whole {
		t.Errorf("P1.2: byte by byte: %08x, want %08x", step, whole)
	}
	if got := crc.More(whole, nil); got != whole {
		t.Errorf("P1.2: parted at the end: %08x, want %08x", got, whole)
	}
	if got := crc.More(crc.Sum([]byte("1234")), []byte("56789")); got != 0xe3069283 {
		t.Errorf("P1.2: the chapter's example, parted: %08x", got)
	}
}

// signed: bytes with their Sum behind them, the lowest byte first.
func signed(b []byte) []byte {
	return binary.LittleEndian.AppendUint32(bytes.Clone(b), crc.Sum(b))
}

// stain: how far the Sum that stands behind signed bytes is from theirs; 0: it is theirs.
func stain(s []byte) uint32 {
	n := len(s) - 4
	return crc.Sum(s[:n]) ^ binary.LittleEndian.Uint32(s[n:])
}

// turn: s with the bits of a pattern turned, from a bit on.
func turn(s []byte, at int, pattern uint32) []byte {
	out := bytes.Clone(s)
	for pattern != 0 {
		bit := at + bits.TrailingZeros32(pattern)
		out[bit/8] ^= 1 << (bit % 8)
		pattern &= pattern - 1
	}
	return out
}

// window: which bits of 32 from a bit on there are in s.
func window(s []byte, at int) uint32 {
	if left := 8*len(s) - at; left < 32 {
		return 1<<left - 1
	}
	return 1<<32 - 1
}

func TestTurnedBitsAreSeen(t *testing.T) {
	random := rand.New(rand.NewSource(2))
	for _, n := range []int{0, 1, 2, 3, 4, 9, 40} {
		s := signed(noise(int64(n), n))
		if stain(s) != 0 {
			t.Fatalf("P1.3: of %d bytes the Sum isn't theirs", n)
		}
		for at := range 8 * len(s) {
			in := window(s, at)
			patterns := []uint32{in, 0x55555555 & in, 0x82f63b78 & in, 1 | 1<<31&in}
			for i := range 32 {
				patterns = append(patterns, 1<<i&in, (1|1<<i)&in)
			}
			for range 32 {
				patterns = append(patterns, random.Uint32()&in)
			}
			for _, p := range patterns {
				if p != 0 && stain(turn(s, at, p)) == 0 {
					t.Fatalf("P1.3: of %d bytes the bits %08x, turned from %d on, aren't seen", n, p, at)
				}
			}
		}
	}
}

// Patterns are too many to try each: but where the stain of turned bits is the exclusive-or of what each bit alone brings about, and these are independent of one another, none of the patterns within 32 bits is without one.
func TestEachPatternWithin32BitsIsSeen(t *testing.T) {
	s := signed(noise(3, 64))
	for at := range 8 * len(s) {
		var basis [32]uint32
		for i := range 32 {
			bit := uint32(1) << i & window(s, at)
			if bit == 0 {
				break
			}
			v := stain(turn(s, at, bit))
			for v != 0 && basis[bits.Len32(v)-1] != 0 {
				v ^= basis[bits.Len32(v)-1]
			}
			if v == 0 {
				t.Fatalf("P1.3: the bit %d behind %d stains as others within the same 32 do", i, at)
			}
			basis[bits.Len32(v)-1] = v
		}
	}
}

func TestStainsAdd(t *testing.T) {
	s := signed(noise(4, 64))
	random := rand.New(rand.NewSource(5))
	for range 2000 {
		at := random.Intn(8*len(s) - 31)
		pattern := random.Uint32()
		want := uint32(0)
		for i := range 32 {
			if pattern>>i&1 == 1 {
				want ^= stain(turn(s, at, 1<<i))
			}
		}
		if got := stain(turn(s, at, pattern)); got != want {
			t.Fatalf("P1.3: the bits %08x, turned from %d on, stain by %08x, want %08x", pattern, at, got, want)
		}
	}
}

func TestBytesAreLeftAlone(t *testing.T) {
	room := noise(6, 64)
	before := bytes.Clone(room)
	b := room[8:24]
	crc.Sum(b)
	crc.More(7, b)
	if !bytes.Equal(room, before) {
		t.Error("R6: bytes that were handed in, or room behind them, were changed")
	}
}

func TestNothingIsKept(t *testing.T) {
	first, other := noise(7, 50), noise(8, 50)
	sum, more := crc.Sum(first), crc.More(9, first)
	crc.Sum(other)
	crc.More(1<<32-1, other)
	if crc.Sum(first) != sum || crc.More(9, first) != more {
		t.Error("R8: the same arguments were answered otherwise behind other calls")
	}
	spare := append(make([]byte, 0, 4096), first...)
	if crc.Sum(spare) != sum || crc.More(9, spare) != more {
		t.Error("R8: the answer hangs on spare room")
	}
}
