package bits

import (
	"math"
	"slices"
	"testing"
)

// turns are amounts to turn by: 0, both sides of each width, and both ends of int.
var turns = []int{
	0, 1, 2, 7, 18, 24, 31, 32, 33, 63, 64, 65, 95, 96, 97, 128, 1000,
	-1, -2, -7, -31, -32, -33, -63, -64, -65, -1000,
	math.MaxInt, math.MaxInt - 1, math.MinInt, math.MinInt + 1,
}

var numbers = []uint64{
	0, 1, 2, 5, 0x80, 0xff, 0x100, 0x01020304, 1<<31 - 1, 1 << 31, 1<<32 - 1, 1 << 32,
	0x0102030405060708, 0xf1e2d3c4b5a69788, 1<<63 - 1, 1 << 63, 1<<64 - 1,
}

// turnBitwise moves each bit of its own: bit i comes to the place i - n, round the width.
func turnBitwise(x uint64, n, width int) uint64 {
	n = (n%width + width) % width
	var out uint64
	for i := range width {
		if x>>i&1 == 1 {
			out |= 1 << ((i - n + width) % width)
		}
	}
	return out
}

func TestTurnOneByOne(t *testing.T) { // P1.1
	for _, c := range []struct {
		x    uint32
		n    int
		want uint32
	}{
		{1, 1, 1 << 31}, {1, 0, 1}, {1, 32, 1}, {1, 33, 1 << 31}, {1, 31, 2}, {1, 64, 1},
		{1, -1, 2}, {1, -31, 1 << 31}, {1, -32, 1}, {1, -33, 2}, {1 << 31, -1, 1},
		{0x12345678, 4, 0x81234567}, {0x12345678, -4, 0x23456781}, {0x12345678, 16, 0x56781234},
		{0, 5, 0}, {math.MaxUint32, 5, math.MaxUint32}, {0x12345678, math.MinInt, 0x12345678}, {1, math.MaxInt, 2},
	} {
		if got := Right32(c.x, c.n); got != c.want {
			t.Errorf("Right32(%#x, %d) = %#x, want %#x", c.x, c.n, got, c.want)
		}
	}
	for _, c := range []struct {
		x    uint64
		n    int
		want uint64
	}{
		{1, 1, 1 << 63}, {1, 0, 1}, {1, 32, 1 << 32}, {1, 64, 1}, {1, 65, 1 << 63}, {1, 63, 2},
		{1, -1, 2}, {1, -63, 1 << 63}, {1, -64, 1}, {1, -65, 2}, {1 << 63, -1, 1},
		{0x0123456789abcdef, 8, 0xef0123456789abcd}, {0x0123456789abcdef, -8, 0x23456789abcdef01},
		{0, 5, 0}, {math.MaxUint64, 5, math.MaxUint64}, {5, math.MinInt, 5}, {1, math.MaxInt, 2},
	} {
		if got := Right64(c.x, c.n); got != c.want {
			t.Errorf("Right64(%#x, %d) = %#x, want %#x", c.x, c.n, got, c.want)
		}
	}
}

func TestTurnBitByBit(t *testing.T) { // P1.1
	for _, x := range numbers {
		for _, n := range turns {
			if got, want := Right32(uint32(x), n), uint32(turnBitwise(uint64(uint32(x)), n, 32)); got != want {
				t.Errorf("Right32(%#x, %d) = %#x, want %#x", uint32(x), n, got, want)
			}
			if got, want := Right64(x, n), turnBitwise(x, n, 64); got != want {
				t.Errorf("Right64(%#x, %d) = %#x, want %#x", x, n, got, want)
			}
		}
	}
}

func TestNumbers(t *testing.T) { // P1.1
	for _, c := range []struct {
		b             []byte
		big32         uint32
		little64, big uint64
	}{
		{nil, 0, 0, 0},
		{[]byte{}, 0, 0, 0},
		{[]byte{0}, 0, 0, 0},
		{[]byte{1}, 1 << 24, 1, 1},
		{[]byte{0xff}, 0xff000000, 0xff, 0xff},
		{[]byte{1, 2, 3}, 0x01020300, 0x030201, 0x010203},
		{[]byte{1, 2, 3, 4}, 0x01020304, 0x04030201, 0x01020304},
		{[]byte{1, 2, 3, 4, 5}, 0x01020304, 0x0504030201, 0x0102030405},
		{[]byte{1, 2, 3, 4, 5, 6, 7}, 0x01020304, 0x07060504030201, 0x01020304050607},
		{[]byte{1, 2, 3, 4, 5, 6, 7, 8}, 0x01020304, 0x0807060504030201, 0x0102030405060708},
		{[]byte{1, 2, 3, 4, 5, 6, 7, 8, 9}, 0x01020304, 0x0807060504030201, 0x0203040506070809},
		{[]byte{0x80, 0, 0, 0, 0, 0, 0, 0x80}, 1 << 31, 1<<63 | 0x80, 1<<63 | 0x80},
		{slices.Repeat([]byte{0xff}, 8), math.MaxUint32, math.MaxUint64, math.MaxUint64},
		{slices.Repeat([]byte{0xff}, 20), math.MaxUint32, math.MaxUint64, math.MaxUint64},
		{append(make([]byte, 1000), 7), 0, 0, 7},
		{append([]byte{9}, make([]byte, 1000)...), 9 << 24, 9, 0},
	} {
		if got := Big32(c.b); got != c.big32 {
			t.Errorf("Big32(%x) = %#x, want %#x", c.b, got, c.big32)
		}
		if got := Little64(c.b); got != c.little64 {
			t.Errorf("Little64(%x) = %#x, want %#x", c.b, got, c.little64)
		}
		if got := Big(c.b); got != c.big {
			t.Errorf("Big(%x) = %#x, want %#x", c.b, got, c.big)
		}
	}
}

func TestBytes(t *testing.T) { // P1.2
	for _, c := range []struct {
		x    uint32
		want []byte
	}{
		{0, []byte{0, 0, 0, 0}}, {1, []byte{0, 0, 0, 1}}, {0x01020304, []byte{1, 2, 3, 4}},
		{1 << 31, []byte{0x80, 0, 0, 0}}, {math.MaxUint32, []byte{0xff, 0xff, 0xff, 0xff}},
	} {
		if got := PutBig32(c.x); !slices.Equal(got, c.want) {
			t.Errorf("PutBig32(%#x) = %x, want %x", c.x, got, c.want)
		}
	}
	for _, c := range []struct {
		x    uint64
		want []byte
	}{
		{0, make([]byte, 8)}, {1, []byte{0, 0, 0, 0, 0, 0, 0, 1}}, {0x0102030405060708, []byte{1, 2, 3, 4, 5, 6, 7, 8}},
		{1 << 32, []byte{0, 0, 0, 1, 0, 0, 0, 0}}, {1 << 63, []byte{0x80, 0, 0, 0, 0, 0, 0, 0}},
		{math.MaxUint64, slices.Repeat([]byte{0xff}, 8)},
	} {
		if got := PutBig64(c.x); !slices.Equal(got, c.want) {
			t.Errorf("PutBig64(%#x) = %x, want %x", c.x, got, c.want)
		}
		slices.Reverse(c.want)
		if got := PutLittle64(c.x); !slices.Equal(got, c.want) {
			t.Errorf("PutLittle64(%#x) = %x, want %x", c.x, got, c.want)
		}
	}
}

func TestThereAndBack(t *testing.T) { // P1.2
	for _, x := range numbers {
		if b := PutBig32(uint32(x)); len(b) != 4 || Big32(b) != uint32(x) || Big(b) != uint64(uint32(x)) {
			t.Errorf("PutBig32(%#x) = %x", uint32(x), b)
		}
		if b := PutBig64(x); len(b) != 8 || Big(b) != x {
			t.Errorf("PutBig64(%#x) = %x", x, b)
		}
		if b := PutLittle64(x); len(b) != 8 || Little64(b) != x {
			t.Errorf("PutLittle64(%#x) = %x", x, b)
		}
	}
}

func TestHandedInIsLeftAlone(t *testing.T) { // R4
	whole := []byte{1, 2, 3, 4, 5, 6, 7, 8, 9, 10}
	kept := slices.Clone(whole)
	for n := range whole {
		b := whole[:n] // with bytes of others behind its length
		if Big32(b) != Big32(slices.Clone(b)) || Little64(b) != Little64(slices.Clone(b)) || Big(b) != Big(slices.Clone(b)) {
			t.Errorf("what lies behind %x is read", b)
		}
	}
	if !slices.Equal(whole, kept) {
		t.Errorf("%x became %x", kept, whole)
	}
}

func TestAnswersAreNewMemory(t *testing.T) { // R4, R6
	for name, put := range map[string]func() []byte{
		"PutBig32":    func() []byte { return PutBig32(0x01020304) },
		"PutBig64":    func() []byte { return PutBig64(0x0102030405060708) },
		"PutLittle64": func() []byte { return PutLittle64(0x0102030405060708) },
	} {
		first, second := put(), put()
		kept := slices.Clone(second)
		clear(first[:cap(first)])
		if !slices.Equal(second, kept) || !slices.Equal(put(), kept) {
			t.Errorf("%s: an answer changes when another one is written over", name)
		}
	}
}
