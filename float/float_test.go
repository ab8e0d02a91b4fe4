package float

import (
	"math"
	"testing"
)

const sign = 1 << 63 // of a double

var widths = []int{2, 4, 8}

// wrongWidths are below 0, 0, beside the right ones, what these are in bits, right ones if cut to fewer bits, and both ends of int.
var wrongWidths = []int{
	math.MinInt, math.MinInt + 2, -1 << 32, -16, -8, -4, -3, -2, -1, 0, 1, 3, 5, 6, 7, 9, 10, 11, 12, 16, 32, 64, 128,
	256 + 2, 256 + 4, 256 + 8, 1<<16 + 2, 1<<32 + 2, 1<<32 + 4, 1<<32 + 8, 1<<61 + 2, math.MaxInt - 3, math.MaxInt,
}

// valueOfHalf is worked out by powers of two.
func valueOfHalf(x uint64) float64 {
	exponent, fraction := int(x>>10&31), float64(x&1023)
	v := math.Ldexp(1024+fraction, exponent-25)
	switch {
	case exponent == 0:
		v = math.Ldexp(fraction, -24)
	case exponent == 31 && fraction == 0:
		v = math.Inf(1)
	case exponent == 31:
		return math.NaN()
	}
	if x>>15 == 1 {
		return math.Copysign(v, -1)
	}
	return v
}

// wantWide is what Widen answers of bits that the width has.
func wantWide(x uint64, width int) uint64 {
	v := math.Float64frombits(x)
	switch width {
	case 2:
		v = valueOfHalf(x)
	case 4:
		v = float64(math.Float32frombits(uint32(x)))
	}
	if math.IsNaN(v) {
		return 0x7ff8000000000000
	}
	return math.Float64bits(v)
}

// halves are all that aren't a NaN, by the bits of their doubles.
func halves() map[uint64]uint64 {
	all := map[uint64]uint64{}
	for x := range uint64(1 << 16) {
		if wide := wantWide(x, 2); wide != 0x7ff8000000000000 {
			all[wide] = x
		}
	}
	return all
}

// wantShortest looks a double up among all halves, and turns it to a single and back.
func wantShortest(x uint64, all map[uint64]uint64) (uint64, int) {
	v := math.Float64frombits(x)
	if math.IsNaN(v) {
		return 0x7e00, 2
	}
	if y, ok := all[x]; ok {
		return y, 2
	}
	if math.Float64bits(float64(float32(v))) == x {
		return uint64(math.Float32bits(float32(v))), 4
	}
	return x, 8
}

// checkDouble holds all that is told of the double x against what is worked out another way.
func checkDouble(t *testing.T, x uint64, all map[uint64]uint64) {
	t.Helper()
	right, width := wantShortest(x, all)
	y, w := Shortest(x)
	if y != right || w != width {
		t.Fatalf("Shortest(%#x) = %#x, %d, want %#x, %d", x, y, w, right, width)
	}
	if got, want := NaN(x), math.IsNaN(math.Float64frombits(x)); got != want {
		t.Fatalf("NaN(%#x) = %v", x, got)
	}
	if wide, ok := Widen(x, 8); !ok || wide != wantWide(x, 8) {
		t.Fatalf("Widen(%#x, 8) = %#x, %v", x, wide, ok)
	}
	if wide, ok := Widen(y, w); !ok || wide != wantWide(x, 8) {
		t.Fatalf("Widen(%#x, %d) = %#x, %v, want %#x", y, w, wide, ok, wantWide(x, 8))
	}
	if !Short(y, w) || Short(x, 8) != (w == 8) {
		t.Fatalf("Short of %#x with 8, or of %#x with %d", x, y, w)
	}
}

// checkNarrow holds all that is told of the half or single x against what is worked out another way.
func checkNarrow(t *testing.T, x uint64, width int, all map[uint64]uint64) {
	t.Helper()
	wide, ok := Widen(x, width)
	if want := wantWide(x, width); !ok || wide != want {
		t.Fatalf("Widen(%#x, %d) = %#x, %v, want %#x", x, width, wide, ok, want)
	}
	y, w := wantShortest(wide, all)
	if got, want := Short(x, width), y == x && w == width; got != want {
		t.Fatalf("Short(%#x, %d) = %v", x, width, got)
	}
	checkDouble(t, wide, all)
}

func TestKnown(t *testing.T) { // P6.1, P6.2
	for _, c := range []struct {
		x, short uint64
		width    int
	}{
		{0x3ff0000000000000, 0x3c00, 2},             // 1.0, the chapter's first example
		{0x3fb999999999999a, 0x3fb999999999999a, 8}, // 0.1, the second one: the double itself
		{0x3ff8000000000000, 0x3e00, 2},             // 1.5, which is the document's ninth
		{0, 0, 2},
		{sign, 0x8000, 2},
		{0x7ff0000000000000, 0x7c00, 2}, // infinities
		{0xfff0000000000000, 0xfc00, 2},
		{0xc010000000000000, 0xc400, 2},             // -4
		{0xc010666666666666, 0xc010666666666666, 8}, // -4.1
		{0x40f86a0000000000, 0x47c35000, 4},         // 100,000
		{0x3ff0040000000000, 0x3c01, 2},             // just above 1, of each width
		{0x3ff0000020000000, 0x3f800001, 4},
		{0x3ff0000000000001, 0x3ff0000000000001, 8},
		{0x3feffc0000000000, 0x3bff, 2}, // just below 1
		{0x3fefffffe0000000, 0x3f7fffff, 4},
		{0x3fefffffffffffff, 0x3fefffffffffffff, 8},
		{0x40effc0000000000, 0x7bff, 2},             // 65,504, the greatest half
		{0x40effe0000000000, 0x477ff000, 4},         // 65,520, half way to the next one, if there were one
		{0x40f0000000000000, 0x47800000, 4},         // 65,536
		{0x47efffffe0000000, 0x7f7fffff, 4},         // the greatest single
		{0x47effffff0000000, 0x47effffff0000000, 8}, // half way to the next one
		{0x47f0000000000000, 0x47f0000000000000, 8}, // 2^128
		{0x7fefffffffffffff, 0x7fefffffffffffff, 8}, // the greatest double
		{0x7e37e43c8800759c, 0x7e37e43c8800759c, 8}, // 1e300
		{0x3f10000000000000, 0x0400, 2},             // 2^-14, the least normal half
		{0x3f0ff80000000000, 0x03ff, 2},             // the greatest one below it
		{0x3f0ffc0000000000, 0x387fe000, 4},         // between the two
		{0x3e70000000000000, 0x0001, 2},             // 2^-24, the least half
		{0x3e78000000000000, 0x33c00000, 4},         // 1.5 of it
		{0x3e80000000000000, 0x0002, 2},             // twice it
		{0x3e60000000000000, 0x33000000, 4},         // half of it
		{0x3e70000020000000, 0x33800001, 4},         // the singles beside it
		{0x3e6fffffe0000000, 0x337fffff, 4},
		{0x3e70000000000001, 0x3e70000000000001, 8}, // the doubles beside it
		{0x3e6fffffffffffff, 0x3e6fffffffffffff, 8},
		{0x3810000000000000, 0x00800000, 4},         // 2^-126, the least normal single
		{0x380fffffc0000000, 0x007fffff, 4},         // the greatest one below it
		{0x380fffffe0000000, 0x380fffffe0000000, 8}, // between the two
		{0x36a0000000000000, 0x00000001, 4},         // 2^-149, the least single
		{0x36a8000000000000, 0x36a8000000000000, 8}, // 1.5 of it
		{0x36b0000000000000, 0x00000002, 4},         // twice it
		{0x3690000000000000, 0x3690000000000000, 8}, // half of it
		{0x0010000000000000, 0x0010000000000000, 8}, // 2^-1022, the least normal double
		{0x000fffffffffffff, 0x000fffffffffffff, 8}, // the greatest one below it
		{0x0008000000000000, 0x0008000000000000, 8}, // 2^-1023
		{1, 1, 8}, // the least double
		{2, 2, 8},
	} {
		if y, w := Shortest(c.x); y != c.short || w != c.width {
			t.Errorf("Shortest(%#x) = %#x, %d, want %#x, %d", c.x, y, w, c.short, c.width)
		}
		if x, ok := Widen(c.short, c.width); !ok || x != c.x {
			t.Errorf("Widen(%#x, %d) = %#x, %v, want %#x", c.short, c.width, x, ok, c.x)
		}
		if x, ok := Widen(c.x, 8); !ok || x != c.x {
			t.Errorf("Widen(%#x, 8) = %#x, %v", c.x, x, ok)
		}
		if !Short(c.short, c.width) || Short(c.x, 8) != (c.width == 8) || NaN(c.x) {
			t.Errorf("Short or NaN of %#x", c.x)
		}
	}
}

func TestEveryHalf(t *testing.T) { // P6.1, P6.2
	all := halves()
	for x := range uint64(1 << 16) {
		checkNarrow(t, x, 2, all)
		if wide, _ := Widen(x, 2); NaN(wide) {
			continue
		} else if y, w := Shortest(wide); y != x || w != 2 {
			t.Fatalf("the half %#x comes back as %#x, %d", x, y, w)
		}
		if !Short(x, 2) {
			t.Fatalf("Short(%#x, 2)", x)
		}
	}
}

func TestHalvesInMoreBytes(t *testing.T) { // P6.2
	for wide := range halves() {
		x := uint64(math.Float32bits(float32(math.Float64frombits(wide))))
		if got, ok := Widen(x, 4); !ok || got != wide || Short(x, 4) || Short(wide, 8) {
			t.Fatalf("of the single %#x, or the double %#x", x, wide)
		}
	}
}

func TestBesideHalves(t *testing.T) { // P6.1, P6.2
	all := halves()
	for wide := range all {
		x := uint64(math.Float32bits(float32(math.Float64frombits(wide))))
		for _, by := range []uint64{1, 2, 1 << 10, 1 << 11, 1 << 12, 1 << 13} { // a single has 13 bits more
			checkNarrow(t, (x+by)&math.MaxUint32, 4, all)
			checkNarrow(t, (x-by)&math.MaxUint32, 4, all)
		}
		for _, by := range []uint64{1, 1 << 28, 1 << 29, 1 << 40, 1 << 41, 1 << 42} { // a double has 42 bits more
			checkDouble(t, wide+by, all)
			checkDouble(t, wide-by, all)
		}
	}
}

func TestSingles(t *testing.T) { // P6.1, P6.2
	all := halves()
	for upper := range uint64(1 << 9) { // sign and exponent
		for bit := range 24 {
			one := uint64(1) << bit // the last one is the next exponent's
			for _, fraction := range []uint64{0, one, one - 1, one + 1, 1<<23 - one, (1<<23 - 1) ^ one} {
				x := (upper<<23 + fraction) & math.MaxUint32
				checkNarrow(t, x, 4, all)
				wide, _ := Widen(x, 4)
				for _, by := range []uint64{1, 1 << 27, 1 << 28, 1 << 29} { // a double has 29 bits more
					checkDouble(t, wide+by, all)
					checkDouble(t, wide-by, all)
				}
			}
		}
	}
	for x := uint64(0); x <= math.MaxUint32; x += 65_521 { // a prime, so that all bits change
		checkNarrow(t, x, 4, all)
	}
}

func TestDoubles(t *testing.T) { // P6.1, P6.2
	all := halves()
	for upper := range uint64(1 << 12) { // sign and exponent
		for bit := range 53 {
			one := uint64(1) << bit // the last one is the next exponent's
			for _, fraction := range []uint64{0, one, one - 1, one + 1, 1<<52 - one} {
				checkDouble(t, upper<<52+fraction, all)
			}
		}
	}
	x := uint64(1)
	for range 200_000 { // a row that always is the same
		x = x*6_364_136_223_846_793_005 + 1_442_695_040_888_963_407
		checkDouble(t, x, all)
	}
}

func TestPowersOfTwo(t *testing.T) { // P6.1
	for power := -1074; power <= 1023; power++ {
		x, width := math.Float64bits(math.Ldexp(1, power)), 8
		switch {
		case power >= -24 && power <= 15:
			width = 2
		case power >= -149 && power <= 127:
			width = 4
		}
		y, w := Shortest(x)
		negative, wn := Shortest(x | sign)
		if w != width || wn != width || negative != y|1<<(8*width-1) {
			t.Errorf("2^%d is %#x in %d bytes, less than 0 %#x in %d", power, y, w, negative, wn)
		}
	}
}

func TestNaN(t *testing.T) { // P6.1
	for _, upper := range []uint64{0, sign} {
		for bit := range 52 { // the quiet ones have the 51st
			for _, fraction := range []uint64{1 << bit, 1<<(bit+1) - 1, 1<<52 - 1<<bit, 1<<51 | 1<<bit} {
				x := upper | 0x7ff0000000000000 | fraction
				if y, w := Shortest(x); !NaN(x) || y != 0x7e00 || w != 2 {
					t.Errorf("of the NaN %#x: %v, %#x, %d", x, NaN(x), y, w)
				}
			}
			for _, x := range []uint64{1 << bit, 0x7fe0000000000000 | 1<<bit, 0x3ff0000000000000 | 1<<bit, 0x7fefffffffffffff &^ (1 << bit)} {
				if NaN(upper | x) {
					t.Errorf("%#x is told to be a NaN", upper|x)
				}
			}
		}
		if NaN(upper) || NaN(upper|0x7ff0000000000000) || NaN(upper|0x7fefffffffffffff) {
			t.Error("a nought, an infinity or the greatest double is told to be a NaN")
		}
	}
}

func TestNaNsOfEachWidth(t *testing.T) { // P6.2
	for _, c := range []struct {
		width, fraction int
		infinity        uint64
	}{{2, 10, 0x7c00}, {4, 23, 0x7f800000}, {8, 52, 0x7ff0000000000000}} {
		for _, upper := range []uint64{0, 1 << (8*c.width - 1)} {
			quiet, all := uint64(1)<<(c.fraction-1), uint64(1)<<c.fraction-1
			for _, fraction := range []uint64{1, 2, quiet - 1, quiet, quiet | 1, all - 1, all, all ^ 1, quiet / 2} {
				x := upper | c.infinity | fraction
				if wide, ok := Widen(x, c.width); !ok || wide != 0x7ff8000000000000 {
					t.Errorf("Widen(%#x, %d) = %#x, %v", x, c.width, wide, ok)
				}
				if got := Short(x, c.width); got != (x == 0x7e00 && c.width == 2) {
					t.Errorf("Short(%#x, %d) = %v", x, c.width, got)
				}
			}
			wide, ok := Widen(upper|c.infinity, c.width)
			if want := upper<<(64-8*c.width) | 0x7ff0000000000000; !ok || wide != want || Short(upper|c.infinity, c.width) != (c.width == 2) {
				t.Errorf("the infinity %#x, %d: %#x, %v", upper|c.infinity, c.width, wide, ok)
			}
		}
	}
	for x := uint64(0x7c01); x <= 0x7fff; x++ {
		if Short(x, 2) != (x == 0x7e00) || Short(x|0x8000, 2) {
			t.Errorf("Short of the half %#x, or with a sign", x)
		}
	}
}

// none sees to it that bits and a width that don't go together are nobody's.
func none(t *testing.T, x uint64, width int) {
	t.Helper()
	if wide, ok := Widen(x, width); ok || wide != 0 {
		t.Errorf("Widen(%#x, %d) = %#x, %v", x, width, wide, ok)
	}
	if Short(x, width) {
		t.Errorf("Short(%#x, %d)", x, width)
	}
}

func TestOtherWidths(t *testing.T) { // P6.2, R1, R3
	for _, width := range wrongWidths {
		for _, x := range []uint64{0, 1, 0x3c, 0x7e00, 0x3c00, 0x8000, 0x3f800001, 0x7fc00000, 0x3ff0000000000001, 0x7ff8000000000000, sign, math.MaxUint64} {
			none(t, x, width)
		}
	}
	for _, width := range widths {
		if _, ok := Widen(0, width); !ok || Short(0, width) != (width == 2) {
			t.Errorf("0 with the width %d", width)
		}
	}
}

func TestTooManyBits(t *testing.T) { // P6.2, R1, R3
	for bit := range 64 {
		more := uint64(1) << bit
		for _, low := range []uint64{0, 1, 0x3c00, 0x7e00, 0x7fff} {
			if bit >= 16 {
				none(t, low|more, 2)
			}
			if bit >= 32 {
				none(t, low|more, 4)
				none(t, low<<16|more, 4)
			}
			if _, ok := Widen(low|more, 8); !ok {
				t.Errorf("Widen(%#x, 8)", low|more)
			}
		}
	}
	none(t, 0x10000, 2)
	none(t, 0x100000000, 4)
	none(t, 0xffffffffffff8000, 2) // a sign that was carried on
	none(t, 0xffffffff80000000, 4)
	none(t, math.MaxUint64, 2)
	none(t, math.MaxUint64, 4)
	for width, most := range map[int]uint64{2: 0xffff, 4: 0xffffffff, 8: math.MaxUint64} { // just as many bits as there may be: NaNs
		if wide, ok := Widen(most, width); !ok || wide != 0x7ff8000000000000 {
			t.Errorf("Widen(%#x, %d) = %#x, %v", most, width, wide, ok)
		}
	}
}

func TestSameAnswerEachTime(t *testing.T) { // R6
	type answers struct {
		y, wide               uint64
		w                     int
		ok, short, notANumber bool
	}
	ask := func(x uint64, width int) (a answers) {
		a.y, a.w = Shortest(x)
		a.wide, a.ok = Widen(x, width)
		a.short, a.notANumber = Short(x, width), NaN(x)
		return a
	}
	for _, x := range []uint64{0, sign, 1, 0x3c00, 0x7e01, 0x3f800001, 0x7fc00000, 0x3ff0000000000000, 0x7ff0000000000001, math.MaxUint64} {
		for _, width := range []int{2, 3, 4, 8, -1} {
			first := ask(x, width)
			ask(^x, 8)
			if again := ask(x, width); again != first {
				t.Errorf("of %#x, %d: first %v, then %v", x, width, first, again)
			}
		}
	}
}
