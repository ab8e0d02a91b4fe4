package head

import (
	"encoding/binary"
	"math"
	"slices"
	"testing"

	"ullage/api"
)

// bounds are numbers at both sides of each bound at which an argument needs more bytes, and others.
var bounds = []uint64{
	0, 1, 10, 22, 23, 24, 25, 31, 32, 100, 127, 128, 254, 255, 256, 257, 1000, 1<<15 - 1, 1 << 15,
	65_534, 65_535, 65_536, 65_537, 1 << 24, 1<<31 - 1, 1 << 31, 1<<32 - 2, 1<<32 - 1, 1 << 32, 1<<32 + 1,
	1 << 40, 1 << 48, 1 << 56, 1<<63 - 1, 1 << 63, math.MaxUint64 - 1, math.MaxUint64,
}

// behind are bytes of which a head's argument, or what comes behind a head, may be made.
var behind = [][]byte{
	{0, 0, 0, 0, 0, 0, 0, 0}, {0, 0, 0, 0, 0, 0, 0, 1}, {0, 1, 0, 1, 0, 1, 0, 1}, {1, 2, 3, 4, 5, 6, 7, 8},
	{0x17, 0x18, 0x17, 0x18, 0x17, 0x18, 0x17, 0x18}, {0x1f, 0, 0, 0, 0, 0, 0, 0}, {0x20, 0, 0, 0, 0, 0, 0, 0},
	{0x3c, 0, 0, 0, 0, 0, 0, 0}, {0x7e, 0, 0, 0, 0, 0, 0, 0}, {0x3f, 0x80, 0, 0x01, 0, 0, 0, 1}, {0x3f, 0xf8, 0, 0, 0, 0, 0, 0},
	{0x80, 0, 0, 0, 0, 0, 0, 0}, {0xff, 0xff, 0xff, 0xff, 0xff, 0xff, 0xff, 0xff}, {0, 0, 0xff, 0xff, 0xff, 0xff, 0xff, 0xff},
}

// reading is what the chapter says of a list of bytes: the head, if it is whole, how many bytes it has, or the place of the error.
type reading struct {
	head  Head
	at    int
	err   api.Errno
	whole bool
}

// read works out from all bytes at once what is to be told of them.
func read(b []byte) reading {
	if len(b) == 0 {
		return reading{err: api.ErrTruncated}
	}
	major, info := int(b[0])/32, int(b[0])%32
	switch {
	case info < 24:
		return reading{Head{major, 0, uint64(info)}, 1, api.OK, true}
	case info == 31 && (major == 2 || major == 3 || major == 4 || major == 5):
		return reading{err: api.ErrDeterminism}
	case info >= 28:
		return reading{err: api.ErrSyntax}
	case major == 7 && info == 24 && len(b) > 1 && b[1] < 32:
		return reading{at: 1, err: api.ErrSyntax}
	}
	width := []int{1, 2, 4, 8}[info-24]
	if len(b) <= width {
		return reading{at: len(b), err: api.ErrTruncated}
	}
	var eight [8]byte
	copy(eight[8-width:], b[1:])
	h := Head{major, width, binary.BigEndian.Uint64(eight[:])}
	if !isShortest(h) {
		return reading{h, width, api.ErrDeterminism, true}
	}
	return reading{h, width + 1, api.OK, true}
}

// isShortest works with the machine's own floats.
func isShortest(h Head) bool {
	if h.Major < 7 {
		return h.Arg >= map[int]uint64{1: 24, 2: 256, 4: 65_536, 8: 1 << 32}[h.Width]
	}
	switch h.Width {
	case 2:
		return h.Arg&0x7c00 != 0x7c00 || h.Arg&0x3ff == 0 || h.Arg == 0x7e00
	case 4:
		v := float64(math.Float32frombits(uint32(h.Arg)))
		return !math.IsNaN(v) && !isHalf(v)
	case 8:
		v := math.Float64frombits(h.Arg)
		return !math.IsNaN(v) && float64(float32(v)) != v
	}
	return true
}

// isHalf tells whether a half has just that value, which is no NaN: 11 bits, the least of them not below 2^-24.
func isHalf(v float64) bool {
	fraction, _ := math.Frexp(v)
	whole := func(x float64) bool { return x == math.Trunc(x) }
	return math.IsInf(v, 0) || math.Abs(v) <= 65_504 && whole(math.Ldexp(v, 24)) && whole(math.Ldexp(fraction, 11))
}

// check holds what First and a Reader tell of b against what is worked out from the whole of it.
func check(t *testing.T, b []byte) {
	t.Helper()
	want := read(b)
	wanted := want.head
	if want.err != api.OK {
		wanted = Head{}
	}
	if h, n, err := First(b); h != wanted || n != want.at || err != want.err {
		t.Fatalf("First(% x) = %v, %d, %v, want %v, %d, %v", b, h, n, err, wanted, want.at, want.err)
	}
	var r Reader
	checkSteps(t, &r, b, want)
}

// checkSteps hands b to r, up to the head's last byte, or a wrong one.
func checkSteps(t *testing.T, r *Reader, b []byte, want reading) {
	t.Helper()
	last := want.at
	if want.err == api.OK {
		last--
	}
	for i, c := range b[:min(last+1, len(b))] {
		done, err := r.Step(c)
		if i < last {
			if done || err != api.OK || !r.Open() || r.Head() != (Head{}) {
				t.Fatalf("% x, within the head, at %d: %v, %v, %v, %v", b, i, done, err, r.Open(), r.Head())
			}
			continue
		}
		if done != want.whole || err != want.err || r.Open() == want.whole || r.Head() != want.head {
			t.Fatalf("% x, at %d: %v, %v, %v, %v, want %v", b, i, done, err, r.Open(), r.Head(), want)
		}
	}
}

// spell is a head whose argument has that many bytes, whatever it needs.
func spell(major, width int, arg uint64) []byte {
	if width == 0 {
		return []byte{byte(32*major) + byte(arg)}
	}
	info := map[int]byte{1: 24, 2: 25, 4: 26, 8: 27}[width]
	eight := binary.BigEndian.AppendUint64(nil, arg)
	return append([]byte{byte(32*major) + info}, eight[8-width:]...)
}

// whole sees to it that b is that head, and nothing is behind it.
func whole(t *testing.T, b []byte, h Head) {
	t.Helper()
	if got, n, err := First(b); got != h || n != len(b) || err != api.OK {
		t.Errorf("First(% x) = %v, %d, %v, want %v", b, got, n, err, h)
	}
	check(t, b)
}

// wrong sees to it that b's first head is wrong at that place.
func wrong(t *testing.T, b []byte, at int, err api.Errno) {
	t.Helper()
	if h, n, got := First(b); h != (Head{}) || n != at || got != err {
		t.Errorf("First(% x) = %v, %d, %v, want %d, %v", b, h, n, got, at, err)
	}
	check(t, b)
}

func TestKnown(t *testing.T) { // P7.2
	whole(t, []byte{0x18, 0x18}, Head{api.Uint, 1, 24}) // the chapter's examples
	wrong(t, []byte{0x18, 0x17}, 1, api.ErrDeterminism) // which is the document's second, too
	whole(t, []byte{0xf9, 0x3e, 0x00}, Head{api.Simple, 2, 0x3e00})
	wrong(t, []byte{0xfb, 0x3f, 0xf8, 0, 0, 0, 0, 0, 0}, 8, api.ErrDeterminism) // the document's ninth
	whole(t, []byte{0x00}, Head{})
	whole(t, []byte{0x17}, Head{Arg: 23})
	whole(t, []byte{0x20}, Head{Major: api.Nint})
	whole(t, []byte{0x3b, 255, 255, 255, 255, 255, 255, 255, 255}, Head{api.Nint, 8, math.MaxUint64})
	whole(t, []byte{0x40}, Head{Major: api.Bytes})
	whole(t, []byte{0x78, 0xff}, Head{api.Text, 1, 255})
	whole(t, []byte{0x99, 1, 0}, Head{api.Array, 2, 256})
	whole(t, []byte{0xba, 0, 1, 0, 0}, Head{api.Map, 4, 65_536})
	whole(t, []byte{0xdb, 0, 0, 0, 1, 0, 0, 0, 0}, Head{api.Tag, 8, 1 << 32})
	whole(t, []byte{0xf6}, Head{Major: api.Simple, Arg: 22})
	whole(t, []byte{0xf8, 0xff}, Head{api.Simple, 1, 255})
	whole(t, []byte{0xfa, 0x47, 0xc3, 0x50, 0x00}, Head{api.Simple, 4, 0x47c35000})
	whole(t, []byte{0xfb, 0x3f, 0xb9, 0x99, 0x99, 0x99, 0x99, 0x99, 0x9a}, Head{api.Simple, 8, 0x3fb999999999999a})
}

func TestFirstBytes(t *testing.T) { // P7.1, P7.2
	for c := range 256 {
		major, info := c/32, c%32
		b := []byte{byte(c)}
		switch {
		case info < 24:
			whole(t, b, Head{major, 0, uint64(info)})
		case info < 28:
			wrong(t, b, 1, api.ErrTruncated)
		case info == 31 && major >= 2 && major <= 5:
			wrong(t, b, 0, api.ErrDeterminism)
		default:
			wrong(t, b, 0, api.ErrSyntax)
		}
		for _, more := range behind {
			for n := range len(more) + 1 {
				check(t, append([]byte{byte(c)}, more[:n]...))
			}
		}
	}
}

func TestEverySecondByte(t *testing.T) { // P7.1, P7.2
	for c := range 256 {
		for d := range 256 {
			check(t, []byte{byte(c), byte(d)})
			check(t, []byte{byte(c), byte(d), 0, 0, 0, 0, 0, 0, 0})
			check(t, []byte{byte(c), 0, byte(d), 0, 0, 0, 0, 0, 0})
			check(t, []byte{byte(c), 0, 0, 0, byte(d), 0, 0, 0, 0})
			check(t, []byte{byte(c), 0, 0, 0, 0, 0, 0, 0, byte(d)})
		}
	}
}

// needs is how many bytes the argument has in the shortest head.
func needs(arg uint64) int {
	switch {
	case arg <= 23:
		return 0
	case arg <= 255:
		return 1
	case arg <= 65_535:
		return 2
	case arg <= 4_294_967_295:
		return 4
	}
	return 8
}

func TestBounds(t *testing.T) { // P7.1, P7.2, P7.3
	for major := range 7 {
		for _, arg := range bounds {
			for _, width := range []int{0, 1, 2, 4, 8} {
				if width < needs(arg) {
					continue // it hasn't room there
				}
				b := spell(major, width, arg)
				if width > needs(arg) {
					wrong(t, b, len(b)-1, api.ErrDeterminism)
					continue
				}
				whole(t, b, Head{major, width, arg})
				if got := Put(major, arg); !slices.Equal(got, b) {
					t.Errorf("Put(%d, %d) = % x, want % x", major, arg, got, b)
				}
			}
		}
	}
}

func TestSimpleValues(t *testing.T) { // P7.1, P7.2, P7.3
	for arg := range uint64(256) {
		switch b := spell(7, 1, arg); {
		case arg < 24:
			whole(t, spell(7, 0, arg), Head{api.Simple, 0, arg})
			wrong(t, b, 1, api.ErrSyntax)
			if got := Put(7, arg); !slices.Equal(got, []byte{0xe0 + byte(arg)}) {
				t.Errorf("Put(7, %d) = % x", arg, got)
			}
		case arg < 32:
			wrong(t, b, 1, api.ErrSyntax)
			if got := Put(7, arg); len(got) != 0 {
				t.Errorf("Put(7, %d) = % x", arg, got)
			}
		default:
			whole(t, b, Head{api.Simple, 1, arg})
			if got := Put(7, arg); !slices.Equal(got, []byte{0xf8, byte(arg)}) {
				t.Errorf("Put(7, %d) = % x", arg, got)
			}
		}
	}
	for _, arg := range bounds {
		if got := Put(7, arg); arg > 255 && len(got) != 0 { // not even one that is a float's bits
			t.Errorf("Put(7, %d) = % x", arg, got)
		}
	}
}

func TestHalves(t *testing.T) { // P7.1, P7.2, P7.3
	for x := range uint64(1 << 16) {
		b := spell(7, 2, x)
		if x&0x7fff > 0x7c00 && x != 0x7e00 { // a NaN that isn't the one
			wrong(t, b, 2, api.ErrDeterminism)
			continue
		}
		whole(t, b, Head{api.Simple, 2, x})
	}
}

func TestFloats(t *testing.T) { // P7.1, P7.2
	for _, x := range []uint64{
		0x3f800001, 0x3f7fffff, 0x47c35000, 0x7f7fffff, 0xff7fffff, 0x00000001, 0x80000001, 0x007fffff, 0x00800000, 0x33000000, 0x387fe000, 0x47800000, 0xc2cffffe,
	} {
		whole(t, spell(7, 4, x), Head{api.Simple, 4, x})
	}
	for _, x := range []uint64{ // noughts, infinities, NaNs, and values of halves
		0, 0x80000000, 0x7f800000, 0xff800000, 0x7fc00000, 0xffc00000, 0x7f800001, 0x7fffffff, 0xffffffff, 0x3f800000, 0xbf800000, 0x33800000, 0x38800000, 0x387fc000, 0x477fe000, 0xc77fe000,
	} {
		wrong(t, spell(7, 4, x), 4, api.ErrDeterminism)
	}
	for _, x := range []uint64{
		0x3ff0000000000001, 0x3fb999999999999a, 0x7fefffffffffffff, 0xffefffffffffffff, 1, 1<<63 | 1, 0x000fffffffffffff, 0x0010000000000000, 0x3690000000000000, 0x47f0000000000000, 0x7e37e43c8800759c,
	} {
		whole(t, spell(7, 8, x), Head{api.Simple, 8, x})
	}
	for _, x := range []uint64{ // these, and values of singles
		0, 1 << 63, 0x7ff0000000000000, 0xfff0000000000000, 0x7ff8000000000000, 0xfff8000000000000, 0x7ff0000000000001, 0x7fffffffffffffff, math.MaxUint64, 0x3ff0000000000000, 0x3ff8000000000000, 0x3ff0000020000000, 0x36a0000000000000, 0x47efffffe0000000,
	} {
		wrong(t, spell(7, 8, x), 8, api.ErrDeterminism)
	}
}

func TestManyFloats(t *testing.T) { // P7.1, P7.2, P7.3
	x := uint64(1)
	for range 100_000 { // a row that always is the same
		x = x*6_364_136_223_846_793_005 + 1_442_695_040_888_963_407
		for _, y := range []uint64{x, x &^ (1<<29 - 1), x &^ (1<<42 - 1)} { // of a double, perhaps of a single, of a half
			check(t, spell(7, 8, y))
			putFloat(t, y)
		}
		check(t, spell(7, 4, x>>32))
		check(t, spell(7, 4, x>>32&^(1<<13-1)))
	}
}

// putFloat sees to it that the head of the double x is a whole one, in the one form, that means x.
func putFloat(t *testing.T, x uint64) {
	t.Helper()
	b := PutFloat(x)
	want := read(b)
	if want.err != api.OK || want.at != len(b) || want.head.Major != 7 || want.head.Width < 2 {
		t.Fatalf("PutFloat(%#x) = % x", x, b)
	}
	v := math.Float64frombits(x)
	if math.IsNaN(v) {
		if !slices.Equal(b, []byte{0xf9, 0x7e, 0}) {
			t.Fatalf("PutFloat(%#x) = % x", x, b)
		}
		return
	}
	if back := math.Float64frombits(wide(want.head)); math.Float64bits(back) != x {
		t.Fatalf("PutFloat(%#x) = % x, which is %v", x, b, back)
	}
}

// wide is the bits of the double that a float's head, of no NaN, means.
func wide(h Head) uint64 {
	switch h.Width {
	case 4:
		return math.Float64bits(float64(math.Float32frombits(uint32(h.Arg))))
	case 8:
		return h.Arg
	}
	exponent, fraction := int(h.Arg>>10&31), float64(h.Arg&1023)
	v := math.Ldexp(1024+fraction, exponent-25)
	switch exponent {
	case 0:
		v = math.Ldexp(fraction, -24)
	case 31:
		v = math.Inf(1)
	}
	if h.Arg>>15 == 1 {
		v = math.Copysign(v, -1)
	}
	return math.Float64bits(v)
}

func TestPutFloat(t *testing.T) { // P7.3
	for _, c := range []struct {
		x    uint64
		want []byte
	}{
		{0, []byte{0xf9, 0, 0}},
		{1 << 63, []byte{0xf9, 0x80, 0}},
		{0x3ff8000000000000, []byte{0xf9, 0x3e, 0}}, // 1.5, the document's ninth example
		{0x7ff0000000000000, []byte{0xf9, 0x7c, 0}},
		{0xfff0000000000000, []byte{0xf9, 0xfc, 0}},
		{0x7ff8000000000000, []byte{0xf9, 0x7e, 0}}, // NaNs
		{0xfff8000000000000, []byte{0xf9, 0x7e, 0}},
		{0x7ff0000000000001, []byte{0xf9, 0x7e, 0}},
		{math.MaxUint64, []byte{0xf9, 0x7e, 0}},
		{0x40effc0000000000, []byte{0xf9, 0x7b, 0xff}},       // the greatest half
		{0x3e70000000000000, []byte{0xf9, 0, 1}},             // the least
		{0x40f0000000000000, []byte{0xfa, 0x47, 0x80, 0, 0}}, // 65,536
		{0xc0f86a0000000000, []byte{0xfa, 0xc7, 0xc3, 0x50, 0}},
		{0x36a0000000000000, []byte{0xfa, 0, 0, 0, 1}}, // the least single
		{0x3fb999999999999a, []byte{0xfb, 0x3f, 0xb9, 0x99, 0x99, 0x99, 0x99, 0x99, 0x9a}},
		{1, []byte{0xfb, 0, 0, 0, 0, 0, 0, 0, 1}},
		{0x7fefffffffffffff, []byte{0xfb, 0x7f, 0xef, 0xff, 0xff, 0xff, 0xff, 0xff, 0xff}},
	} {
		if b := PutFloat(c.x); !slices.Equal(b, c.want) {
			t.Errorf("PutFloat(%#x) = % x, want % x", c.x, b, c.want)
		}
		putFloat(t, c.x)
	}
	for x := range uint64(1 << 16) {
		h := Head{api.Simple, 2, x}
		if !isShortest(h) || x == 0x7e00 {
			continue
		}
		if b := PutFloat(wide(h)); !slices.Equal(b, spell(7, 2, x)) {
			t.Fatalf("PutFloat of the half %#x = % x", x, b)
		}
	}
}

func TestPutMajors(t *testing.T) { // P7.3, R1
	for major := -40; major <= 40; major++ {
		for _, arg := range bounds {
			modulo := (major + 80) % 8
			want := spell(modulo, needs(arg), arg)
			if modulo == 7 && (arg > 255 || arg >= 24 && arg <= 31) {
				want = nil
			}
			if got := Put(major, arg); !slices.Equal(got, want) {
				t.Errorf("Put(%d, %d) = % x, want % x", major, arg, got, want)
			}
		}
	}
	for major, first := range map[int]byte{
		math.MinInt: 0x0a, math.MinInt + 1: 0x2a, math.MinInt + 7: 0xea, math.MaxInt: 0xea, math.MaxInt - 1: 0xca, math.MaxInt - 7: 0x0a,
		-1: 0xea, -2: 0xca, -7: 0x2a, -8: 0x0a, -9: 0xea, 7: 0xea, 8: 0x0a, 9: 0x2a, 15: 0xea, 16: 0x0a, 255: 0xea, 256: 0x0a, 1 << 32: 0x0a,
	} {
		if got := Put(major, 10); !slices.Equal(got, []byte{first}) {
			t.Errorf("Put(%d, 10) = % x, want %x", major, got, first)
		}
	}
}

func TestTooSoon(t *testing.T) { // P7.1, P7.2
	wrong(t, nil, 0, api.ErrTruncated)
	wrong(t, []byte{}, 0, api.ErrTruncated)
	for major := range 8 {
		for _, width := range []int{1, 2, 4, 8} {
			for _, arg := range []uint64{0, 0x20 << (8 * (width - 1)), math.MaxUint64 >> (64 - 8*width)} {
				b := spell(major, width, arg)
				for n := 1; n < len(b); n++ {
					wrong(t, b[:n:n], n, api.ErrTruncated)
					wrong(t, b[:n], n, api.ErrTruncated) // what lies behind a list's length isn't read
				}
			}
		}
	}
}

func TestBehind(t *testing.T) { // P7.2
	for _, b := range [][]byte{{0x17}, {0x18, 0x18}, {0x59, 1, 0}, {0x9a, 0, 1, 0, 0}, {0xbb, 0, 0, 0, 1, 0, 0, 0, 0}, {0xf4}, {0xf8, 0x20}, {0xf9, 0x7e, 0}} {
		h, n, _ := First(b)
		for c := range 256 {
			for _, more := range [][]byte{{byte(c)}, slices.Repeat([]byte{byte(c)}, 20)} {
				if got, m, err := First(append(slices.Clone(b), more...)); got != h || m != n || n != len(b) || err != api.OK {
					t.Errorf("First of % x and % x: %v, %d, %v", b, more, got, m, err)
				}
			}
		}
	}
	for _, c := range []struct {
		b   []byte
		at  int
		err api.Errno
	}{
		{[]byte{0x1c, 0x00}, 0, api.ErrSyntax}, {[]byte{0xff, 0x00}, 0, api.ErrSyntax}, {[]byte{0x9f, 0x00, 0xff}, 0, api.ErrDeterminism},
		{[]byte{0xf8, 0x00, 0x1c}, 1, api.ErrSyntax}, {[]byte{0x19, 0x00, 0x17, 0x1c}, 2, api.ErrDeterminism}, {[]byte{0xf9, 0x7e, 0x01, 0x00}, 2, api.ErrDeterminism},
	} {
		wrong(t, c.b, c.at, c.err)
	}
	long := make([]byte, 1<<20)
	whole(t, long[:1], Head{})
	if h, n, err := First(long); h != (Head{}) || n != 1 || err != api.OK {
		t.Errorf("First of many noughts: %v, %d, %v", h, n, err)
	}
}

// asks sees to it that r has just this to tell.
func asks(t *testing.T, r *Reader, when string, open bool, h Head) {
	t.Helper()
	for range 2 { // asking changes nothing
		if r.Open() != open || r.Head() != h {
			t.Errorf("%s: %v, %v, want %v, %v", when, r.Open(), r.Head(), open, h)
		}
	}
}

// steps hands the byte c to r.
func steps(t *testing.T, r *Reader, c byte, done bool, err api.Errno) {
	t.Helper()
	if got, e := r.Step(c); got != done || e != err {
		t.Errorf("Step(%#x) = %v, %v, want %v, %v", c, got, e, done, err)
	}
}

func TestReader(t *testing.T) { // P7.1
	var r Reader
	asks(t, &r, "ahead of all", false, Head{})
	steps(t, &r, 0x39, false, api.OK)
	asks(t, &r, "behind the first byte", true, Head{})
	steps(t, &r, 0x01, false, api.OK)
	asks(t, &r, "behind the second byte", true, Head{})
	steps(t, &r, 0x02, true, api.OK)
	asks(t, &r, "behind a head", false, Head{api.Nint, 2, 0x102})
	steps(t, &r, 0x45, true, api.OK)
	asks(t, &r, "behind a head of one byte", false, Head{api.Bytes, 0, 5})
	steps(t, &r, 0x18, false, api.OK)
	asks(t, &r, "within the next head", true, Head{})
	steps(t, &r, 0x17, true, api.ErrDeterminism)
	asks(t, &r, "behind one that isn't the shortest", false, Head{api.Uint, 1, 23})
	steps(t, &r, 0xf9, false, api.OK)
	steps(t, &r, 0x7e, false, api.OK)
	steps(t, &r, 0x01, true, api.ErrDeterminism)
	asks(t, &r, "behind a float that isn't the shortest", false, Head{api.Simple, 2, 0x7e01})
	steps(t, &r, 0xf8, false, api.OK)
	steps(t, &r, 0x20, true, api.OK)
	asks(t, &r, "behind a simple value", false, Head{api.Simple, 1, 32})
	r.Reset()
	asks(t, &r, "behind Reset", false, Head{})
}

func TestErrorAgain(t *testing.T) { // P7.1
	for _, c := range []struct {
		b   []byte
		err api.Errno
	}{
		{[]byte{0x1c}, api.ErrSyntax}, {[]byte{0xfe}, api.ErrSyntax}, {[]byte{0x1f}, api.ErrSyntax}, {[]byte{0xdf}, api.ErrSyntax}, {[]byte{0xff}, api.ErrSyntax},
		{[]byte{0x5f}, api.ErrDeterminism}, {[]byte{0xbf}, api.ErrDeterminism}, {[]byte{0xf8, 0x00}, api.ErrSyntax}, {[]byte{0xf8, 0x1f}, api.ErrSyntax},
		{[]byte{0x83, 0x18, 0x18, 0x3d}, api.ErrSyntax}, {[]byte{0x18, 0x00, 0x7f}, api.ErrDeterminism},
	} {
		var r Reader
		last := len(c.b) - 1
		for _, x := range c.b[:last] {
			r.Step(x)
		}
		steps(t, &r, c.b[last], false, c.err)
		for x := range 256 { // also bytes that would begin a head, or be one
			steps(t, &r, byte(x), false, c.err)
		}
		asks(t, &r, "behind an error", true, Head{})
		r.Reset()
		asks(t, &r, "behind an error and Reset", false, Head{})
		steps(t, &r, 0x18, false, api.OK)
		steps(t, &r, 0x18, true, api.OK)
		asks(t, &r, "behind the next head", false, Head{api.Uint, 1, 24})
	}
}

func TestReset(t *testing.T) { // P7.1
	for _, b := range [][]byte{nil, {0x00}, {0x18}, {0x1b, 1, 2, 3}, {0x19, 0, 1}, {0xf8}, {0xf8, 0xff}, {0xf8, 0x01}, {0x7f}, {0x7f, 0x00}, {0xfb, 1, 2, 3, 4, 5, 6, 7, 8}} {
		for first := range 256 {
			for _, more := range behind {
				var r Reader
				for _, c := range b {
					r.Step(c)
				}
				r.Reset()
				asks(t, &r, "behind Reset", false, Head{})
				next := append([]byte{byte(first)}, more...)
				checkSteps(t, &r, next, read(next))
			}
		}
	}
}

func TestHeadsInARow(t *testing.T) { // P7.1
	var r Reader
	for major := range 7 { // all widths behind all others, the shortest and the longer ones
		for _, before := range bounds {
			for _, width := range []int{0, 1, 2, 4, 8} {
				if width < needs(before) {
					continue
				}
				b := spell(major, width, before)
				checkSteps(t, &r, b, read(b))
				for _, arg := range []uint64{0, 24, 256, 65_536, 1 << 32} {
					next := spell(6-major, needs(arg), arg)
					checkSteps(t, &r, next, read(next))
				}
			}
		}
	}
	for x := range uint64(1 << 16) { // floats, too
		for _, b := range [][]byte{spell(7, 2, x), spell(7, 4, x<<16|1), {0xf8, 0x20 | byte(x)}, {0x01}} {
			checkSteps(t, &r, b, read(b))
		}
	}
}

func TestNilReader(t *testing.T) { // P7.1
	var r *Reader
	for c := range 256 {
		steps(t, r, byte(c), false, api.ErrArg)
	}
	r.Reset()
	asks(t, r, "of a nil reader", false, Head{})
}

func TestNothingIsShared(t *testing.T) { // R4
	b := []byte{0x1b, 0, 0, 0, 1, 0, 0, 0, 0, 0xff}
	before := slices.Clone(b)
	First(b)
	First(b[:4])
	if !slices.Equal(b, before) {
		t.Error("First writes to what it was handed")
	}
	for _, put := range []func() []byte{
		func() []byte { return Put(0, 7) },
		func() []byte { return Put(1, 200) },
		func() []byte { return Put(5, 1<<40) },
		func() []byte { return Put(7, 255) },
		func() []byte { return PutFloat(0x3ff8000000000000) },
		func() []byte { return PutFloat(0x3fb999999999999a) },
	} {
		first := put()
		want := slices.Clone(first)
		first = first[:cap(first)]
		for i := range first {
			first[i] = 0xee
		}
		if again := put(); !slices.Equal(again, want) {
			t.Errorf("% x, and then % x", want, again)
		}
	}
	var r, other Reader
	r.Step(0x19)
	other.Step(0x05)
	r.Step(0x12)
	other.Step(0x1c)
	if done, err := r.Step(0x34); !done || err != api.OK || r.Head() != (Head{api.Uint, 2, 0x1234}) {
		t.Error("a reader hangs on another one")
	}
}

func TestSameAnswerEachTime(t *testing.T) { // R6
	for _, b := range [][]byte{nil, {0x00}, {0x18, 0x17}, {0x18, 0x18}, {0x5f}, {0xf8, 0x1f}, {0xf9, 0x7e, 0}, {0x1b, 1}} {
		h, n, err := First(b)
		First([]byte{0xff})
		Put(3, 1000)
		if h2, n2, err2 := First(b); h2 != h || n2 != n || err2 != err {
			t.Errorf("First(% x): %v, %d, %v, then %v, %d, %v", b, h, n, err, h2, n2, err2)
		}
	}
}
