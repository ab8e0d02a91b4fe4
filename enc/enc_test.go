package enc

import (
	"bytes"
	"encoding/binary"
	"encoding/hex"
	"math"
	"math/rand"
	"slices"
	"sort"
	"strconv"
	"strings"
	"testing"

	"ullage/api"
	"ullage/item"
)

func uintOf(n uint64) api.Item            { return api.Item{Kind: api.Uint, N: n} }
func nintOf(n uint64) api.Item            { return api.Item{Kind: api.Nint, N: n} }
func bytesOf(s string) api.Item           { return api.Item{Kind: api.Bytes, S: s} }
func textOf(s string) api.Item            { return api.Item{Kind: api.Text, S: s} }
func arrayOf(l ...api.Item) api.Item      { return api.Item{Kind: api.Array, L: l} }
func mapOf(l ...api.Item) api.Item        { return api.Item{Kind: api.Map, L: l} }
func tagOf(n uint64, x api.Item) api.Item { return api.Item{Kind: api.Tag, N: n, L: []api.Item{x}} }
func simpleOf(n uint64) api.Item          { return api.Item{Kind: api.Simple, N: n} }
func floatOf(v float64) api.Item          { return api.Item{Kind: api.Float, N: math.Float64bits(v)} }
func floatBits(n uint64) api.Item         { return api.Item{Kind: api.Float, N: n} }

// theNaN are the bits of the NaN that may be.
const theNaN = 0x7ff8000000000000

// chain is an item in so many others, each the only one of the one about it.
func chain(about int, x api.Item) api.Item {
	for range about {
		x = arrayOf(x)
	}
	return x
}

// spell is a text that is the same just for items that are the same.
func spell(x api.Item) string {
	var s strings.Builder
	spellTo(&s, x)
	return s.String()
}

func spellTo(s *strings.Builder, x api.Item) {
	s.WriteString("(" + strconv.Itoa(x.Kind) + " " + strconv.FormatUint(x.N, 16) + " " + strconv.Quote(x.S))
	for _, y := range x.L {
		spellTo(s, y)
	}
	s.WriteString(")")
}

// canon is a text that is the same just for items that are the same but for the order of their maps' pairs. It knows nothing of encodings.
func canon(x api.Item) string {
	var parts []string
	step := 1
	if x.Kind == api.Map {
		step = 2
	}
	for i := 0; i+step <= len(x.L); i += step {
		part := canon(x.L[i])
		if step == 2 {
			part += canon(x.L[i+1])
		}
		parts = append(parts, part)
	}
	if step == 2 {
		sort.Strings(parts)
	}
	return "(" + strconv.Itoa(x.Kind) + " " + strconv.FormatUint(x.N, 16) + " " + strconv.Quote(x.S) + strings.Join(parts, "") + ")"
}

// halves are the bits of all halves but NaNs, by those of the doubles of the same value.
var halves = func() map[uint64]uint16 {
	all := map[uint64]uint16{}
	for h := range 1 << 16 {
		exponent, fraction := h>>10&31, h&1023
		v := math.Ldexp(float64(1024+fraction), exponent-25)
		switch {
		case exponent == 31 && fraction != 0:
			continue
		case exponent == 31:
			v = math.Inf(1)
		case exponent == 0:
			v = math.Ldexp(float64(fraction), -24)
		}
		if h>>15 == 1 {
			v = math.Copysign(v, -1)
		}
		all[math.Float64bits(v)] = uint16(h)
	}
	return all
}()

// wantHead lays a head by the widths that the chapter of heads tells.
func wantHead(major int, arg uint64) string {
	first := byte(major * 32)
	switch {
	case arg < 24:
		return string([]byte{first + byte(arg)})
	case arg < 256:
		return string([]byte{first + 24, byte(arg)})
	case arg < 65_536:
		return string(binary.BigEndian.AppendUint16([]byte{first + 25}, uint16(arg)))
	case arg < 1<<32:
		return string(binary.BigEndian.AppendUint32([]byte{first + 26}, uint32(arg)))
	}
	return string(binary.BigEndian.AppendUint64([]byte{first + 27}, arg))
}

// wantFloat works with the machine's own floats.
func wantFloat(n uint64) string {
	v := math.Float64frombits(n)
	if math.IsNaN(v) {
		return "\xf9\x7e\x00"
	}
	if h, ok := halves[n]; ok {
		return string(binary.BigEndian.AppendUint16([]byte{0xf9}, h))
	}
	if float64(float32(v)) == v {
		return string(binary.BigEndian.AppendUint32([]byte{0xfa}, math.Float32bits(float32(v))))
	}
	return string(binary.BigEndian.AppendUint64([]byte{0xfb}, n))
}

// want is the encoding by the chapter's words.
func want(x api.Item) string {
	var s strings.Builder
	switch x.Kind {
	case 2, 3:
		return wantHead(x.Kind, uint64(len(x.S))) + x.S
	case 4:
		s.WriteString(wantHead(4, uint64(len(x.L))))
		for _, y := range x.L {
			s.WriteString(want(y))
		}
		return s.String()
	case 5:
		values, keys := map[string]string{}, []string{}
		for i := 0; i < len(x.L); i += 2 {
			k := want(x.L[i])
			values[k] = want(x.L[i+1])
			keys = append(keys, k)
		}
		sort.Strings(keys)
		s.WriteString(wantHead(5, uint64(len(keys))))
		for _, k := range keys {
			s.WriteString(k + values[k])
		}
		return s.String()
	case 6:
		return wantHead(6, x.N) + want(x.L[0])
	case 8:
		return wantFloat(x.N)
	}
	return wantHead(x.Kind, x.N)
}

// decode reads the item that b begins with, and tells what is left.
func decode(b string) (api.Item, string) {
	major, info, arg := int(b[0]>>5), b[0]&31, uint64(b[0]&31)
	b = b[1:]
	if info > 23 {
		width := 1 << (info - 24)
		arg = 0
		for i := range width {
			arg = arg<<8 + uint64(b[i])
		}
		b = b[width:]
	}
	x, items := api.Item{Kind: major, N: arg}, uint64(0)
	switch major {
	case 2, 3:
		x.N, x.S, b = 0, b[:arg], b[arg:]
	case 4, 5:
		x.N, items = 0, arg*uint64(major-3)
	case 6:
		items = 1
	case 7:
		if info > 24 {
			x = floatBits(widen(info, arg))
		}
	}
	for range items {
		var y api.Item
		y, b = decode(b)
		x.L = append(x.L, y)
	}
	return x, b
}

// widen is the double of an argument's value.
func widen(info byte, arg uint64) uint64 {
	switch info {
	case 25:
		for n, h := range halves {
			if uint64(h) == arg {
				return n
			}
		}
		return theNaN
	case 26:
		return math.Float64bits(float64(math.Float32frombits(uint32(arg))))
	}
	return arg
}

// check holds what all calls tell of x, which may be, against what is worked out another way.
func check(t *testing.T, x api.Item) {
	t.Helper()
	text, name, wanted := spell(x), short(x), want(x)
	b, err := Encode(x)
	if string(b) != wanted || err != api.OK {
		t.Fatalf("Encode of %s: % .200x, %v, want % .200x", name, b, err, wanted)
	}
	if n := Size(x); n != len(b) || len(b) != len(wanted) {
		t.Fatalf("Size of %s: %d, want %d", name, n, len(wanted))
	}
	s := Sorted(x)
	read, rest := decode(wanted)
	if rest != "" || spell(s) != spell(read) {
		t.Fatalf("Sorted of %s: %s, want %s", name, short(s), short(read))
	}
	if again, err := Encode(s); string(again) != wanted || err != api.OK || Size(s) != len(wanted) || spell(Sorted(s)) != spell(s) {
		t.Fatalf("of %s, sorted: % .200x, %v, %d, %s", name, again, err, Size(s), short(Sorted(s)))
	}
	if canon(s) != canon(x) {
		t.Fatalf("Sorted of %s is another item: %s", name, short(s))
	}
	if spell(x) != text {
		t.Fatalf("%s was changed to %s", name, short(x))
	}
}

// short is what an item is called, where its spelling would be long.
func short(x api.Item) string {
	s := spell(x)
	return s[:min(len(s), 300)]
}

// checkHex holds Encode against digits that are written out.
func checkHex(t *testing.T, x api.Item, digits string) {
	t.Helper()
	if b, err := Encode(x); hex.EncodeToString(b) != digits || err != api.OK {
		t.Errorf("Encode of %s: %x, %v, want %s", short(x), b, err, digits)
	}
	check(t, x)
}

// checkWrong sees to it that x may not be, by that error.
func checkWrong(t *testing.T, x api.Item, wanted api.Errno) {
	t.Helper()
	text := spell(x)
	if got := item.Check(x); got != wanted {
		t.Fatalf("the test wants %v of %s, but Check tells %v", wanted, short(x), got)
	}
	if b, err := Encode(x); len(b) != 0 || err != wanted {
		t.Errorf("Encode of %s: % x, %v, want %v", short(x), b, err, wanted)
	}
	if n := Size(x); n != 0 {
		t.Errorf("Size of %s: %d", short(x), n)
	}
	if s := Sorted(x); spell(s) != spell(api.Item{}) {
		t.Errorf("Sorted of %s: %s", short(x), short(s))
	}
	if spell(x) != text {
		t.Errorf("%s was changed to %s", text, short(x))
	}
}

// within puts x into others, at each kind of place, behind and ahead of items that may be.
func within(x api.Item) []api.Item {
	return []api.Item{
		arrayOf(x), arrayOf(x, uintOf(1)), arrayOf(uintOf(1), x), arrayOf(arrayOf(), mapOf(), x, textOf("a")), tagOf(7, x),
		mapOf(x, uintOf(1)), mapOf(uintOf(1), x), mapOf(textOf("q"), arrayOf(), textOf("p"), x), mapOf(textOf("qqq"), arrayOf(), arrayOf(x), uintOf(2), textOf("r"), uintOf(3)),
		tagOf(1, arrayOf(mapOf(textOf("q"), tagOf(2, arrayOf(uintOf(1), x)), textOf("p"), mapOf()))), mapOf(mapOf(tagOf(2, x), textOf("b"), textOf("a"), x), mapOf(uintOf(2), x, uintOf(1), x)),
	}
}

// places puts x deep within others, too, and as deep as it may stand.
func places(x api.Item) []api.Item {
	all := within(x)
	for _, y := range within(x) {
		all = append(all, within(y)...)
	}
	return append(all, chain(30, x), chain(63-item.Depth(x), mapOf(textOf("b"), uintOf(1), textOf("a"), x)))
}

// good are items that may be, of each kind.
func good() []api.Item {
	return []api.Item{
		{}, uintOf(23), uintOf(24), uintOf(math.MaxUint64), nintOf(0), nintOf(255), nintOf(256), nintOf(math.MaxUint64),
		bytesOf(""), bytesOf("\xff\x00"), bytesOf(strings.Repeat("\xff", 24)), textOf(""), textOf("é"), textOf(strings.Repeat("é", 200)),
		arrayOf(), arrayOf(uintOf(1), uintOf(1), uintOf(0)), arrayOf(textOf("b"), textOf("a")), mapOf(), mapOf(uintOf(1), uintOf(2)), tagOf(0, uintOf(0)), tagOf(1<<32, textOf("a")),
		simpleOf(0), simpleOf(22), simpleOf(23), simpleOf(32), simpleOf(255), floatOf(0), floatOf(math.Copysign(0, -1)), floatOf(1.5), floatOf(1e10), floatOf(0.1), floatOf(math.Inf(1)), floatOf(math.Inf(-1)), floatBits(theNaN),
		mapOf(textOf("b"), uintOf(1), textOf("a"), uintOf(2)), mapOf(floatOf(1), uintOf(0), uintOf(1), uintOf(0)), manifold(),
	}
}

// manifold has maps at every level, none of them sorted.
func manifold() api.Item {
	return mapOf(
		textOf("z"), arrayOf(mapOf(uintOf(9), mapOf(), uintOf(8), arrayOf()), mapOf(nintOf(1), floatOf(0.5), nintOf(0), textOf("é"))),
		mapOf(arrayOf(uintOf(2), uintOf(1)), uintOf(7), uintOf(300), tagOf(5, mapOf(textOf("b"), uintOf(0), bytesOf("b"), uintOf(0)))), mapOf(simpleOf(21), uintOf(1), simpleOf(20), mapOf(uintOf(25), uintOf(1), uintOf(24), uintOf(1))),
		arrayOf(mapOf(textOf("b"), uintOf(1), textOf("a"), uintOf(2))), uintOf(3),
		uintOf(1000), tagOf(24, bytesOf("\x82\x01\x02")),
	)
}

func TestExamples(t *testing.T) { // P9.1: the chapter's, those of the whole, and of RFC 8949
	checkHex(t, mapOf(textOf("b"), uintOf(1), textOf("a"), uintOf(2)), "a2616102616201")
	checkHex(t, arrayOf(uintOf(1), uintOf(2)), "820102")
	checkHex(t, floatOf(1.5), "f93e00")
	checkHex(t, uintOf(0), "00")
	checkHex(t, uintOf(1_000_000_000_000), "1b000000e8d4a51000")
	checkHex(t, nintOf(math.MaxUint64), "3bffffffffffffffff")
	checkHex(t, nintOf(999), "3903e7")
	checkHex(t, floatOf(100_000), "fa47c35000")
	checkHex(t, floatOf(-4.1), "fbc010666666666666")
	checkHex(t, simpleOf(20), "f4")
	checkHex(t, simpleOf(32), "f820")
	checkHex(t, tagOf(0, textOf("2013-03-21T20:04:00Z")), "c074323031332d30332d32315432303a30343a30305a")
	checkHex(t, tagOf(24, bytesOf("dIETF")), "d818456449455446")
	checkHex(t, textOf("\"\\"), "62225c")
	checkHex(t, textOf("\U00010151"), "64f0908591")
	checkHex(t, arrayOf(uintOf(1), arrayOf(uintOf(2), uintOf(3)), arrayOf(uintOf(4), uintOf(5))), "8301820203820405")
	checkHex(t, mapOf(textOf("a"), uintOf(1), textOf("b"), arrayOf(uintOf(2), uintOf(3))), "a26161016162820203")
	checkHex(t, arrayOf(textOf("a"), mapOf(textOf("b"), textOf("c"))), "826161a161626163")
	checkHex(t, arrayOf(), "80")
	checkHex(t, mapOf(), "a0")
	checkHex(t, bytesOf(""), "40")
	checkHex(t, textOf(""), "60")
}

func TestItemsThatMayBe(t *testing.T) { // P9.1
	for _, x := range good() {
		check(t, x)
		for _, y := range places(x) {
			check(t, y)
		}
	}
}

// numbers are at both sides of each bound at which a head needs more bytes, with what then stands behind its upper three bits.
var numbers = []struct {
	n      uint64
	digits string // of the head of a Uint
}{
	{0, "00"}, {1, "01"}, {22, "16"}, {23, "17"}, {24, "1818"}, {25, "1819"}, {31, "181f"}, {32, "1820"}, {254, "18fe"}, {255, "18ff"}, {256, "190100"}, {257, "190101"}, {65_534, "19fffe"}, {65_535, "19ffff"}, {65_536, "1a00010000"}, {65_537, "1a00010001"},
	{1 << 31, "1a80000000"}, {1<<32 - 1, "1affffffff"}, {1 << 32, "1b0000000100000000"}, {1<<32 + 24, "1b0000000100000018"}, {1<<63 - 1, "1b7fffffffffffffff"}, {1 << 63, "1b8000000000000000"}, {math.MaxUint64 - 1, "1bfffffffffffffffe"}, {math.MaxUint64, "1bffffffffffffffff"},
}

// major lays another major type over a Uint's head.
func major(kind int, digits string) string {
	b, err := hex.DecodeString(digits)
	if err != nil {
		panic(err)
	}
	b[0] |= byte(kind * 32)
	return hex.EncodeToString(b)
}

func TestHeadsOfNumbers(t *testing.T) { // P9.1
	for _, c := range numbers {
		checkHex(t, uintOf(c.n), c.digits)
		nint, tag := major(1, c.digits), major(6, c.digits)
		checkHex(t, nintOf(c.n), nint)
		checkHex(t, tagOf(c.n, uintOf(0)), tag+"00")
		checkHex(t, tagOf(c.n, tagOf(c.n, arrayOf(nintOf(c.n)))), tag+tag+"81"+nint)
		checkHex(t, arrayOf(uintOf(c.n), nintOf(c.n)), "82"+c.digits+nint)
		checkHex(t, mapOf(tagOf(c.n, uintOf(7)), nintOf(c.n), nintOf(c.n), uintOf(5), uintOf(c.n), mapOf()), "a3"+c.digits+"a0"+nint+"05"+tag+"07"+nint)
		for _, x := range []api.Item{uintOf(c.n), nintOf(c.n), tagOf(c.n, textOf("é"))} {
			for _, y := range within(x) {
				check(t, y)
			}
		}
	}
}

func TestHeadsOfLengths(t *testing.T) { // P9.1
	for _, c := range numbers {
		if c.n > 1<<17 {
			continue
		}
		n := int(c.n)
		checkHex(t, bytesOf(strings.Repeat("\xff", n)), major(2, c.digits)+strings.Repeat("ff", n))
		checkHex(t, textOf(strings.Repeat("a", n)), major(3, c.digits)+strings.Repeat("61", n))
		checkHex(t, arrayOf(slices.Repeat([]api.Item{nintOf(3)}, n)...), major(4, c.digits)+strings.Repeat("23", n))
		var pairs []api.Item
		digits := ""
		for i := range n {
			pairs = append(pairs, bytesOf(string([]byte{byte(i >> 16), byte(i >> 8), byte(i)})), uintOf(9))
		}
		if n < 300 {
			for i := range n {
				digits += "43" + hex.EncodeToString([]byte{0, byte(i >> 8), byte(i)}) + "09"
			}
			checkHex(t, mapOf(pairs...), major(5, c.digits)+digits)
		}
		slices.Reverse(pairs)
		for i := 0; i < len(pairs); i += 2 {
			pairs[i], pairs[i+1] = pairs[i+1], pairs[i]
		}
		check(t, mapOf(pairs...))
		check(t, mapOf(textOf("b"), tagOf(1, textOf(strings.Repeat("é", n/2)+strings.Repeat("a", n%2))), bytesOf(strings.Repeat("\x80", n)), arrayOf(make([]api.Item, n)...)))
	}
}

func TestLengthsAreThoseOfBytes(t *testing.T) { // P9.1: not of signs
	checkHex(t, textOf(strings.Repeat("é", 12)), "7818"+strings.Repeat("c3a9", 12))
	checkHex(t, textOf(strings.Repeat("é", 11)+"a"), "77"+strings.Repeat("c3a9", 11)+"61")
	checkHex(t, textOf(strings.Repeat("\U0001f600", 64)), "790100"+strings.Repeat("f09f9880", 64))
}

func TestSimples(t *testing.T) { // P9.1
	for n := range uint64(256) {
		switch {
		case n < 24:
			checkHex(t, simpleOf(n), hex.EncodeToString([]byte{0xe0 + byte(n)}))
		case n < 32:
			checkWrong(t, simpleOf(n), api.ErrRange)
			continue
		default:
			checkHex(t, simpleOf(n), hex.EncodeToString([]byte{0xf8, byte(n)}))
		}
		for _, y := range within(simpleOf(n)) {
			check(t, y)
		}
	}
}

func TestFloats(t *testing.T) { // P9.1
	for _, c := range []struct {
		n      uint64
		digits string
	}{
		{0, "f90000"}, {1 << 63, "f98000"}, {0x3ff0000000000000, "f93c00"}, {0x3ff8000000000000, "f93e00"}, {0x40effc0000000000, "f97bff"}, {0xc0effc0000000000, "f9fbff"}, {0x3e70000000000000, "f90001"}, {0x3f0ff80000000000, "f903ff"}, {0x3f10000000000000, "f90400"},
		{0x7ff0000000000000, "f97c00"}, {0xfff0000000000000, "f9fc00"}, {theNaN, "f97e00"},
		{0x40f0000000000000, "fa47800000"}, {0x3e60000000000000, "fa33000000"}, {0x40effe0000000000, "fa477ff000"}, {0x3ff0020000000000, "fa3f801000"}, {0x3ff0000020000000, "fa3f800001"}, {0x47efffffe0000000, "fa7f7fffff"}, {0x36a0000000000000, "fa00000001"}, {0xb6a0000000000000, "fa80000001"},
		{0x3ff0000010000000, "fb3ff0000010000000"}, {0x3ff0000000000001, "fb3ff0000000000001"}, {0x47effffff0000000, "fb47effffff0000000"}, {0x47f0000000000000, "fb47f0000000000000"}, {0x3690000000000000, "fb3690000000000000"}, {0x3fb999999999999a, "fb3fb999999999999a"}, {1, "fb0000000000000001"}, {0x7fefffffffffffff, "fb7fefffffffffffff"}, {0xffefffffffffffff, "fbffefffffffffffff"},
	} {
		checkHex(t, floatBits(c.n), c.digits)
		checkHex(t, mapOf(textOf("a"), floatBits(c.n), floatBits(c.n), textOf("a")), "a26161"+c.digits+c.digits+"6161")
		for _, y := range within(floatBits(c.n)) {
			check(t, y)
		}
	}
}

func TestEachSignAndExponentOfFloats(t *testing.T) { // P9.1
	for top := range uint64(1 << 12) {
		for _, fraction := range []uint64{0, 1, 1 << 29, 1 << 42, 1 << 51, 1<<52 - 1<<29, 1<<52 - 1<<42} {
			x := floatBits(top<<52 | fraction)
			if item.Check(x) != api.OK {
				continue
			}
			b, err := Encode(x)
			if string(b) != wantFloat(x.N) || err != api.OK || Size(x) != len(b) || !item.Same(Sorted(x), x) {
				t.Fatalf("%s: % x, %v, %d", spell(x), b, err, Size(x))
			}
		}
	}
}

// rise are keys, each ahead of the next one by its encoding: of all kinds, of different lengths, that differ in the first byte, or in the last one, or of which one begins the next.
func rise() []api.Item {
	return []api.Item{
		uintOf(0), uintOf(1), uintOf(23), uintOf(24), uintOf(255), uintOf(256), uintOf(257), uintOf(512), uintOf(65_535), uintOf(65_536), uintOf(1<<32 - 1), uintOf(1 << 32), uintOf(math.MaxUint64 - 1), uintOf(math.MaxUint64),
		nintOf(0), nintOf(23), nintOf(24), nintOf(math.MaxUint64),
		bytesOf(""), bytesOf("\x00"), bytesOf("a"), bytesOf("\x7f"), bytesOf("\x80"), bytesOf("\xff"), bytesOf("\x00\x00"), bytesOf("\x00\xff"), bytesOf("\x01\x00"), bytesOf(strings.Repeat("b", 22) + "a"), bytesOf(strings.Repeat("b", 23)), bytesOf(strings.Repeat("a", 24)), bytesOf(strings.Repeat("a", 23) + "\xff"),
		textOf(""), textOf("a"), textOf("b"), textOf("z"), textOf("aa"), textOf("ab"), textOf("b\x00"), textOf("é"), textOf("aaa"), textOf(strings.Repeat("a", 23)), textOf(strings.Repeat("a", 22) + "b"), textOf(strings.Repeat("b", 23)), textOf(strings.Repeat("a", 24)), textOf(strings.Repeat("a", 256)), textOf(strings.Repeat("a", 255) + "b"), textOf(strings.Repeat("a", 255) + "c"), textOf(strings.Repeat("a", 256) + "b"),
		arrayOf(), arrayOf(uintOf(0)), arrayOf(uintOf(24)), arrayOf(textOf("b")), arrayOf(textOf("aa")), arrayOf(arrayOf()), arrayOf(mapOf()), arrayOf(uintOf(0), uintOf(0)), arrayOf(uintOf(0), uintOf(1)), arrayOf(uintOf(1), uintOf(0)), arrayOf(make([]api.Item, 24)...), arrayOf(append(make([]api.Item, 23), uintOf(1))...),
		mapOf(), mapOf(uintOf(0), uintOf(1)), mapOf(uintOf(0), textOf("")), mapOf(uintOf(1), uintOf(0)), mapOf(textOf("a"), uintOf(0)), mapOf(textOf("a long key"), uintOf(0)), mapOf(textOf("a long key"), uintOf(1)), mapOf(uintOf(9), uintOf(0), uintOf(1), uintOf(0)), mapOf(uintOf(2), uintOf(0), uintOf(1), uintOf(1)), mapOf(uintOf(2), uintOf(0), uintOf(3), uintOf(0)),
		tagOf(0, uintOf(0)), tagOf(0, textOf("a")), tagOf(1, uintOf(0)), tagOf(23, arrayOf()), tagOf(24, uintOf(0)), tagOf(math.MaxUint64, textOf("a")), tagOf(math.MaxUint64, textOf("b")),
		simpleOf(0), simpleOf(20), simpleOf(23), simpleOf(32), simpleOf(255),
		floatOf(0), floatOf(1), floatOf(1.5), floatOf(math.Inf(1)), floatBits(theNaN), floatOf(math.Copysign(0, -1)), floatOf(-1), floatOf(100_000), floatOf(-100_000), floatOf(1.1), floatBits(math.Float64bits(1.1) + 1), floatOf(-1.1),
	}
}

func TestKeysRise(t *testing.T) { // P9.1
	keys := rise()
	for i, a := range keys {
		for j, b := range keys[i+1:] {
			x, y := mapOf(a, uintOf(1), b, uintOf(0)), mapOf(b, uintOf(0), a, uintOf(1))
			wanted := "\xa2" + want(a) + "\x01" + want(b) + "\x00"
			if p, err := Encode(x); string(p) != wanted || err != api.OK {
				t.Fatalf("%d, %d: % x, %v, want % x", i, i+1+j, p, err, wanted)
			}
			if p, err := Encode(y); string(p) != wanted || err != api.OK {
				t.Fatalf("%d, %d, turned round: % x, %v, want % x", i, i+1+j, p, err, wanted)
			}
			check(t, y)
			if s := Sorted(y); s.L[1].N != 1 || s.L[3].N != 0 || !item.Same(s, Sorted(x)) {
				t.Fatalf("%d, %d: Sorted: %s", i, i+1+j, short(s))
			}
		}
	}
}

// shuffled is x with the pairs of all its maps in another order, in new memory.
func shuffled(x api.Item, r *rand.Rand) api.Item {
	n := len(x.L)
	l := make([]api.Item, n)
	for i, y := range x.L {
		l[i] = shuffled(y, r)
	}
	if x.Kind == api.Map {
		r.Shuffle(n/2, func(i, j int) {
			l[2*i], l[2*j] = l[2*j], l[2*i]
			l[2*i+1], l[2*j+1] = l[2*j+1], l[2*i+1]
		})
	}
	x.L = l
	return x
}

func TestAllKeysInManyOrders(t *testing.T) { // P9.1, P9.2
	var pairs []api.Item
	wanted := wantHead(5, uint64(len(rise())))
	for i, k := range rise() {
		pairs = append(pairs, k, uintOf(uint64(i)))
		wanted += want(k) + wantHead(0, uint64(i))
	}
	r := rand.New(rand.NewSource(9))
	for range 200 {
		x := shuffled(mapOf(pairs...), r)
		if b, err := Encode(x); string(b) != wanted || err != api.OK {
			t.Fatalf("% x, %v", b, err)
		}
		for i, y := range Sorted(x).L {
			if i%2 == 1 && y.N != uint64(i/2) {
				t.Fatalf("Sorted at %d: %d", i, y.N)
			}
		}
	}
	check(t, mapOf(pairs...))
}

// orders are all in which n things may stand.
func orders(n int) [][]int {
	if n == 0 {
		return [][]int{nil}
	}
	var all [][]int
	for _, o := range orders(n - 1) {
		for at := range n {
			all = append(all, slices.Insert(slices.Clone(o), at, n-1))
		}
	}
	return all
}

func TestEveryOrderOfPairs(t *testing.T) { // P9.1, P9.2
	keys := []api.Item{uintOf(7), textOf("b"), textOf("aa"), mapOf(uintOf(2), uintOf(1), uintOf(1), uintOf(2)), arrayOf(textOf("q")), floatOf(2)}
	for n := range len(keys) + 1 {
		first := ""
		for i, o := range orders(n) {
			var pairs []api.Item
			for _, k := range o {
				pairs = append(pairs, keys[k], uintOf(uint64(k)))
			}
			x := mapOf(pairs...)
			y := tagOf(3, arrayOf(x, mapOf(x, x)))
			b, err := Encode(y)
			if i == 0 {
				first = string(b)
				check(t, y)
			}
			if err != api.OK || string(b) != first || Size(y) != len(first) {
				t.Fatalf("%v: % x, want % x", o, b, first)
			}
			if b, _ := Encode(x); string(b) != want(x) || spell(Sorted(x)) != spell(decoded(want(x))) {
				t.Fatalf("%v: % x, %s", o, b, spell(Sorted(x)))
			}
		}
	}
}

// decoded is the item of which b is the encoding.
func decoded(b string) api.Item {
	x, rest := decode(b)
	if rest != "" {
		panic(rest)
	}
	return x
}

func TestMapsInMaps(t *testing.T) { // P9.1
	inner := mapOf(textOf("b"), uintOf(1), textOf("a"), uintOf(2))
	checkHex(t, mapOf(inner, inner), "a1a2616102616201a2616102616201")
	checkHex(t, mapOf(mapOf(inner, uintOf(0), uintOf(5), inner), inner, inner, mapOf(inner, inner)), "a2"+"a205a2616102616201a261610261620100"+"a2616102616201"+"a2616102616201"+"a1a2616102616201a2616102616201")
	// keys whose order is another one once they are sorted: ahead of that the second one would come first
	checkHex(t, mapOf(mapOf(uintOf(9), uintOf(0), uintOf(1), uintOf(0)), uintOf(0), mapOf(uintOf(5), uintOf(0), uintOf(2), uintOf(0)), uintOf(1)), "a2a20100090000a20200050001")
	checkHex(t, mapOf(arrayOf(mapOf(uintOf(5), uintOf(0), uintOf(2), uintOf(0))), uintOf(1), arrayOf(mapOf(uintOf(9), uintOf(0), uintOf(1), uintOf(0))), uintOf(0)), "a281a2010009000081a20200050001")
	x := mapOf(uintOf(2), uintOf(0), uintOf(1), uintOf(1))
	for deep := range 62 {
		check(t, x)
		if deep%2 == 0 {
			x = mapOf(textOf("k"), uintOf(0), x, uintOf(1))
		} else {
			x = mapOf(uintOf(2), x, uintOf(1), uintOf(1))
		}
	}
	if item.Depth(x) != 64 {
		t.Fatal(item.Depth(x))
	}
	check(t, x)
	checkWrong(t, mapOf(uintOf(1), x), api.ErrDepth)
}

// wrong are items that may not be, by themselves, with their errors.
func wrong() []struct {
	x   api.Item
	err api.Errno
} {
	one := []api.Item{{}}
	return []struct {
		x   api.Item
		err api.Errno
	}{
		{api.Item{Kind: -1}, api.ErrForm}, {api.Item{Kind: 9}, api.ErrForm}, {api.Item{Kind: math.MinInt}, api.ErrForm}, {api.Item{Kind: math.MaxInt, N: 5}, api.ErrForm}, {api.Item{Kind: 1<<32 + api.Map}, api.ErrForm},
		{api.Item{Kind: api.Uint, S: "a"}, api.ErrForm}, {api.Item{Kind: api.Nint, L: one}, api.ErrForm}, {api.Item{Kind: api.Bytes, N: 1, S: "a"}, api.ErrForm}, {api.Item{Kind: api.Bytes, L: one}, api.ErrForm},
		{api.Item{Kind: api.Text, N: 1}, api.ErrForm}, {api.Item{Kind: api.Text, S: "a", L: one}, api.ErrForm}, {api.Item{Kind: api.Array, N: 1, L: one}, api.ErrForm}, {api.Item{Kind: api.Array, S: "a"}, api.ErrForm},
		{api.Item{Kind: api.Map, N: 1}, api.ErrForm}, {api.Item{Kind: api.Map, S: "a"}, api.ErrForm}, {mapOf(uintOf(1)), api.ErrForm}, {mapOf(uintOf(1), uintOf(2), uintOf(3)), api.ErrForm},
		{api.Item{Kind: api.Tag}, api.ErrForm}, {api.Item{Kind: api.Tag, L: []api.Item{{}, {}}}, api.ErrForm}, {api.Item{Kind: api.Tag, S: "a", L: one}, api.ErrForm},
		{api.Item{Kind: api.Simple, S: "a"}, api.ErrForm}, {api.Item{Kind: api.Simple, L: one}, api.ErrForm}, {api.Item{Kind: api.Float, S: "a"}, api.ErrForm}, {api.Item{Kind: api.Float, L: one}, api.ErrForm},
		{simpleOf(24), api.ErrRange}, {simpleOf(31), api.ErrRange}, {simpleOf(256), api.ErrRange}, {simpleOf(math.MaxUint64), api.ErrRange},
		{floatBits(0x7ff8000000000001), api.ErrRange}, {floatBits(0xfff8000000000000), api.ErrRange}, {floatBits(0x7ff0000000000001), api.ErrRange}, {floatBits(math.MaxUint64), api.ErrRange},
		{textOf("\xff"), api.ErrUTF8}, {textOf("é\xc3"), api.ErrUTF8}, {textOf("\xed\xa0\x80"), api.ErrUTF8},
		{mapOf(uintOf(1), uintOf(2), uintOf(1), uintOf(3)), api.ErrTwice}, {mapOf(textOf(""), uintOf(2), uintOf(0), uintOf(2), textOf(""), uintOf(2)), api.ErrTwice}, {mapOf(manifold(), uintOf(2), uintOf(0), uintOf(2), manifold(), uintOf(2)), api.ErrTwice},
		{chain(64, uintOf(1)), api.ErrDepth}, {chain(64, arrayOf()), api.ErrDepth}, {chain(64, api.Item{Kind: 9}), api.ErrDepth}, {arrayOf(uintOf(1), chain(64, mapOf())), api.ErrDepth}, {chain(200, uintOf(1)), api.ErrDepth},
	}
}

func TestItemsThatMayNotBe(t *testing.T) { // P9.1, R3
	for _, w := range wrong() {
		checkWrong(t, w.x, w.err)
		for _, y := range within(w.x) {
			checkWrong(t, y, w.err)
			if w.err != api.ErrDepth {
				for _, z := range within(y) {
					checkWrong(t, z, w.err)
				}
			}
		}
		if w.err != api.ErrDepth {
			checkWrong(t, chain(64-item.Depth(w.x), w.x), w.err) // as deep as may be
			checkWrong(t, chain(65-item.Depth(w.x), w.x), api.ErrDepth)
		}
	}
}

func TestTheFirstError(t *testing.T) { // P9.1, R2: it is Check's
	for _, a := range wrong() {
		for _, b := range wrong() {
			wanted := a.err
			if b.err == api.ErrDepth {
				wanted = b.err
			}
			checkWrong(t, arrayOf(a.x, b.x), wanted)
			checkWrong(t, mapOf(uintOf(2), a.x, uintOf(1), b.x), wanted) // as they stand, not as they would be sorted
			checkWrong(t, mapOf(a.x, uintOf(1), tagOf(1, b.x), uintOf(2)), wanted)
		}
	}
}

func TestDepth(t *testing.T) { // P9.1
	for _, about := range []func(api.Item) api.Item{
		func(x api.Item) api.Item { return arrayOf(x) },
		func(x api.Item) api.Item { return tagOf(3, x) },
		func(x api.Item) api.Item { return mapOf(textOf("b"), x, textOf("a"), uintOf(1)) },
		func(x api.Item) api.Item { return mapOf(x, textOf("a")) },
		func(x api.Item) api.Item { return mapOf(arrayOf(), textOf("a"), x, uintOf(0)) },
	} {
		x := uintOf(1)
		for range 63 {
			check(t, x)
			x = about(x)
		}
		check(t, x) // 64 deep
		checkWrong(t, about(x), api.ErrDepth)
		checkWrong(t, about(about(x)), api.ErrDepth)
	}
}

func TestKeysThatAreAlikeOnceSorted(t *testing.T) { // P9.1, P9.2: they may be by chapter 8; their values decide
	a, b := mapOf(uintOf(1), uintOf(0), uintOf(2), uintOf(0)), mapOf(uintOf(2), uintOf(0), uintOf(1), uintOf(0))
	const key = "a201000200"
	for _, values := range [][2]api.Item{{uintOf(3), uintOf(4)}, {textOf("b"), textOf("aa")}, {mapOf(uintOf(1), uintOf(0), uintOf(9), uintOf(0)), mapOf(uintOf(2), uintOf(0), uintOf(3), uintOf(0))}, {uintOf(5), uintOf(5)}} {
		wanted := "a4" + "00" + "07" + key + hex.EncodeToString([]byte(want(values[0]))) + key + hex.EncodeToString([]byte(want(values[1]))) + "f6" + "08"
		pairs := [][]api.Item{{a, values[0]}, {b, values[1]}, {simpleOf(22), uintOf(8)}, {uintOf(0), uintOf(7)}}
		for _, o := range orders(4) {
			x := mapOf(slices.Concat(pairs[o[0]], pairs[o[1]], pairs[o[2]], pairs[o[3]])...)
			text := spell(x)
			got, err := Encode(x)
			if hex.EncodeToString(got) != wanted || err != api.OK || Size(x) != len(got) {
				t.Fatalf("%v: %x, %v, %d, want %s", o, got, err, Size(x), wanted)
			}
			if s := Sorted(x); spell(s) != spell(decoded(string(got))) || spell(x) != text {
				t.Fatalf("%v: Sorted: %s; %s", o, spell(s), spell(x))
			}
		}
	}
	checkWrong(t, mapOf(a, uintOf(3), item.Copy(a), uintOf(4)), api.ErrTwice)
	other := mapOf(a, uintOf(4), b, uintOf(3))
	if p, _ := Encode(mapOf(b, uintOf(3), a, uintOf(4))); string(p) == "" || !bytes.Equal(p, first(Encode(other))) {
		t.Errorf("% x", p)
	}
}

// first leaves the error aside.
func first(b []byte, _ api.Errno) []byte { return b }

// lists are those of x, and of all items in it.
func lists(x api.Item) [][]api.Item {
	all := [][]api.Item{x.L}
	for _, y := range x.L {
		all = append(all, lists(y)...)
	}
	return all
}

// spoil is what a list's element is written over with.
var spoil = api.Item{Kind: 99, N: 99, S: "spoilt", L: []api.Item{{}}}

func TestSortedStands(t *testing.T) { // P9.1, R4
	for _, x := range append(good(), within(manifold())...) {
		fresh := func() api.Item { return item.Copy(x) }
		text, sorted := spell(fresh()), spell(Sorted(fresh()))
		for i, l := range lists(fresh()) {
			for j := range l {
				x := fresh()
				s := Sorted(x)
				lists(x)[i][j] = spoil
				if spell(s) != sorted {
					t.Fatalf("%s, sorted: %s, when what was handed in is written over", text, spell(s))
				}
			}
		}
		for i, l := range lists(Sorted(fresh())) {
			for j := range l {
				x := fresh()
				s := Sorted(x)
				lists(s)[i][j] = spoil
				if spell(x) != text {
					t.Fatalf("%s: %s, when it is written over sorted", text, spell(x))
				}
			}
			x := fresh()
			s := Sorted(x)
			_ = append(lists(s)[i], spoil, spoil)
			_ = append(lists(x)[i], spoil, spoil)
			if spell(x) != text || spell(s) != sorted {
				t.Fatalf("%s: %s, sorted: %s, when more is appended", text, spell(x), spell(s))
			}
		}
	}
}

func TestListsOfSortedStandApart(t *testing.T) { // P9.1, R4: though those that are handed in are one and the same
	one := []api.Item{uintOf(2), arrayOf(), uintOf(1), arrayOf(uintOf(1))}
	x := arrayOf(api.Item{Kind: api.Array, L: one}, api.Item{Kind: api.Map, L: one}, api.Item{Kind: api.Map, L: one}, api.Item{Kind: api.Array, L: one[:2]}, mapOf(api.Item{Kind: api.Map, L: one}, api.Item{Kind: api.Map, L: one}))
	check(t, x)
	seen := map[*api.Item]bool{}
	for _, l := range lists(x) {
		for i := range l {
			seen[&l[i]] = true // these are few, since they are shared
		}
	}
	for _, l := range lists(Sorted(x)) {
		for i := range l {
			if seen[&l[i]] {
				t.Fatalf("%s stands in two lists", spell(l[i]))
			}
			seen[&l[i]] = true
		}
	}
}

func TestEncodingsMayBeWrittenOver(t *testing.T) { // P9.1, R4
	for _, x := range append(good(), places(manifold())...) {
		text, wanted := spell(x), want(x)
		s := Sorted(x)
		sorted := spell(s)
		b, _ := Encode(x)
		c, _ := Encode(x)
		for i := range b {
			b[i] = 0xee
		}
		_ = append(b, 0xdd, 0xdd)
		if string(c) != wanted || spell(x) != text || spell(s) != sorted {
			t.Fatalf("of %s: % x, when another encoding of it is written over", text, c)
		}
		if d, _ := Encode(x); string(d) != wanted {
			t.Fatalf("of %s: % x, behind that", text, d)
		}
	}
}

func TestEncodingsStandWhenItemsDont(t *testing.T) { // P9.1, R4
	x := manifold()
	wanted := want(x)
	b, _ := Encode(x)
	for _, l := range lists(x) {
		for i := range l {
			l[i].N, l[i].S, l[i].Kind = 77, "spoilt", 77
		}
	}
	if string(b) != wanted {
		t.Errorf("% x", b)
	}
}

func TestNothingBehindALengthIsTouched(t *testing.T) { // R4
	back := []api.Item{uintOf(9), uintOf(0), uintOf(1), uintOf(2), uintOf(5), uintOf(6)}
	bare := back[:0]
	x := arrayOf(api.Item{Kind: api.Map, L: back[:4]}, api.Item{Kind: api.Array, L: bare}, api.Item{Kind: api.Map, L: bare}, api.Item{Kind: api.Uint, L: bare}, api.Item{Kind: api.Tag, L: back[:1]})
	text := spell(x)
	checkHex(t, x, "85a201020900"+"80"+"a0"+"00"+"c009")
	s := Sorted(x)
	for _, l := range lists(s) {
		_ = append(l, spoil, spoil)
	}
	if spell(x) != text || spell(arrayOf(back...)) != spell(arrayOf(uintOf(9), uintOf(0), uintOf(1), uintOf(2), uintOf(5), uintOf(6))) {
		t.Error(spell(x), spell(arrayOf(back...)))
	}
}

func TestNilListsAndListsWithoutElements(t *testing.T) { // R3
	for kind := range 9 {
		if kind == api.Tag {
			continue
		}
		a, b := api.Item{Kind: kind}, api.Item{Kind: kind, L: []api.Item{}}
		for _, x := range []api.Item{a, b} {
			check(t, x)
			check(t, mapOf(x, x))
			if string(first(Encode(x))) != string(first(Encode(a))) || len(Sorted(x).L) != 0 {
				t.Error(kind)
			}
		}
	}
}

// changed are items that differ from x in one field alone, where it stands or in an item in it, as far as they may be.
func changed(x api.Item) []api.Item {
	var all []api.Item
	with := func(change func(y *api.Item)) {
		y := item.Copy(x)
		change(&y)
		if item.Check(y) == api.OK {
			all = append(all, y)
		}
	}
	for kind := range 9 {
		if kind != x.Kind {
			with(func(y *api.Item) { y.Kind = kind })
		}
	}
	for _, d := range []uint64{1, 1 << 5, 1 << 8, 1 << 16, 1 << 32, 1 << 51, 1 << 63} {
		with(func(y *api.Item) { y.N ^= d })
	}
	for _, s := range []string{"", "a", x.S + "a", "a" + x.S, x.S + "\x00", "\x00" + x.S, "\xff"} {
		if s != x.S {
			with(func(y *api.Item) { y.S = s })
		}
	}
	with(func(y *api.Item) { y.L = append(y.L, uintOf(77)) })
	with(func(y *api.Item) { y.L = append(y.L, uintOf(77), uintOf(78)) })
	with(func(y *api.Item) { y.L = append([]api.Item{{}}, y.L...) })
	if n := len(x.L); n > 0 {
		with(func(y *api.Item) { y.L = y.L[:n-1] })
		with(func(y *api.Item) { y.L = y.L[:n/2*2-min(n/2*2, 2)] })
		with(func(y *api.Item) { y.L = nil })
		with(func(y *api.Item) { slices.Reverse(y.L) })
	}
	for i := range x.L {
		for _, z := range changed(x.L[i]) {
			with(func(y *api.Item) { y.L[i] = z })
		}
	}
	return all
}

// checkOne sees to it that a and b have one encoding just if they are the same, sorted, and that this is so just if they are the same but for their pairs' order.
func checkOne(t *testing.T, a, b api.Item) {
	t.Helper()
	p, q := first(Encode(a)), first(Encode(b))
	same := item.Same(Sorted(a), Sorted(b))
	if bytes.Equal(p, q) != same || same != (canon(a) == canon(b)) {
		t.Fatalf("%s: % x; %s: % x; sorted, the same: %v", short(a), p, short(b), q, same)
	}
}

func TestOneEncoding(t *testing.T) { // P9.2
	var all []api.Item
	for _, x := range append(good(), rise()...) {
		all = append(all, x)
		if len(all) < 20 {
			all = append(all, within(x)...)
		}
	}
	all = append(all, changed(mapOf(textOf("b"), uintOf(1), mapOf(uintOf(2), arrayOf(uintOf(1)), uintOf(1), arrayOf()), uintOf(2)))...)
	for _, a := range all {
		for _, b := range all {
			checkOne(t, a, b)
		}
	}
}

func TestOneFieldAlone(t *testing.T) { // P9.2
	r := rand.New(rand.NewSource(4))
	for _, x := range append(good(), tagOf(5, mapOf(arrayOf(uintOf(1)), textOf("a"), uintOf(0), bytesOf("a")))) {
		for _, y := range changed(x) {
			for _, z := range []api.Item{y, shuffled(y, r)} {
				checkOne(t, x, z)
			}
			if canon(x) == canon(y) { // pairs that stand in another order
				continue
			}
			in, other := within(x), within(y)
			if item.Size(x) < 4 {
				in, other = places(x), places(y)
			}
			for i := range in {
				if bytes.Equal(first(Encode(in[i])), first(Encode(other[i]))) || item.Same(Sorted(in[i]), Sorted(other[i])) {
					t.Fatalf("one encoding: %s, %s", short(in[i]), short(other[i]))
				}
			}
		}
	}
}

func TestShapes(t *testing.T) { // P9.2: the same items in the same order, but others in others
	u := uintOf(1)
	all := []api.Item{
		arrayOf(arrayOf(u), arrayOf(u)), arrayOf(arrayOf(u, arrayOf(u))), arrayOf(arrayOf(u), u, arrayOf()), arrayOf(arrayOf(), u, arrayOf(u)), arrayOf(arrayOf(u, u), arrayOf()), arrayOf(arrayOf(), arrayOf(u, u)),
		arrayOf(tagOf(1, u)), tagOf(1, arrayOf(u)), mapOf(arrayOf(), u), mapOf(u, arrayOf()), arrayOf(mapOf(u, u)), mapOf(arrayOf(u), u), mapOf(u, arrayOf(u)), mapOf(mapOf(), u), mapOf(u, mapOf()),
		textOf("a"), bytesOf("a"), textOf("\x01"), arrayOf(textOf("\x01")), bytesOf("\x81\x61\x01"), arrayOf(textOf(""), u), textOf("aa"), arrayOf(textOf("a"), textOf("a")),
		simpleOf(1), floatBits(1), floatOf(1), nintOf(1), nintOf(0), uintOf(0), simpleOf(0), floatBits(0), floatBits(1 << 63),
	}
	for i, a := range all {
		for j, b := range all {
			if bytes.Equal(first(Encode(a)), first(Encode(b))) != (i == j) {
				t.Errorf("%s, %s", spell(a), spell(b))
			}
			checkOne(t, a, b)
		}
	}
}

// some is an item that may be, of no more than so many levels.
func some(r *rand.Rand, deep int) api.Item {
	wide := []int{1, 5, 8, 16, 32, 52, 63}[r.Intn(7)]
	n, kind := r.Uint64()>>(64-wide), r.Intn(9)
	if deep == 1 && kind >= api.Array && kind <= api.Tag {
		kind = api.Text
	}
	switch kind {
	case api.Bytes, api.Text:
		return api.Item{Kind: kind, S: strings.Repeat("ab\x00z"[r.Intn(4):][:1], r.Intn(4)) + "a"[r.Intn(2):]}
	case api.Array:
		return arrayOf(several(r, deep-1, r.Intn(4))...)
	case api.Tag:
		return tagOf(n, some(r, deep-1))
	case api.Simple:
		n = []uint64{0, 1, 22, 23, 32, 33, 255}[r.Intn(7)]
	case api.Float:
		n = math.Float64bits([]float64{float64(n), 0.5, -1.25, 0.1, math.Inf(1), math.Ldexp(1, int(n%2000)-1000)}[r.Intn(6)])
	case api.Map:
		return someMap(r, deep)
	}
	return api.Item{Kind: kind, N: n}
}

func several(r *rand.Rand, deep, n int) []api.Item {
	var l []api.Item
	for range n {
		l = append(l, some(r, deep))
	}
	return l
}

// someMap has no two keys that are alike, however they stand.
func someMap(r *rand.Rand, deep int) api.Item {
	var l []api.Item
	seen := map[string]bool{}
	for range r.Intn(6) {
		k := some(r, deep-1)
		if c := canon(k); !seen[c] {
			seen[c] = true
			l = append(l, k, some(r, deep-1))
		}
	}
	return mapOf(l...)
}

func TestManyItems(t *testing.T) { // P9.1, P9.2
	r := rand.New(rand.NewSource(27))
	var last api.Item
	for i := range 20_000 {
		x := some(r, 1+i%6)
		check(t, x)
		y := shuffled(x, r)
		if !bytes.Equal(first(Encode(y)), first(Encode(x))) || spell(Sorted(y)) != spell(Sorted(x)) || Size(y) != Size(x) {
			t.Fatalf("%s: % x; %s: % x", spell(x), first(Encode(x)), spell(y), first(Encode(y)))
		}
		checkOne(t, x, last)
		last = x
	}
}

func TestVeryMany(t *testing.T) { // P1, P9.1
	const n = 1 << 18
	l := make([]api.Item, 0, 2*n)
	for i := range uint64(n) {
		l = append(l, uintOf(i*7919%n), uintOf(i))
	}
	x := mapOf(l...)
	b, err := Encode(x)
	if err != api.OK || len(b) != Size(x) || !strings.HasPrefix(string(b), "\xba\x00\x04\x00\x00\x00\x00\x01") {
		t.Error(err, len(b), Size(x))
	}
	s := Sorted(x)
	for i := range uint64(n) {
		if k, v := s.L[2*i].N, s.L[2*i+1].N; k != i || v*7919%n != i {
			t.Fatalf("at %d: %d, %d", i, k, v)
		}
	}
	a := arrayOf(make([]api.Item, 1<<20-1)...)
	if b, err := Encode(a); err != api.OK || len(b) != 1<<20-1+5 || Size(a) != len(b) {
		t.Error(err, len(b), Size(a))
	}
	big := bytesOf(strings.Repeat("x", 1<<20-1))
	if b, err := Encode(chain(63, big)); err != api.OK || len(b) != 1<<20-1+5+63 || Size(chain(63, big)) != len(b) {
		t.Error(err, len(b))
	}
	for _, x := range []api.Item{chain(1<<20-1, uintOf(1)), mapOf(uintOf(1), chain(1<<20-4, big))} { // which is too deep to be spelt
		b, err := Encode(x)
		if s := Sorted(x); len(b) != 0 || err != api.ErrDepth || Size(x) != 0 || !item.Same(s, api.Item{}) {
			t.Error(len(b), err, Size(x))
		}
	}
}

func TestManyMapsInOneAnother(t *testing.T) { // P1, P9.1: keys of keys are sorted ahead of what they stand in
	x := mapOf(uintOf(1), uintOf(0), uintOf(0), uintOf(0))
	for i := range uint64(61) {
		l := []api.Item{x, uintOf(i)}
		for k := range uint64(200) {
			l = append(l, uintOf(200-k), arrayOf())
		}
		x = mapOf(l...)
	}
	b, err := Encode(x)
	if err != api.OK || string(b) != want(x) || Size(x) != len(b) {
		t.Error(err, len(b), Size(x))
	}
}

func TestOneAnswer(t *testing.T) { // R6
	for _, x := range append(good(), places(manifold())...) {
		b, s := first(Encode(x)), spell(Sorted(x))
		for range 3 {
			if again, err := Encode(item.Copy(x)); err != api.OK || !bytes.Equal(again, b) || spell(Sorted(item.Copy(x))) != s || Size(item.Copy(x)) != len(b) {
				t.Fatalf("of %s", short(x))
			}
		}
	}
}
