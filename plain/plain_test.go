package plain

import (
	"bytes"
	"encoding/hex"
	"math"
	"math/rand"
	"slices"
	"strconv"
	"strings"
	"testing"

	"ullage/api"
	"ullage/auto"
	"ullage/enc"
	"ullage/item"
	"ullage/limit"
)

func uintOf(n uint64) api.Item            { return api.Item{Kind: api.Uint, N: n} }
func nintOf(n uint64) api.Item            { return api.Item{Kind: api.Nint, N: n} }
func bytesOf(s string) api.Item           { return api.Item{Kind: api.Bytes, S: s} }
func textOf(s string) api.Item            { return api.Item{Kind: api.Text, S: s} }
func arrayOf(l ...api.Item) api.Item      { return api.Item{Kind: api.Array, L: l} }
func mapOf(l ...api.Item) api.Item        { return api.Item{Kind: api.Map, L: l} }
func tagOf(n uint64, x api.Item) api.Item { return api.Item{Kind: api.Tag, N: n, L: []api.Item{x}} }
func simpleOf(n uint64) api.Item          { return api.Item{Kind: api.Simple, N: n} }
func floatOf(v float64) api.Item          { return api.Item{Kind: api.Float, N: math.Float64bits(v)} }

// theNaN is the one that may be.
var theNaN = api.Item{Kind: api.Float, N: 0x7ff8000000000000}

func limits(depth, key, size int) api.Limits {
	return api.Limits{Depth: depth, Key: key, Size: size}
}

// The greatest limits, written out, and some that are right and spare memory.
var (
	greatest = limits(64, 1024, 2305843009213693951)
	roomy    = limits(12, 300, 2000)
)

func at(place int, err api.Errno) api.Verdict { return api.Verdict{Error: err, At: place} }

// hx are the bytes of digits, between which blanks may stand.
func hx(digits string) string {
	b, err := hex.DecodeString(strings.ReplaceAll(digits, " ", ""))
	if err != nil {
		panic(digits)
	}
	return string(b)
}

// spell is a text that is the same just for items that are the same.
func spell(x api.Item) string {
	var s strings.Builder
	spellTo(&s, x)
	return s.String()
}

func spellTo(s *strings.Builder, x api.Item) {
	s.WriteString("(" + strconv.Itoa(x.Kind) + " " + strconv.FormatUint(x.N, 16) + " " + strconv.Quote(x.S))
	for _, y := range x.L {
		spellTo(s, y)
	}
	s.WriteString(")")
}

// none is how the zero item is spelt.
var none = spell(api.Item{})

// short is what an item is called, where its spelling would be long.
func short(x api.Item) string {
	s := spell(x)
	return s[:min(len(s), 300)]
}

// encoded is the encoding of an item that may be.
func encoded(t *testing.T, x api.Item) string {
	t.Helper()
	b, err := enc.Encode(x)
	if err != api.OK {
		t.Fatalf("the test wants an item, but %s may not be: %v", short(x), err)
	}
	return string(b)
}

// isItemOf tells whether x is the item of b: the one whose encoding they are, sorted.
func isItemOf(x api.Item, b string) bool {
	again, err := enc.Encode(x)
	return err == api.OK && string(again) == b && item.Same(x, enc.Sorted(x))
}

// lent are bytes in memory of which others stand behind the length.
type lent struct {
	all []byte
	n   int
}

func lend(b string) lent {
	return lent{all: []byte(b + "\x00\x82\xff\x01\x00"), n: len(b)}
}

func (m lent) bytes() []byte { return m.all[:m.n] }

// same tells whether nothing was written.
func (m lent) same(b string) bool { return string(m.all) == b+"\x00\x82\xff\x01\x00" }

// checkDecode holds Decode and Again, asked twice, against chapter 14's Whole, and against what the item of b is.
func checkDecode(t *testing.T, b string, l api.Limits) api.Item {
	t.Helper()
	m, wanted, first := lend(b), auto.Whole([]byte(b), l), ""
	var x api.Item
	for round := range 2 {
		var v api.Verdict
		x, v = Decode(m.bytes(), l)
		again, text := Again(m.bytes(), l), spell(x)
		switch {
		case v != wanted || again != (wanted == api.Verdict{}):
			t.Fatalf("% .400x, %v: %v, %v, want %v", b, l, v, again, wanted)
		case v != (api.Verdict{}) && text != none:
			t.Fatalf("% .400x, %v: %s beside %v", b, l, short(x), v)
		case v == api.Verdict{} && !isItemOf(x, b):
			t.Fatalf("% .400x, %v: %s", b, l, short(x))
		case round > 0 && text != first:
			t.Fatalf("% .400x, %v: %s, and then %s", b, l, first, text)
		}
		first = text
	}
	if !m.same(b) {
		t.Fatalf("% .400x, %v: they were written over: % .400x", b, l, m.all)
	}
	return x
}

// search is how many bytes the shortest beginning has of which Whole tells a zero verdict; -1: there is none.
func search(b string, l api.Limits) int {
	for n := range len(b) + 1 {
		if auto.Whole([]byte(b[:n]), l) == (api.Verdict{}) {
			return n
		}
	}
	return -1
}

// checkPrefix holds Prefix, asked twice, against the beginning of so many bytes; -1: there is none.
func checkPrefix(t *testing.T, b string, l api.Limits, wanted int) {
	t.Helper()
	m := lend(b)
	for range 2 {
		x, n, v := Prefix(m.bytes(), l)
		if wanted < 0 {
			if v != auto.Whole([]byte(b), l) || v == (api.Verdict{}) || n != 0 || spell(x) != none {
				t.Fatalf("Prefix(% .400x, %v): %s, %d, %v, want %v", b, l, short(x), n, v, auto.Whole([]byte(b), l))
			}
		} else if v != (api.Verdict{}) || n != wanted || !isItemOf(x, b[:wanted]) {
			t.Fatalf("Prefix(% .400x, %v): %s, %d, %v, want %d", b, l, short(x), n, v, wanted)
		}
	}
	if !m.same(b) {
		t.Fatalf("Prefix(% .400x, %v): they were written over: % .400x", b, l, m.all)
	}
}

// check holds all calls against what the words ask. It searches all beginnings.
func check(t *testing.T, b string, l api.Limits) {
	t.Helper()
	checkDecode(t, b, l)
	checkPrefix(t, b, l, search(b, l))
}

// good are items that may be, of each kind, with not more than a few hundred bytes, and not deeper than 5.
func good() []api.Item {
	return []api.Item{
		{}, uintOf(1), uintOf(23), uintOf(24), uintOf(255), uintOf(256), uintOf(65535), uintOf(65536), uintOf(1<<32 - 1), uintOf(1 << 32), uintOf(1 << 63), uintOf(math.MaxUint64),
		nintOf(0), nintOf(23), nintOf(24), nintOf(255), nintOf(256), nintOf(65535), nintOf(65536), nintOf(1<<32 - 1), nintOf(1 << 32), nintOf(1 << 63), nintOf(math.MaxUint64),
		bytesOf(""), bytesOf("\xff"), bytesOf("\x00\x01"), bytesOf(strings.Repeat("\xfe", 24)), bytesOf(strings.Repeat("\x82", 256)),
		textOf(""), textOf("a"), textOf("é€\U0001f600"), textOf("\x00"), textOf(strings.Repeat("é", 12)), textOf(strings.Repeat("z", 257)),
		arrayOf(), arrayOf(uintOf(1), uintOf(1), uintOf(0)), arrayOf(arrayOf(), mapOf(), arrayOf(arrayOf())), arrayOf(slices.Repeat([]api.Item{uintOf(7)}, 24)...), arrayOf(slices.Repeat([]api.Item{nintOf(7)}, 256)...),
		mapOf(), mapOf(uintOf(1), uintOf(2)), mapOf(textOf("b"), uintOf(1), textOf("a"), tagOf(99, uintOf(7))), mapOf(uintOf(1), mapOf(uintOf(1), mapOf())), numbered(24), numbered(100),
		mapOf(mapOf(textOf("b"), uintOf(0), textOf("a"), uintOf(0)), uintOf(3), arrayOf(uintOf(1), uintOf(0)), mapOf(), arrayOf(), arrayOf()), mapOf(mapOf(), uintOf(1), mapOf(mapOf(), mapOf()), uintOf(2)),
		tagOf(0, uintOf(0)), tagOf(24, bytesOf("\x01")), tagOf(256, textOf("a")), tagOf(65536, arrayOf()), tagOf(1<<32, mapOf()), tagOf(math.MaxUint64, tagOf(23, tagOf(55, simpleOf(22)))),
		simpleOf(0), simpleOf(19), simpleOf(20), simpleOf(21), simpleOf(22), simpleOf(23), simpleOf(32), simpleOf(254), simpleOf(255),
		floatOf(0), floatOf(math.Copysign(0, -1)), floatOf(1.5), floatOf(-1.5), floatOf(math.Inf(1)), floatOf(math.Inf(-1)), theNaN, floatOf(math.Ldexp(1, -24)), floatOf(65504), floatOf(65505), floatOf(1e5), floatOf(math.SmallestNonzeroFloat32), floatOf(math.MaxFloat32), floatOf(0.1), floatOf(-4.1), floatOf(math.SmallestNonzeroFloat64), floatOf(math.MaxFloat64),
		mapOf(floatOf(1), uintOf(0), uintOf(1), uintOf(0), textOf("1"), uintOf(0), bytesOf("1"), floatOf(0.1), simpleOf(21), theNaN, tagOf(1, uintOf(1)), nintOf(0)),
	}
}

// numbered is a map of so many numbers, which don't stand as they are encoded.
func numbered(pairs int) api.Item {
	x := mapOf()
	for i := range pairs {
		x.L = append(x.L, uintOf(uint64(pairs-1-i)), textOf(strconv.Itoa(i)))
	}
	return x
}

// within puts x into others, at each kind of place.
func within(x api.Item) []api.Item {
	return []api.Item{
		arrayOf(x), arrayOf(x, uintOf(1)), arrayOf(uintOf(1), x, textOf("a"), x), tagOf(7, x), mapOf(x, uintOf(1)), mapOf(uintOf(1), x), mapOf(textOf("q"), x, textOf("pp"), x),
		mapOf(arrayOf(x, x), x, tagOf(5, x), arrayOf(x), nintOf(1000), x), mapOf(mapOf(x, mapOf(textOf("z"), x, uintOf(300), x)), bytesOf("\x00")),
	}
}

// all are good items alone and within others, those that fit the limits which spare memory.
func all() []api.Item {
	l := good()
	for _, x := range good() {
		for _, y := range within(x) {
			if limit.Fits(y, roomy) == api.OK {
				l = append(l, y)
			}
		}
	}
	return l
}

// encodings are those of all items.
func encodings(t *testing.T) []string {
	t.Helper()
	var l []string
	for _, x := range all() {
		l = append(l, encoded(t, x))
	}
	return l
}

// checkItem holds Decode of digits against an item that is written out, and Prefix of them with others behind.
func checkItem(t *testing.T, digits string, x api.Item) {
	t.Helper()
	b := hx(digits)
	if y := checkDecode(t, b, greatest); spell(y) != spell(x) {
		t.Errorf("Decode of %s: %s, want %s", digits, short(y), short(x))
	}
	for _, behind := range []string{"", "\x00", "\xff", b, "\x82\x01"} {
		y, n, v := Prefix([]byte(b+behind), greatest)
		if spell(y) != spell(x) || n != len(b) || v != (api.Verdict{}) {
			t.Errorf("Prefix of %s, with % x behind: %s, %d, %v", digits, behind, short(y), n, v)
		}
	}
}

func TestExamples(t *testing.T) { // P15.1: the chapter's, and those of the whole
	checkItem(t, "82 01 02", arrayOf(uintOf(1), uintOf(2)))
	if x, n, v := Prefix([]byte{1, 2}, greatest); spell(x) != spell(uintOf(1)) || n != 1 || v != (api.Verdict{}) {
		t.Errorf("Prefix of 01 02: %s, %d, %v", short(x), n, v)
	}
	checkItem(t, "f9 3e 00", floatOf(1.5))
	checkItem(t, "a2 61 61 02 61 62 01", mapOf(textOf("a"), uintOf(2), textOf("b"), uintOf(1)))
	checkItem(t, "82 01 0a", arrayOf(uintOf(1), uintOf(10)))
	for _, c := range []struct {
		digits  string
		depth   int
		verdict api.Verdict
	}{
		{"18 17", 64, at(1, api.ErrDeterminism)}, {"82 01", 64, at(2, api.ErrTruncated)}, {"a2 61 62 00 61 61 00", 64, at(5, api.ErrKeyOrder)}, {"61 c3", 64, at(1, api.ErrUTF8)}, {"81 81 81 00", 3, at(3, api.ErrDepth)}, {"fb 3f f8 00 00 00 00 00 00", 64, at(8, api.ErrDeterminism)},
	} {
		l := limits(c.depth, 1024, 1000)
		checkWrong(t, hx(c.digits), l, c.verdict)
		if x, n, v := Prefix([]byte(hx(c.digits)), l); spell(x) != none || n != 0 || v != c.verdict {
			t.Errorf("Prefix of %s: %s, %d, %v", c.digits, short(x), n, v)
		}
	}
	checkWrong(t, hx("01 01"), greatest, at(1, api.ErrSyntax))
}

// checkWrong sees to it that there is no item of b, by that verdict.
func checkWrong(t *testing.T, b string, l api.Limits, wanted api.Verdict) {
	t.Helper()
	checkDecode(t, b, l)
	if x, v := Decode([]byte(b), l); v != wanted || spell(x) != none || Again([]byte(b), l) {
		t.Fatalf("Decode(% .400x, %v): %s, %v, want %v", b, l, short(x), v, wanted)
	}
}

func TestWorkedOut(t *testing.T) { // P15.1: by hand, and by RFC 8949
	for _, c := range []struct {
		digits string
		x      api.Item
	}{
		{"00", uintOf(0)}, {"01", uintOf(1)}, {"17", uintOf(23)}, {"1818", uintOf(24)}, {"18ff", uintOf(255)}, {"190100", uintOf(256)}, {"19ffff", uintOf(65535)}, {"1a00010000", uintOf(65536)}, {"1affffffff", uintOf(4294967295)}, {"1b0000000100000000", uintOf(4294967296)}, {"1b000000e8d4a51000", uintOf(1_000_000_000_000)}, {"1b8000000000000000", uintOf(9223372036854775808)}, {"1bffffffffffffffff", uintOf(18446744073709551615)},
		{"20", nintOf(0)}, {"29", nintOf(9)}, {"37", nintOf(23)}, {"3818", nintOf(24)}, {"3863", nintOf(99)}, {"38ff", nintOf(255)}, {"390100", nintOf(256)}, {"3903e7", nintOf(999)}, {"39ffff", nintOf(65535)}, {"3a00010000", nintOf(65536)}, {"3affffffff", nintOf(4294967295)}, {"3b0000000100000000", nintOf(4294967296)}, {"3bffffffffffffffff", nintOf(18446744073709551615)},
		{"40", bytesOf("")}, {"41ff", bytesOf("\xff")}, {"4401020304", bytesOf("\x01\x02\x03\x04")}, {"5818" + strings.Repeat("a5", 24), bytesOf(strings.Repeat("\xa5", 24))}, {"590100" + strings.Repeat("00", 256), bytesOf(strings.Repeat("\x00", 256))}, {"5a00010000" + strings.Repeat("0f", 65536), bytesOf(strings.Repeat("\x0f", 65536))},
		{"60", textOf("")}, {"6161", textOf("a")}, {"6449455446", textOf("IETF")}, {"62225c", textOf("\"\\")}, {"62c3bc", textOf("\u00fc")}, {"63e6b0b4", textOf("\u6c34")}, {"64f0908591", textOf("\U00010151")}, {"7818" + strings.Repeat("c3bc", 12), textOf(strings.Repeat("\u00fc", 12))}, {"790100" + strings.Repeat("7a", 256), textOf(strings.Repeat("z", 256))},
		{"80", arrayOf()}, {"83010203", arrayOf(uintOf(1), uintOf(2), uintOf(3))}, {"8301820203820405", arrayOf(uintOf(1), arrayOf(uintOf(2), uintOf(3)), arrayOf(uintOf(4), uintOf(5)))}, {"9818" + strings.Repeat("20", 24), arrayOf(slices.Repeat([]api.Item{nintOf(0)}, 24)...)}, {"990100" + strings.Repeat("f6", 256), arrayOf(slices.Repeat([]api.Item{simpleOf(22)}, 256)...)},
		{"a0", mapOf()}, {"a201020304", mapOf(uintOf(1), uintOf(2), uintOf(3), uintOf(4))}, {"a26161016162820203", mapOf(textOf("a"), uintOf(1), textOf("b"), arrayOf(uintOf(2), uintOf(3)))}, {"826161a161626163", arrayOf(textOf("a"), mapOf(textOf("b"), textOf("c")))},
		{"a56161614161626142616361436164614461656145", mapOf(textOf("a"), textOf("A"), textOf("b"), textOf("B"), textOf("c"), textOf("C"), textOf("d"), textOf("D"), textOf("e"), textOf("E"))},
		{"a3 80 80 a0 a0 a1 00 01 02", mapOf(arrayOf(), arrayOf(), mapOf(), mapOf(), mapOf(uintOf(0), uintOf(1)), uintOf(2))},
		{"c074323031332d30332d32315432303a30343a30305a", tagOf(0, textOf("2013-03-21T20:04:00Z"))}, {"c11a514b67b0", tagOf(1, uintOf(1363896240))}, {"c1fb41d452d9ec200000", tagOf(1, floatOf(1363896240.5))}, {"d74401020304", tagOf(23, bytesOf("\x01\x02\x03\x04"))}, {"d818456449455446", tagOf(24, bytesOf("dIETF"))}, {"d9d9f7c6d9010080", tagOf(55799, tagOf(6, tagOf(256, arrayOf())))}, {"dbffffffffffffffffa0", tagOf(18446744073709551615, mapOf())},
		{"e0", simpleOf(0)}, {"f0", simpleOf(16)}, {"f3", simpleOf(19)}, {"f4", simpleOf(20)}, {"f5", simpleOf(21)}, {"f6", simpleOf(22)}, {"f7", simpleOf(23)}, {"f820", simpleOf(32)}, {"f8ff", simpleOf(255)},
		{"f90000", floatOf(0)}, {"f98000", floatOf(math.Copysign(0, -1))}, {"f93c00", floatOf(1)}, {"f97bff", floatOf(65504)}, {"f90001", floatOf(5.960464477539063e-8)}, {"f90400", floatOf(0.00006103515625)}, {"f9c400", floatOf(-4)}, {"f97c00", floatOf(math.Inf(1))}, {"f9fc00", floatOf(math.Inf(-1))}, {"f97e00", theNaN},
		{"fa47c35000", floatOf(100000)}, {"fa7f7fffff", floatOf(3.4028234663852886e+38)}, {"fa00000001", floatOf(math.SmallestNonzeroFloat32)}, {"fac7c35000", floatOf(-100000)},
		{"fb3ff199999999999a", floatOf(1.1)}, {"fb7e37e43c8800759c", floatOf(1e300)}, {"fbc010666666666666", floatOf(-4.1)}, {"fb0000000000000001", floatOf(math.SmallestNonzeroFloat64)},
	} {
		checkItem(t, c.digits, c.x)
	}
}

func TestItems(t *testing.T) { // P15.1: of each kind, alone and within others, by the greatest limits and by those that are needed
	for _, x := range all() {
		b, wanted := encoded(t, x), spell(enc.Sorted(x))
		needed, ok := limit.Needed(x)
		if !ok {
			t.Fatalf("%s fits no limits", short(x))
		}
		for _, l := range []api.Limits{greatest, needed} {
			if y := checkDecode(t, b, l); spell(y) != wanted {
				t.Fatalf("% .300x: %s, want %.300s", b, short(y), wanted)
			}
			checkPrefix(t, b, l, len(b))
		}
	}
}

func TestNumbers(t *testing.T) { // P15.1: at both sides of each power of two
	for _, kind := range []int{api.Uint, api.Nint, api.Tag} {
		for bit := range 64 {
			for _, n := range []uint64{1<<bit - 1, 1 << bit, 1<<bit + 1, -(1 << bit)} {
				x := api.Item{Kind: kind, N: n}
				if kind == api.Tag {
					x.L = []api.Item{uintOf(n)}
				}
				if y := checkDecode(t, encoded(t, x), roomy); spell(y) != spell(x) {
					t.Fatalf("%s: %s", spell(x), spell(y))
				}
			}
		}
	}
}

func TestSimples(t *testing.T) { // P15.1: all heads of the major type 7 with at most one byte behind
	for n := range 32 {
		check(t, string([]byte{0xe0 + byte(n)}), roomy)
		check(t, string([]byte{0xe0 + byte(n), 32}), roomy)
	}
	for n := range 256 {
		b := string([]byte{0xf8, byte(n)})
		check(t, b, roomy)
		if n < 32 {
			checkWrong(t, b, roomy, at(1, api.ErrSyntax))
			continue
		}
		if x, v := Decode([]byte(b), roomy); spell(x) != spell(simpleOf(uint64(n))) || v != (api.Verdict{}) {
			t.Fatalf("% x: %s, %v", b, short(x), v)
		}
	}
}

func TestFloats(t *testing.T) { // P15.1: all halves, many singles and doubles; their values are the machine's own
	for h := range 1 << 16 {
		b := []byte{0xf9, byte(h >> 8), byte(h)}
		x, v := Decode(b, roomy)
		if v != auto.Whole(b, roomy) || v == (api.Verdict{}) && !isItemOf(x, string(b)) || v != (api.Verdict{}) && spell(x) != none {
			t.Fatalf("% x: %s, %v", b, short(x), v)
		}
	}
	r := rand.New(rand.NewSource(15))
	for range 5000 {
		single, double := math.Float32frombits(r.Uint32()), math.Float64frombits(r.Uint64())
		for _, v := range []float64{float64(single), double, float64(int64(double)), math.Trunc(float64(single))} {
			x := floatOf(v)
			if v != v {
				x = theNaN
			}
			if y := checkDecode(t, encoded(t, x), roomy); spell(y) != spell(x) {
				t.Fatalf("%s: %s", spell(x), spell(y))
			}
		}
	}
}

func TestLengths(t *testing.T) { // P15.1: of texts and bytes, arrays and maps, at both sides of each bound of their heads
	for _, n := range []int{0, 1, 2, 22, 23, 24, 25, 254, 255, 256, 257, 65535, 65536} {
		for _, x := range []api.Item{bytesOf(strings.Repeat("\xf0", n)), textOf(strings.Repeat("f", n)), arrayOf(slices.Repeat([]api.Item{arrayOf()}, n)...), numbered(n)} {
			b := encoded(t, x)
			if y := checkDecode(t, b, greatest); !item.Same(y, enc.Sorted(x)) {
				t.Fatalf("%d of kind %d: %s", n, x.Kind, short(y))
			}
			checkPrefix(t, b+"\x01", greatest, len(b))
		}
	}
}

// deep is x in so many others, which have it as their only one, but as a value or a key of a map.
func deep(x api.Item, about int, how string) api.Item {
	for range about {
		switch how {
		case "array":
			x = arrayOf(x)
		case "tag":
			x = tagOf(3, x)
		case "value":
			x = mapOf(uintOf(1), x)
		case "key":
			x = mapOf(x, uintOf(1))
		case "both":
			x = mapOf(uintOf(2), arrayOf(uintOf(9), x), uintOf(1), x)
		}
	}
	return x
}

func TestDepths(t *testing.T) { // P15.1: up to the depth that the limits allow, and one deeper
	for _, how := range []string{"array", "tag", "value", "key"} {
		for depth := 1; depth <= 64; depth++ {
			l := limits(depth, 1024, 1000)
			for _, leaf := range []api.Item{uintOf(5), textOf("é"), arrayOf(), mapOf()} {
				x := deep(leaf, depth-1, how)
				b := encoded(t, x)
				if y := checkDecode(t, b, l); spell(y) != spell(x) {
					t.Fatalf("%s, %d deep: %s", how, depth, short(y))
				}
				checkPrefix(t, b+b, l, len(b))
				if depth < 2 {
					continue
				}
				if x, v := Decode([]byte(b), limits(depth-1, 1024, 1000)); v.Error != api.ErrDepth || spell(x) != none {
					t.Fatalf("%s, %d deep: %s, %v", how, depth, short(x), v)
				}
				checkPrefix(t, b+b, limits(depth-1, 1024, 1000), -1)
			}
		}
	}
	checkWrong(t, strings.Repeat("\x81", 64)+"\x00", greatest, at(64, api.ErrDepth))
	checkWrong(t, strings.Repeat("\x81", 1000), greatest, at(64, api.ErrDepth))
	checkWrong(t, strings.Repeat("\xc1", 1<<20), greatest, at(64, api.ErrDepth))
	x := deep(uintOf(5), 8, "both")
	if y := checkDecode(t, encoded(t, x), limits(17, 10, 1<<20)); spell(y) != spell(enc.Sorted(x)) {
		t.Errorf("both: %s", short(y))
	}
}

// checkNear holds Prefix of short bytes alone, for the sake of the search.
func checkNear(t *testing.T, b string, l api.Limits) {
	t.Helper()
	if len(b) < 12 {
		check(t, b, l)
		return
	}
	checkDecode(t, b, l)
}

func TestEachBeginning(t *testing.T) { // P15.1
	for _, b := range encodings(t) {
		for n := range len(b) {
			if n < 50 || n > len(b)-10 {
				checkWrong(t, b[:n], roomy, at(n, api.ErrTruncated))
				checkPrefix(t, b[:n], roomy, -1)
			}
		}
	}
}

func TestOneMore(t *testing.T) { // P15.1
	for _, b := range encodings(t) {
		for _, c := range []byte{0, 1, 0x40, 0x60, 0x80, 0xa0, 0xc0, 0xf6, 0xff} {
			more := b + string([]byte{c})
			checkWrong(t, more, roomy, at(len(b), api.ErrSyntax))
			checkPrefix(t, more, roomy, len(b))
		}
	}
}

func TestOneTurned(t *testing.T) { // P15.1: each byte, to some others; those of the short ones to all others
	r := rand.New(rand.NewSource(151))
	for _, b := range encodings(t) {
		for i := range min(len(b), 40) {
			turned := []byte(b)
			for c := range 256 {
				if len(b) > 4 && r.Intn(60) > 0 {
					continue
				}
				turned[i] = byte(c)
				checkNear(t, string(turned), limits(7, 30, 300))
			}
		}
	}
}

func TestOneTakenOut(t *testing.T) { // P15.1: and two that change places
	for _, b := range encodings(t) {
		for i := range min(len(b), 30) {
			checkNear(t, b[:i]+b[i+1:], roomy)
			if i > 0 {
				checkNear(t, b[:i-1]+b[i:i+1]+b[i-1:i]+b[i+1:], roomy)
			}
		}
	}
}

func TestAllShortRows(t *testing.T) { // P15.1: all rows of up to two bytes
	for _, l := range []api.Limits{limits(3, 2, 3), limits(1, 1, 1), limits(2, 1, 2), limits(0, 1, 2)} {
		check(t, "", l)
		for a := range 256 {
			check(t, string([]byte{byte(a)}), l)
			for b := range 256 {
				if l.Size > 1 {
					check(t, string([]byte{byte(a), byte(b)}), l)
				}
			}
		}
	}
}

func TestAllRowsOfFewBytes(t *testing.T) { // P15.1
	few := []byte{0x00, 0x01, 0x18, 0x20, 0x41, 0x61, 0x80, 0x81, 0x82, 0xa0, 0xa1, 0xc1, 0xf6, 0xff}
	var rows func(b string, more int)
	rows = func(b string, more int) {
		check(t, b, limits(3, 2, 4))
		if more == 0 {
			return
		}
		for _, c := range few {
			rows(b+string([]byte{c}), more-1)
		}
	}
	rows("", 4)
	for _, begun := range []string{"\xa2\x01", "\xa1\x82", "\x82\xa1", "\xa2\x60"} {
		rows(begun, 3)
	}
}

// wrongLimits are limits that aren't right, one of which alone is to blame, or several.
func wrongLimits() []api.Limits {
	var all []api.Limits
	for _, n := range []int{0, -1, math.MinInt} {
		all = append(all, limits(n, 10, 10), limits(10, n, 10), limits(10, 10, n), limits(n, n, n))
	}
	return append(all, limits(65, 10, 10), limits(10, 1025, 10), limits(10, 10, 1<<61), limits(math.MaxInt, 10, 10), limits(10, math.MaxInt, 10), limits(10, 10, math.MaxInt), limits(65, 1025, 1<<61), api.Limits{})
}

func TestWrongLimits(t *testing.T) { // P15.1
	for _, l := range wrongLimits() {
		for _, b := range append(encodings(t)[:200], "", "\xff", "\x82", "\x82\x01", "\x01\x01", "\x18\x17", strings.Repeat("\x00", 2000)) {
			checkWrong(t, b, l, at(0, api.ErrRange))
			checkPrefix(t, b, l, -1)
			if _, _, v := Prefix([]byte(b), l); v != at(0, api.ErrRange) {
				t.Fatalf("Prefix(% .300x, %v): %v", b, l, v)
			}
		}
		if x, v := Decode(nil, l); v != at(0, api.ErrRange) || spell(x) != none || Again(nil, l) {
			t.Fatalf("Decode(nil, %v): %s, %v", l, short(x), v)
		}
	}
}

func TestNoBytes(t *testing.T) { // P15.1
	for _, l := range []api.Limits{greatest, roomy, limits(1, 1, 1)} {
		for _, b := range [][]byte{nil, {}, []byte("\x00\x00")[:0], []byte("\x01")[1:]} {
			if x, v := Decode(b, l); v != at(0, api.ErrTruncated) || spell(x) != none || Again(b, l) {
				t.Errorf("Decode of none, %v: %s, %v", l, short(x), v)
			}
			if x, n, v := Prefix(b, l); v != at(0, api.ErrTruncated) || spell(x) != none || n != 0 {
				t.Errorf("Prefix of none, %v: %s, %d, %v", l, short(x), n, v)
			}
		}
	}
}

func TestLimitsThatFitJust(t *testing.T) { // P15.1: all that is needed, and less by one in each number, and in several
	for _, x := range all() {
		b, wanted := encoded(t, x), spell(enc.Sorted(x))
		needed, _ := limit.Needed(x)
		for less := range 8 {
			l := limits(needed.Depth-less&1, needed.Key-less>>1&1, needed.Size-less>>2)
			fits := limit.Fits(x, l)
			y := checkDecode(t, b, l)
			_, v := Decode([]byte(b), l)
			if fits == api.OK && (spell(y) != wanted || v != (api.Verdict{})) || fits != api.OK && v == (api.Verdict{}) {
				t.Fatalf("% .300x, %v: %s, %v, but Fits is %v", b, l, short(y), v, fits)
			}
			if fits == api.OK {
				checkPrefix(t, b+"\x00", l, len(b))
			} else {
				checkPrefix(t, b+"\x00", l, -1)
			}
		}
	}
}

func TestPrefixOfAnItemAndMore(t *testing.T) { // P15.1
	behind := []string{"", "\x82\x01\x02", "\xff\xff", "\x18\x17", "\x61\xc3", "\x9b", "\x82\x01", "\xa2\x01\x01\x00\x00", strings.Repeat("\x81", 100), strings.Repeat("\x00", 5000), strings.Repeat("\xff", 5000)}
	for _, x := range all() {
		b, wanted := encoded(t, x), spell(enc.Sorted(x))
		for _, more := range append(behind, b) {
			checkPrefix(t, b+more, roomy, len(b))
			if y, n, v := Prefix([]byte(b+more), roomy); spell(y) != wanted || n != len(b) || v != (api.Verdict{}) {
				t.Fatalf("Prefix of % .300x and % .300x: %s, %d, %v", b, more, short(y), n, v)
			}
		}
	}
	for _, x := range good()[:60] {
		b := encoded(t, x)
		for c := range 256 {
			checkPrefix(t, b+string([]byte{byte(c)}), roomy, len(b))
		}
	}
}

func TestItemsInARow(t *testing.T) { // P15.1: Prefix, again and again of what is left
	var b []byte
	for _, x := range all() {
		b = append(b, encoded(t, x)...)
	}
	for _, x := range all() {
		y, n, v := Prefix(b, roomy)
		if spell(y) != spell(enc.Sorted(x)) || n != enc.Size(x) || v != (api.Verdict{}) {
			t.Fatalf("%s, %d, %v, want %s", short(y), n, v, short(x))
		}
		b = b[n:]
	}
	if len(b) > 0 {
		t.Errorf("% x is left", b)
	}
}

func TestPrefixOfNone(t *testing.T) { // P15.1: no beginning is an item
	for _, c := range []struct {
		digits  string
		verdict api.Verdict
	}{
		{"", at(0, api.ErrTruncated)}, {"18", at(1, api.ErrTruncated)}, {"82 01", at(2, api.ErrTruncated)}, {"a1 01", at(2, api.ErrTruncated)}, {"42 00", at(2, api.ErrTruncated)}, {"c1", at(1, api.ErrTruncated)}, {"fb 00 00", at(3, api.ErrTruncated)},
		{"ff 01", at(0, api.ErrSyntax)}, {"1c", at(0, api.ErrSyntax)}, {"f8 1f 01", at(1, api.ErrSyntax)}, {"82 01 ff 01", at(2, api.ErrSyntax)}, {"81 fc", at(1, api.ErrSyntax)}, {"9f 01 ff", at(0, api.ErrDeterminism)}, {"5f 41 00 ff", at(0, api.ErrDeterminism)},
		{"18 17 01", at(1, api.ErrDeterminism)}, {"f9 7c 01 00", at(2, api.ErrDeterminism)}, {"fa 3f 80 00 00", at(4, api.ErrDeterminism)}, {"61 80 00", at(1, api.ErrUTF8)}, {"62 c3 28", at(2, api.ErrUTF8)}, {"63 e6 b0", at(3, api.ErrTruncated)},
		{"a2 01 00 01 00 00", at(3, api.ErrKeyOrder)}, {"a2 20 00 01 00", at(3, api.ErrKeyOrder)}, {"81 81 81 81 81 00", at(4, api.ErrDepth)}, {"a1 44 00 00 00 00 00", at(4, api.ErrKeyLength)}, {"a1 83 01 02 03 04", at(4, api.ErrKeyLength)},
		{"88 01 01 01 01 01 01 01 01", at(7, api.ErrSize)}, {"87 01 01 01 01 01 01", at(7, api.ErrTruncated)}, {"47 01 01 01 01 01 01 01", at(7, api.ErrSize)},
	} {
		b, l := hx(c.digits), limits(4, 3, 7)
		checkPrefix(t, b, l, -1)
		if _, _, v := Prefix([]byte(b), l); v != c.verdict {
			t.Errorf("Prefix of %s: %v, want %v", c.digits, v, c.verdict)
		}
		checkWrong(t, b, l, c.verdict)
	}
}

func TestPrefixSizes(t *testing.T) { // P15.1: the limits' Size ends ahead of the bytes, just with the item, and behind it
	for _, x := range good() {
		b := encoded(t, x)
		for size := 1; size <= len(b)+3; size++ {
			l := limits(12, 300, size)
			wanted := len(b)
			if size < len(b) {
				wanted = -1
			}
			for _, more := range []string{"", "\x01", "\x01\x01\x01\x01\x01", "\xff"} {
				checkPrefix(t, b+more, l, wanted)
				if _, _, v := Prefix([]byte(b+more), l); wanted < 0 && v != at(size, api.ErrSize) {
					t.Fatalf("Prefix(% .300x, %v): %v", b+more, l, v)
				}
			}
		}
	}
}

// draw is an item that may be, with at most so many levels more.
func draw(r *rand.Rand, levels int) api.Item {
	kind := r.Intn(9)
	if levels == 0 && (kind == api.Array || kind == api.Map || kind == api.Tag) {
		kind = api.Uint
	}
	n := r.Uint64() >> r.Intn(64)
	switch kind {
	case api.Bytes:
		b := make([]byte, r.Intn(30))
		r.Read(b)
		return bytesOf(string(b))
	case api.Text:
		return textOf(strings.Repeat([]string{"a", "é", "€", "\U0001f600"}[r.Intn(4)], r.Intn(9)))
	case api.Array:
		x := arrayOf()
		for range r.Intn(5) {
			x.L = append(x.L, draw(r, levels-1))
		}
		return x
	case api.Map:
		return drawMap(r, levels)
	case api.Tag:
		return tagOf(n, draw(r, levels-1))
	case api.Simple:
		return simpleOf([]uint64{0, 19, 20, 21, 22, 23, 32, 255}[r.Intn(8)])
	case api.Float:
		v := []float64{float64(r.Intn(100)), float64(r.Float32()), r.NormFloat64(), math.Inf(1)}[r.Intn(4)]
		return floatOf(v)
	}
	return api.Item{Kind: kind, N: n}
}

// drawMap has keys that aren't alike once they are sorted, either.
func drawMap(r *rand.Rand, levels int) api.Item {
	x, had := mapOf(), map[string]bool{}
	for range r.Intn(5) {
		key := draw(r, min(levels-1, 2))
		if text := spell(enc.Sorted(key)); !had[text] {
			had[text] = true
			x.L = append(x.L, key, draw(r, levels-1))
		}
	}
	return x
}

func TestDrawnItems(t *testing.T) { // P15.1: whole, harmed, and with others behind
	r := rand.New(rand.NewSource(152))
	for range 4000 {
		x := draw(r, 5)
		b := encoded(t, x)
		if limit.Fits(x, roomy) != api.OK {
			continue
		}
		if y := checkDecode(t, b, roomy); spell(y) != spell(enc.Sorted(x)) {
			t.Fatalf("% .300x: %s, want %s", b, short(y), short(enc.Sorted(x)))
		}
		more := make([]byte, r.Intn(20))
		r.Read(more)
		checkPrefix(t, b+string(more), roomy, len(b))
		harmed := []byte(b + string(more))
		for range 1 + r.Intn(3) {
			if len(harmed) > 0 {
				harmed[r.Intn(len(harmed))] = byte(r.Intn(256))
			}
		}
		checkNear(t, string(harmed), limits(1+r.Intn(6), 1+r.Intn(30), 1+r.Intn(100)))
	}
}

func TestDrawnBytes(t *testing.T) { // P15.1, P1: and limits, right and not
	r := rand.New(rand.NewSource(153))
	often := []byte{0x00, 0x01, 0x40, 0x41, 0x61, 0x80, 0x81, 0x82, 0xa0, 0xa1, 0xa2, 0xc1, 0xf6, 0xf9, 0x18}
	for range 30000 {
		b := make([]byte, r.Intn(14))
		for i := range b {
			b[i] = byte(r.Intn(256))
			if r.Intn(4) > 0 {
				b[i] = often[r.Intn(len(often))]
			}
		}
		check(t, string(b), limits(r.Intn(7), r.Intn(9), r.Intn(20)))
	}
	for range 2000 {
		b := make([]byte, r.Intn(60))
		r.Read(b)
		check(t, string(b), limits(int(r.Uint64()>>r.Intn(64)), int(r.Uint64()>>r.Intn(64)), int(r.Uint64()>>r.Intn(64))))
	}
}

func TestKeysThatAreAlikeOnceSorted(t *testing.T) { // P15.1: Whole has the last word
	one, two := mapOf(uintOf(1), uintOf(0), uintOf(2), uintOf(0)), mapOf(uintOf(2), uintOf(0), uintOf(1), uintOf(0))
	b := encoded(t, mapOf(one, uintOf(0), two, uintOf(1)))
	checkWrong(t, b, roomy, auto.Whole([]byte(b), roomy))
	if _, v := Decode([]byte(b), roomy); v.Error != api.ErrKeyOrder {
		t.Errorf("% x: %v", b, v)
	}
	checkPrefix(t, b, roomy, -1)
}

func TestFarMoreThanThereIs(t *testing.T) { // P15.1, P1: bytes that tell of more items, or of a longer text, than they have
	for _, first := range []string{"\x5b", "\x7b", "\x9b", "\xbb"} {
		for _, n := range []string{"\x80\x00\x00\x00\x00\x00\x00\x00", "\xff\xff\xff\xff\xff\xff\xff\xff", "\x7f\xff\xff\xff\xff\xff\xff\xff", "\x00\x00\x00\x01\x00\x00\x00\x00"} {
			for _, ahead := range []string{"", "\x81", "\x82\x01", "\xa1\x01", "\xc1", "\xa1"} {
				for _, more := range []string{"", "\x00", "\x00\x01", "\x01\x61\x61\x02\x61\x62", "\xff"} {
					b := ahead + first + n + more
					check(t, b, roomy)
					check(t, b, greatest)
					if x, v := Decode([]byte(b), greatest); v.Error != api.ErrTruncated && more != "\xff" || spell(x) != none {
						t.Errorf("% x: %s, %v", b, short(x), v)
					}
				}
			}
		}
	}
	for _, first := range []string{"\x18", "\x57", "\x5a\xff\xff\xff\xff", "\x7a\x00\x10\x00\x00", "\x9a\xff\xff\xff\xff", "\x99\xff\xff", "\x97", "\xba\xff\xff\xff\xff", "\xb7"} {
		check(t, first, greatest)
		check(t, first+"\x01\x02", greatest)
	}
}

func TestAgain(t *testing.T) { // P15.1: just where Decode's verdict is a zero one
	for _, x := range all() {
		b := []byte(encoded(t, x))
		if !Again(b, greatest) || !Again(b, roomy) {
			t.Fatalf("% .300x: there is none", b)
		}
		if Again(b[:len(b)-1], greatest) || Again(append(b, 0), greatest) || Again(b, limits(12, 1025, 1)) || len(b) > 1 && Again(b, limits(12, 300, len(b)-1)) {
			t.Fatalf("% .300x: there is an item of others", b)
		}
	}
}

// rub writes over all memory of an item.
func rub(x *api.Item) {
	for i := range x.L {
		rub(&x.L[i])
		x.L[i] = api.Item{Kind: -1, N: 77, S: "rubbed"}
	}
	x.L = append(x.L, api.Item{Kind: -2})
}

func TestItemsStandWhenBytesDont(t *testing.T) { // R4
	for _, b := range encodings(t) {
		memory := []byte(b + "\x01\x02")
		x, _ := Decode(memory[:len(b)], roomy)
		y, n, _ := Prefix(memory, roomy)
		wanted := spell(x)
		for i := range memory {
			memory[i] ^= 0xff
		}
		if spell(x) != wanted || spell(y) != wanted || n != len(b) || !isItemOf(x, b) {
			t.Fatalf("% .300x: %s, %s, want %.300s", b, short(x), short(y), wanted)
		}
	}
}

func TestItemsMayBeWrittenOver(t *testing.T) { // R4: one answer has nothing of another, nor of the bytes
	for _, b := range encodings(t) {
		m := lend(b)
		x, _ := Decode(m.bytes(), roomy)
		y, _ := Decode(m.bytes(), roomy)
		z, _, _ := Prefix(m.bytes(), roomy)
		wanted := spell(y)
		rub(&x)
		if spell(y) != wanted || spell(z) != wanted || !m.same(b) {
			t.Fatalf("% .300x: %s, %s, want %.300s", b, short(y), short(z), wanted)
		}
		rub(&z)
		if spell(y) != wanted || spell(checkDecode(t, b, roomy)) != wanted {
			t.Fatalf("% .300x: %s, want %.300s", b, short(y), wanted)
		}
	}
}

func TestListsStandApart(t *testing.T) { // R4: what is put behind one list of an answer changes no other
	for _, b := range encodings(t) {
		x, _ := Decode([]byte(b), roomy)
		wanted := spell(x)
		for _, y := range itemsOf(&x) {
			_ = append(y.L, slices.Repeat([]api.Item{{Kind: -1}}, cap(y.L)-len(y.L))...)
		}
		if spell(x) != wanted {
			t.Fatalf("% .300x: %s, want %.300s", b, short(x), wanted)
		}
	}
}

// itemsOf are x and all items in it, where they stand.
func itemsOf(x *api.Item) []*api.Item {
	l := []*api.Item{x}
	for i := range x.L {
		l = append(l, itemsOf(&x.L[i])...)
	}
	return l
}

func TestBytesBehindALength(t *testing.T) { // R4: they are neither read nor written
	for _, b := range []string{"\x82\x01\x02", "\x19\x01\x00", "\x62\xc3\xbc", "\xa1\x01\x02", "\xf9\x3c\x00"} {
		memory := []byte(b)
		for n := range len(b) {
			if x, v := Decode(memory[:n], roomy); v != at(n, api.ErrTruncated) || spell(x) != none {
				t.Errorf("% x of % x: %s, %v", memory[:n], b, short(x), v)
			}
			if x, k, v := Prefix(memory[:n], roomy); v != at(n, api.ErrTruncated) || k != 0 || spell(x) != none {
				t.Errorf("Prefix of % x of % x: %s, %d, %v", memory[:n], b, short(x), k, v)
			}
		}
		if string(memory) != b {
			t.Errorf("% x became % x", b, memory)
		}
	}
}

func TestVeryMany(t *testing.T) { // P1, P15.1: as much as the document promises anything of
	const most = 1 << 20
	long := strings.Repeat("ab", most/2-4)
	for _, x := range []api.Item{
		textOf(long), bytesOf(long), arrayOf(slices.Repeat([]api.Item{uintOf(1)}, most-5)...), arrayOf(slices.Repeat([]api.Item{arrayOf(textOf("a"))}, most/3-5)...), numbered(1 << 16), mapOf(uintOf(1), textOf(long), uintOf(0), bytesOf("")),
	} {
		b := []byte(encoded(t, x))
		y, v := Decode(b, greatest)
		if v != (api.Verdict{}) || !item.Same(y, enc.Sorted(x)) || !Again(b, greatest) {
			t.Fatalf("of %d bytes: %v", len(b), v)
		}
		z, n, v := Prefix(append(b, 0, 1), greatest)
		if v != (api.Verdict{}) || n != len(b) || !item.Same(z, y) {
			t.Fatalf("Prefix of %d bytes and two: %d, %v", len(b), n, v)
		}
		if y, v := Decode(b[:len(b)-1], greatest); v != at(len(b)-1, api.ErrTruncated) || spell(y) != none {
			t.Fatalf("of %d bytes, less one: %s, %v", len(b), short(y), v)
		}
	}
	b := bytes.Repeat([]byte{0}, most)
	if x, n, v := Prefix(b, greatest); spell(x) != none || n != 1 || v != (api.Verdict{}) {
		t.Errorf("Prefix of noughts: %s, %d, %v", short(x), n, v)
	}
}
