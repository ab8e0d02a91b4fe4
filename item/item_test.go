package item

import (
	"bytes"
	"iter"
	"math"
	"slices"
	"strconv"
	"testing"
	"unicode/utf8"

	"ullage/api"
)

// kinds are all that are, and those below and above them, both ends of int, and some that are kinds if cut to fewer bits.
var kinds = []int{
	api.Uint, api.Nint, api.Bytes, api.Text, api.Array, api.Map, api.Tag, api.Simple, api.Float,
	-1, -2, -8, 9, 10, 255, 256, 256 + api.Text, 1<<32 + api.Array, 1<<63 - 1, -1 << 63,
}

// numbers are those at the edges that the chapter names, and others.
var numbers = []uint64{
	0, 1, 22, 23, 24, 25, 30, 31, 32, 33, 254, 255, 256, 257, 65_535, 1 << 32, 1<<32 + 32, 1<<63 - 1, 1 << 63, math.MaxUint64,
	0x7e00, 0x7fc00000, 0x3ff0000000000000, 0x7fefffffffffffff, 0x7ff0000000000000, 0xfff0000000000000, 0x000fffffffffffff,
	0x7ff8000000000000, 0xfff8000000000000, 0x7ff0000000000001, 0x7ff7ffffffffffff, 0x7ff8000000000001, 0x7fffffffffffffff, 0xfff0000000000001, 0xffffffffffffffff,
}

// texts are in UTF-8, and not.
var texts = []string{"", "a", "é", "\x00", "ab\U0001f600", "\xff", "a\x80", "\xc3", "\xed\xa0\x80", "ab\xf0\x9f\x98"}

func uintOf(n uint64) api.Item            { return api.Item{Kind: api.Uint, N: n} }
func textOf(s string) api.Item            { return api.Item{Kind: api.Text, S: s} }
func bytesOf(s string) api.Item           { return api.Item{Kind: api.Bytes, S: s} }
func arrayOf(l ...api.Item) api.Item      { return api.Item{Kind: api.Array, L: l} }
func mapOf(l ...api.Item) api.Item        { return api.Item{Kind: api.Map, L: l} }
func tagOf(n uint64, x api.Item) api.Item { return api.Item{Kind: api.Tag, N: n, L: []api.Item{x}} }
func simpleOf(n uint64) api.Item          { return api.Item{Kind: api.Simple, N: n} }
func floatOf(n uint64) api.Item           { return api.Item{Kind: api.Float, N: n} }

// chain is an item in so many others, each the only one of the one about it.
func chain(about int, x api.Item) api.Item {
	for range about {
		x = arrayOf(x)
	}
	return x
}

// told is an item, and how deep it stands.
type told struct {
	deep int
	x    api.Item
}

// wantAll goes down by calling itself.
func wantAll(x api.Item, deep int) []told {
	all := []told{{deep, x}}
	for _, y := range x.L {
		all = append(all, wantAll(y, deep+1)...)
	}
	return all
}

// spell is a text that is the same just for items that are the same.
func spell(x api.Item) string {
	s := "(" + strconv.Itoa(x.Kind) + " " + strconv.FormatUint(x.N, 16) + " " + strconv.Quote(x.S)
	for _, y := range x.L {
		s += spell(y)
	}
	return s + ")"
}

// wantDepth is by the chapter's words.
func wantDepth(x api.Item) int {
	greatest := 0
	for _, y := range x.L {
		greatest = max(greatest, wantDepth(y))
	}
	return 1 + greatest
}

// fits is what a kind's items are made of.
type fits struct {
	text  bool
	items func(int) bool
	n     func(uint64) bool
	names bool // N is told of it, so that a wrong one is out of its range, not a field that isn't told
}

// rows are what the chapter says of each kind.
func rows() map[int]fits {
	nought := func(n uint64) bool { return n == 0 }
	each := func(uint64) bool { return true }
	none := func(n int) bool { return n == 0 }
	return map[int]fits{
		0: {false, none, each, true},
		1: {false, none, each, true},
		2: {true, none, nought, false},
		3: {true, none, nought, false},
		4: {false, func(int) bool { return true }, nought, false},
		5: {false, func(n int) bool { return n%2 == 0 }, nought, false},
		6: {false, func(n int) bool { return n == 1 }, each, true},
		7: {false, none, func(n uint64) bool { return n < 24 || n > 31 && n < 256 }, true},
		8: {false, none, func(n uint64) bool {
			return !math.IsNaN(math.Float64frombits(n)) || n == 0x7ff8000000000000
		}, true},
	}
}

// wantOne is what is wrong of x itself.
func wantOne(x api.Item) api.Errno {
	row, ok := rows()[x.Kind]
	if !ok || !row.names && !row.n(x.N) || !row.text && x.S != "" || !row.items(len(x.L)) {
		return api.ErrForm
	}
	if row.names && !row.n(x.N) {
		return api.ErrRange
	}
	if x.Kind == 3 && !utf8.ValidString(x.S) {
		return api.ErrUTF8
	}
	if x.Kind == 5 {
		for i := 0; i < len(x.L); i += 2 {
			for j := 0; j < i; j += 2 {
				if spell(x.L[i]) == spell(x.L[j]) {
					return api.ErrTwice
				}
			}
		}
	}
	return api.OK
}

// wantCheck goes by all items, as they are told.
func wantCheck(x api.Item) api.Errno {
	if wantDepth(x) > 64 {
		return api.ErrDepth
	}
	for _, y := range wantAll(x, 1) {
		if err := wantOne(y.x); err != api.OK {
			return err
		}
	}
	return api.OK
}

// check sees to it that Check tells err of x, and that this is what is worked out another way.
func check(t *testing.T, x api.Item, err api.Errno) {
	t.Helper()
	if want := wantCheck(x); want != err {
		t.Fatalf("the test wants %v of %s, but it works out as %v", err, spell(x), want)
	}
	if got := Check(x); got != err {
		t.Errorf("Check of %s: %v, want %v", spell(x), got, err)
	}
}

// checkAll holds what all calls tell of x against what is worked out another way.
func checkAll(t *testing.T, x api.Item) {
	t.Helper()
	text, all := spell(x), wantAll(x, 1)
	if got := Depth(x); got != wantDepth(x) {
		t.Errorf("Depth of %s: %d", text, got)
	}
	if got := Size(x); got != len(all) {
		t.Errorf("Size of %s: %d", text, got)
	}
	if got, want := Check(x), wantCheck(x); got != want {
		t.Errorf("Check of %s: %v, want %v", text, got, want)
	}
	if c := Copy(x); spell(c) != text || !Same(c, x) || !Same(x, c) {
		t.Errorf("Copy of %s: %s", text, spell(c))
	}
	seq := All(x)
	checkTold(t, seq, all)
	checkTold(t, seq, all)
	for n := range all {
		checkBroken(t, seq, all, n+1)
	}
	checkTold(t, seq, all)
	if spell(x) != text {
		t.Errorf("%s was changed to %s", text, spell(x))
	}
}

// checkTold sees to it that seq tells all, and nothing else.
func checkTold(t *testing.T, seq iter.Seq2[int, api.Item], all []told) {
	t.Helper()
	n := 0
	for deep, y := range seq {
		if n == len(all) {
			t.Fatalf("told one too many: %d, %s", deep, spell(y))
		}
		if deep != all[n].deep || spell(y) != spell(all[n].x) {
			t.Fatalf("told at %d: %d, %s, want %d, %s", n, deep, spell(y), all[n].deep, spell(all[n].x))
		}
		n++
	}
	if n != len(all) {
		t.Fatalf("told %d, want %d", n, len(all))
	}
}

// checkBroken breaks off behind n of them; a function that goes on then panics.
func checkBroken(t *testing.T, seq iter.Seq2[int, api.Item], all []told, n int) {
	t.Helper()
	var got []told
	for deep, y := range seq {
		got = append(got, told{deep, y})
		if len(got) == n {
			break
		}
	}
	if len(got) != n {
		t.Fatalf("broken off behind %d: told %d", n, len(got))
	}
	for i, g := range got {
		if g.deep != all[i].deep || spell(g.x) != spell(all[i].x) {
			t.Fatalf("broken off behind %d, at %d: %d, %s", n, i, g.deep, spell(g.x))
		}
	}
}

// good are items that may be, of each kind, alone and within others.
func good() []api.Item {
	return []api.Item{
		{}, uintOf(23), uintOf(math.MaxUint64), {Kind: api.Nint}, {Kind: api.Nint, N: math.MaxUint64},
		bytesOf(""), bytesOf("\xff\x00"), textOf(""), textOf("é"), arrayOf(), mapOf(), tagOf(0, uintOf(0)), tagOf(math.MaxUint64, textOf("a")),
		simpleOf(0), simpleOf(23), simpleOf(32), simpleOf(255), floatOf(0), floatOf(1 << 63), floatOf(0x3ff8000000000000), floatOf(0x7ff8000000000000), floatOf(0x7ff0000000000000), floatOf(0xfff0000000000000),
		arrayOf(uintOf(1), mapOf()), // the chapter's example
		arrayOf(uintOf(1), uintOf(1), uintOf(1)), arrayOf(arrayOf(arrayOf()), arrayOf(), arrayOf(arrayOf(), uintOf(3))),
		mapOf(uintOf(1), uintOf(2)), mapOf(textOf("b"), uintOf(1), textOf("a"), uintOf(2)), mapOf(textOf("k"), uintOf(5), bytesOf("k"), uintOf(5), uintOf(5), textOf("k")),
		mapOf(mapOf(), mapOf(), arrayOf(), mapOf()), mapOf(arrayOf(uintOf(1), uintOf(2)), uintOf(0), arrayOf(uintOf(2), uintOf(1)), uintOf(0)),
		tagOf(1, tagOf(2, tagOf(3, arrayOf(tagOf(4, uintOf(5)), textOf("z"))))),
		manifold(),
		chain(63, uintOf(1)), arrayOf(chain(62, textOf("a")), chain(10, mapOf())),
	}
}

// manifold has items of all kinds, side by side and in one another.
func manifold() api.Item {
	return arrayOf(
		mapOf(uintOf(1), arrayOf(textOf("é"), tagOf(9, mapOf(simpleOf(22), floatOf(1)))), tagOf(1, uintOf(1)), bytesOf("\xff")),
		uintOf(7), arrayOf(arrayOf(uintOf(8))), api.Item{Kind: api.Nint, N: 3},
	)
}

// wrongOne are items that may not be, by themselves, with their errors.
func wrongOne() []struct {
	x   api.Item
	err api.Errno
} {
	one := []api.Item{{}}
	return []struct {
		x   api.Item
		err api.Errno
	}{
		{api.Item{Kind: -1}, api.ErrForm}, {api.Item{Kind: 9}, api.ErrForm}, {api.Item{Kind: math.MinInt}, api.ErrForm}, {api.Item{Kind: math.MaxInt}, api.ErrForm}, {api.Item{Kind: 1 << 32}, api.ErrForm},
		{api.Item{Kind: api.Uint, S: "a"}, api.ErrForm}, {api.Item{Kind: api.Uint, L: one}, api.ErrForm},
		{api.Item{Kind: api.Nint, S: "a"}, api.ErrForm}, {api.Item{Kind: api.Nint, L: one}, api.ErrForm},
		{api.Item{Kind: api.Bytes, N: 1}, api.ErrForm}, {api.Item{Kind: api.Bytes, S: "a", N: 1}, api.ErrForm}, {api.Item{Kind: api.Bytes, L: one}, api.ErrForm},
		{api.Item{Kind: api.Text, N: 1}, api.ErrForm}, {api.Item{Kind: api.Text, S: "a", N: 1}, api.ErrForm}, {api.Item{Kind: api.Text, L: one}, api.ErrForm},
		{api.Item{Kind: api.Array, N: 1}, api.ErrForm}, {api.Item{Kind: api.Array, N: 1, L: one}, api.ErrForm}, {api.Item{Kind: api.Array, S: "a"}, api.ErrForm},
		{api.Item{Kind: api.Map, N: 1}, api.ErrForm}, {api.Item{Kind: api.Map, S: "a"}, api.ErrForm}, {api.Item{Kind: api.Map, N: math.MaxUint64, L: []api.Item{{}, {}}}, api.ErrForm},
		{mapOf(uintOf(1)), api.ErrForm}, {mapOf(uintOf(1), uintOf(2), uintOf(3)), api.ErrForm},
		{api.Item{Kind: api.Tag}, api.ErrForm}, {api.Item{Kind: api.Tag, N: 1, L: []api.Item{}}, api.ErrForm}, {api.Item{Kind: api.Tag, L: []api.Item{{}, {}}}, api.ErrForm}, {api.Item{Kind: api.Tag, S: "a", L: one}, api.ErrForm},
		{api.Item{Kind: api.Simple, S: "a"}, api.ErrForm}, {api.Item{Kind: api.Simple, L: one}, api.ErrForm},
		{api.Item{Kind: api.Float, S: "a"}, api.ErrForm}, {api.Item{Kind: api.Float, L: one}, api.ErrForm},
		{simpleOf(24), api.ErrRange}, {simpleOf(25), api.ErrRange}, {simpleOf(31), api.ErrRange}, {simpleOf(256), api.ErrRange}, {simpleOf(1<<32 + 1), api.ErrRange}, {simpleOf(math.MaxUint64), api.ErrRange},
		{floatOf(0x7ff8000000000001), api.ErrRange}, {floatOf(0xfff8000000000000), api.ErrRange}, {floatOf(0x7ff0000000000001), api.ErrRange}, {floatOf(0x7fffffffffffffff), api.ErrRange}, {floatOf(0xfff0000000000001), api.ErrRange}, {floatOf(math.MaxUint64), api.ErrRange},
		{textOf("\xff"), api.ErrUTF8}, {textOf("é\xc3"), api.ErrUTF8}, {textOf("\xed\xa0\x80"), api.ErrUTF8}, {textOf("\xc0\x80a"), api.ErrUTF8},
		{mapOf(uintOf(1), uintOf(2), uintOf(1), uintOf(3)), api.ErrTwice}, {mapOf(textOf(""), uintOf(2), textOf(""), uintOf(2)), api.ErrTwice},
	}
}

// within puts x into others, at each kind of place, behind and ahead of items that may be.
func within(x api.Item) []api.Item {
	return []api.Item{
		arrayOf(x), arrayOf(x, uintOf(1)), arrayOf(uintOf(1), x), arrayOf(arrayOf(), mapOf(), x, textOf("a")), tagOf(7, x),
		mapOf(x, uintOf(1)), mapOf(uintOf(1), x), mapOf(textOf("q"), arrayOf(), x, uintOf(2)), mapOf(textOf("q"), arrayOf(), textOf("r"), x),
		tagOf(1, arrayOf(mapOf(textOf("q"), tagOf(2, arrayOf(uintOf(1), x))))), mapOf(arrayOf(tagOf(2, x)), mapOf()),
	}
}

func TestExample(t *testing.T) { // P8.1
	x := arrayOf(uintOf(1), mapOf())
	if Depth(x) != 2 || Size(x) != 3 || Check(x) != api.OK {
		t.Error(Depth(x), Size(x), Check(x))
	}
}

func TestItemsThatMayBe(t *testing.T) { // P8.1, P8.2
	for _, x := range good() {
		check(t, x, api.OK)
		checkAll(t, x)
		if Depth(x) > 50 {
			continue
		}
		for _, y := range within(x) {
			check(t, y, api.OK)
			checkAll(t, y)
		}
	}
}

func TestEachErrorAlone(t *testing.T) { // P8.2
	for _, w := range wrongOne() {
		check(t, w.x, w.err)
		checkAll(t, w.x)
		for _, y := range within(w.x) {
			check(t, y, w.err)
			checkAll(t, y)
		}
	}
}

func TestTheFirstItemsError(t *testing.T) { // P8.2, R2
	wrongs := wrongOne()
	for _, a := range wrongs {
		for _, b := range wrongs {
			check(t, arrayOf(a.x, b.x), a.err)
			check(t, arrayOf(uintOf(1), a.x, uintOf(2), b.x), a.err)
			check(t, arrayOf(arrayOf(uintOf(1), tagOf(1, a.x)), b.x), a.err)
			check(t, mapOf(uintOf(1), a.x, b.x, uintOf(2)), a.err)
			check(t, mapOf(a.x, b.x), a.err)
			check(t, mapOf(textOf("q"), mapOf(uintOf(3), a.x), uintOf(9), b.x), a.err)
		}
		for _, kind := range []int{-1, 9, api.Uint, api.Bytes, api.Text, api.Simple, api.Float} {
			check(t, api.Item{Kind: kind, L: []api.Item{a.x}}, api.ErrForm) // it comes ahead of those in it
		}
		check(t, api.Item{Kind: api.Array, N: 1, L: []api.Item{a.x}}, api.ErrForm)
		check(t, api.Item{Kind: api.Map, L: []api.Item{a.x}}, api.ErrForm)
		check(t, api.Item{Kind: api.Tag, L: []api.Item{a.x, a.x}}, api.ErrForm)
		check(t, mapOf(a.x, uintOf(1), a.x, uintOf(2)), api.ErrTwice)              // keys that may not be are alike, too
		check(t, mapOf(uintOf(1), a.x, uintOf(1), a.x), api.ErrTwice)              // and a map comes ahead of what is in it
		check(t, arrayOf(a.x, mapOf(uintOf(1), a.x, uintOf(1), uintOf(2))), a.err) // but behind what is ahead of it
	}
}

func TestTheFirstErrorWithinOne(t *testing.T) { // P8.2, R2
	one := []api.Item{{}}
	alike := []api.Item{{}, {}, {}, {N: 1}}
	for _, x := range []api.Item{
		{Kind: api.Simple, N: 24, S: "a"}, {Kind: api.Simple, N: 256, L: one}, {Kind: api.Float, N: math.MaxUint64, S: "a"}, {Kind: api.Float, N: math.MaxUint64, L: one},
		{Kind: api.Text, N: 1, S: "\xff"}, {Kind: api.Text, S: "\xff", L: one}, {Kind: 9, N: 24, S: "\xff", L: alike}, {Kind: -1, S: "\xff"},
		{Kind: api.Map, N: 1, L: alike}, {Kind: api.Map, S: "a", L: alike}, {Kind: api.Map, S: "\xff", L: alike}, {Kind: api.Map, L: append(slices.Clone(alike), api.Item{})},
	} {
		check(t, x, api.ErrForm)
	}
}

func TestEveryFieldOfEveryKind(t *testing.T) { // P8.1, P8.2, R1
	lists := [][]api.Item{
		nil, {}, {{}}, {{}, {}}, {{}, {}, {}}, {{}, {}, {}, {}}, {{}, {}, {N: 1}, {}}, {{}, {N: 1}, {N: 1}, {}}, {{Kind: 9}}, {textOf("\xff"), {}},
	}
	for _, kind := range kinds {
		for _, n := range numbers {
			for _, s := range texts {
				for _, l := range lists {
					x := api.Item{Kind: kind, N: n, S: s, L: l}
					if got, want := Check(x), wantCheck(x); got != want {
						t.Fatalf("Check of %s: %v, want %v", spell(x), got, want)
					}
					if Depth(x) != min(len(l), 1)+1 || Size(x) != len(l)+1 || spell(Copy(x)) != spell(x) {
						t.Fatalf("%s: %d, %d, %s", spell(x), Depth(x), Size(x), spell(Copy(x)))
					}
				}
			}
		}
	}
}

func TestSimpleValues(t *testing.T) { // P8.2
	for n := range uint64(1 << 10) {
		want := api.ErrRange
		if n <= 23 || n >= 32 && n <= 255 {
			want = api.OK
		}
		check(t, simpleOf(n), want)
		check(t, mapOf(textOf("a"), simpleOf(n)), want)
		check(t, simpleOf(n<<32|1<<63), api.ErrRange)
	}
}

func TestFloats(t *testing.T) { // P8.2
	for i := range 1 << 12 { // each sign and exponent
		top := uint64(i) << 52
		for _, fraction := range []uint64{0, 1, 1 << 50, 1 << 51, 1<<51 + 1, 1<<52 - 1} {
			want := api.OK
			if i&0x7ff == 0x7ff && fraction != 0 && top|fraction != 0x7ff8000000000000 {
				want = api.ErrRange
			}
			check(t, floatOf(top|fraction), want)
		}
	}
}

func TestTextsAndBytes(t *testing.T) { // P8.2
	for c := range 256 {
		for _, s := range []string{string([]byte{byte(c)}), "a" + string([]byte{byte(c)}), "\xc3" + string([]byte{byte(c)}), "\xe2\x82" + string([]byte{byte(c)}) + "z"} {
			check(t, bytesOf(s), api.OK)
			want := api.ErrUTF8
			if utf8.ValidString(s) {
				want = api.OK
			}
			check(t, textOf(s), want)
			check(t, mapOf(bytesOf(s), arrayOf(textOf(s))), want)
		}
	}
}

func TestDepthOfCheck(t *testing.T) { // P8.2
	for deep := range 200 {
		want := api.OK
		if deep+1 > 64 {
			want = api.ErrDepth
		}
		for _, x := range []api.Item{uintOf(1), arrayOf()} {
			check(t, chain(deep, x), want)
			if deep > 0 {
				check(t, arrayOf(uintOf(1), chain(deep-1, x)), want)
			}
		}
		x := uintOf(0)
		for i := range deep { // by all kinds that have items
			x = []api.Item{tagOf(1, x), mapOf(textOf("a"), x), mapOf(x, textOf("a")), arrayOf(textOf("a"), x)}[i%4]
		}
		check(t, x, want)
	}
}

func TestDepthAheadOfAll(t *testing.T) { // P8.2, R2
	deep := chain(64, uintOf(1))
	for _, w := range wrongOne() {
		check(t, arrayOf(w.x, deep), api.ErrDepth)
		check(t, arrayOf(deep, w.x), api.ErrDepth)
		check(t, mapOf(w.x, uintOf(1), w.x, deep), api.ErrDepth)
		check(t, chain(64, w.x), api.ErrDepth)
		check(t, arrayOf(w.x, chain(62, uintOf(1))), w.err)
	}
	for _, kind := range kinds { // items count where they can't be, too
		check(t, api.Item{Kind: kind, N: 1, S: "\xff", L: []api.Item{chain(63, uintOf(1))}}, api.ErrDepth)
		check(t, chain(63, api.Item{Kind: kind, L: []api.Item{{}}}), api.ErrDepth)
		check(t, chain(63, api.Item{Kind: kind, S: "\xff", N: 1, L: []api.Item{}}), api.ErrForm)
	}
}

func TestKeysThatAreAlike(t *testing.T) { // P8.2
	keys := []api.Item{
		uintOf(0), uintOf(1), {Kind: api.Nint}, {Kind: api.Nint, N: 1}, bytesOf(""), bytesOf("a"), textOf(""), textOf("a"), textOf("aa"), textOf("b"),
		arrayOf(), arrayOf(uintOf(0)), arrayOf(uintOf(1)), arrayOf(uintOf(0), uintOf(1)), arrayOf(uintOf(1), uintOf(0)), arrayOf(arrayOf()), arrayOf(arrayOf(), arrayOf()), arrayOf(arrayOf(arrayOf())),
		mapOf(), mapOf(uintOf(0), uintOf(1)), mapOf(uintOf(0), uintOf(2)), mapOf(uintOf(0), uintOf(1), uintOf(2), uintOf(3)), mapOf(uintOf(2), uintOf(3), uintOf(0), uintOf(1)),
		tagOf(0, uintOf(0)), tagOf(1, uintOf(0)), tagOf(0, uintOf(1)), tagOf(0, arrayOf(uintOf(0))), simpleOf(0), simpleOf(1), floatOf(0), floatOf(1), floatOf(1 << 63), floatOf(0x7ff8000000000000),
		arrayOf(arrayOf(uintOf(1)), uintOf(2)), arrayOf(uintOf(2), arrayOf(uintOf(1))), arrayOf(arrayOf(uintOf(1), uintOf(2))), arrayOf(arrayOf(uintOf(1)), arrayOf(uintOf(2))), arrayOf(arrayOf(uintOf(2)), arrayOf(uintOf(1))),
	}
	var whole []api.Item
	for i, k := range keys {
		whole = append(whole, k, keys[(i+1)%len(keys)])
	}
	check(t, mapOf(whole...), api.OK)
	slices.Reverse(whole) // values are the keys now
	check(t, mapOf(whole...), api.OK)
	for i, k := range keys {
		for j, other := range keys {
			want := api.OK
			if i == j {
				want = api.ErrTwice
			}
			check(t, mapOf(k, uintOf(1), Copy(other), uintOf(1)), want)
			check(t, mapOf(k, other, bytesOf("between"), other, arrayOf(bytesOf("between")), k, Copy(other), k), want)
		}
		for at := 0; at <= len(whole); at += 2 {
			more := slices.Insert(slices.Clone(whole), at, Copy(k), uintOf(1))
			check(t, mapOf(more...), api.ErrTwice)
			if at%14 == 0 {
				check(t, mapOf(uintOf(5), arrayOf(tagOf(1, mapOf(more...)))), api.ErrTwice)
			}
		}
	}
}

func TestKeysAlikeWithNilLists(t *testing.T) { // P8.2, R3
	check(t, mapOf(api.Item{Kind: api.Array}, uintOf(1), api.Item{Kind: api.Array, L: []api.Item{}}, uintOf(2)), api.ErrTwice)
	check(t, mapOf(api.Item{Kind: api.Uint, L: []api.Item{}}, uintOf(1), textOf("a"), uintOf(3), api.Item{}, uintOf(2)), api.ErrTwice)
}

func TestManyKeys(t *testing.T) { // P8.2
	const n = 1 << 17
	var pairs []api.Item
	for i := range uint64(n) {
		pairs = append(pairs, arrayOf(uintOf(i*7919%n)), uintOf(0))
	}
	if err := Check(mapOf(pairs...)); err != api.OK {
		t.Error(err)
	}
	pairs[n/2*2] = Copy(pairs[2*n-2])
	if err := Check(mapOf(pairs...)); err != api.ErrTwice {
		t.Error(err)
	}
}

func TestSameOfOneField(t *testing.T) { // P8.1
	base := []api.Item{
		{Kind: 3, N: 5, S: "abc", L: []api.Item{{N: 1}, {N: 2}}}, {}, arrayOf(uintOf(1)), mapOf(textOf("k"), arrayOf(uintOf(1), uintOf(2))), {Kind: -4, S: "\xff"},
	}
	for _, x := range base {
		for _, y := range others(x) {
			differ(t, x, y)
			for i, a := range within(x) {
				differ(t, a, within(y)[i])
			}
			differ(t, chain(1000, x), chain(1000, y))
		}
		if !Same(x, Copy(x)) || !Same(chain(1000, x), chain(1000, x)) {
			t.Errorf("%s isn't the same as itself", spell(x))
		}
	}
}

// others differ from x in one field alone.
func others(x api.Item) []api.Item {
	var all []api.Item
	with := func(change func(y *api.Item)) {
		y := Copy(x)
		change(&y)
		all = append(all, y)
	}
	for _, d := range []int{1, -1, 1 << 32, -1 << 63} {
		with(func(y *api.Item) { y.Kind += d })
	}
	for _, d := range []uint64{1, 1 << 32, 1 << 63} {
		with(func(y *api.Item) { y.N ^= d })
	}
	for _, s := range []string{"", "a", "abd", "Abc", "abcd", "ab", "\xfe", "\xff\x00"} {
		if s != x.S {
			with(func(y *api.Item) { y.S = s })
		}
	}
	with(func(y *api.Item) { y.L = append(y.L, api.Item{}) })
	with(func(y *api.Item) { y.L = append(y.L, uintOf(1), uintOf(2)) })
	if n := len(x.L); n > 0 {
		with(func(y *api.Item) { y.L = y.L[:n-1] })
		with(func(y *api.Item) { y.L = y.L[1:] })
		with(func(y *api.Item) { y.L = nil })
		with(func(y *api.Item) { y.L[n-1].N++ })
		with(func(y *api.Item) { y.L[n-1].S += "z" })
		with(func(y *api.Item) { y.L[0].Kind++ })
		with(func(y *api.Item) { y.L[0].L = append(y.L[0].L, api.Item{}) })
	}
	if len(x.L) == 2 {
		with(func(y *api.Item) { slices.Reverse(y.L) })
	}
	return all
}

// differ sees to it that a and b aren't the same, but each is the same as itself.
func differ(t *testing.T, a, b api.Item) {
	t.Helper()
	if Same(a, b) || Same(b, a) {
		t.Errorf("the same: %s, %s", spell(a), spell(b))
	}
	if !Same(a, a) || !Same(b, b) {
		t.Errorf("not the same as themselves: %s, %s", spell(a), spell(b))
	}
}

func TestSameOfAll(t *testing.T) { // P8.1
	all := good()
	for _, w := range wrongOne() {
		all = append(all, w.x)
	}
	for _, x := range good()[:20] {
		all = append(all, within(x)...)
	}
	for _, a := range all {
		for _, b := range all {
			if Same(a, b) != (spell(a) == spell(b)) {
				t.Fatalf("Same of %s, %s: %v", spell(a), spell(b), Same(a, b))
			}
		}
	}
}

func TestSameHangsOnTheShape(t *testing.T) { // P8.1: so many items, in the same order, but others in others
	u := uintOf(1)
	all := []api.Item{
		arrayOf(arrayOf(u), arrayOf(u)), arrayOf(arrayOf(u, arrayOf(u))), arrayOf(arrayOf(u), u, arrayOf()), arrayOf(arrayOf(), u, arrayOf(u)), arrayOf(arrayOf(u, u), arrayOf()), arrayOf(arrayOf(), arrayOf(u, u)),
		arrayOf(arrayOf(arrayOf(u), u)), arrayOf(u, arrayOf(arrayOf(u))), arrayOf(arrayOf(arrayOf(u)), u),
	}
	for i, a := range all {
		for j, b := range all {
			if Same(a, b) != (i == j) || Same(chain(3, a), chain(3, b)) != (i == j) {
				t.Errorf("Same of %s, %s", spell(a), spell(b))
			}
		}
	}
}

func TestNilListsAndListsWithoutElements(t *testing.T) { // P8.1, P8.2, R3
	for _, kind := range kinds {
		a, b := api.Item{Kind: kind, N: 1}, api.Item{Kind: kind, N: 1, L: []api.Item{}}
		c := api.Item{Kind: kind, N: 1, L: make([]api.Item, 3)[:0]}
		for _, x := range []api.Item{a, b, c} {
			if !Same(a, x) || !Same(x, a) || !Same(arrayOf(uintOf(1), a), arrayOf(uintOf(1), x)) || Check(x) != Check(a) || Depth(x) != 1 || Size(x) != 1 || len(Copy(x).L) != 0 {
				t.Errorf("kind %d: lists without elements differ", kind)
			}
			if Same(x, api.Item{Kind: kind, N: 1, L: []api.Item{{}}}) {
				t.Errorf("kind %d: a list with an element is one without", kind)
			}
			checkAll(t, x)
			checkAll(t, arrayOf(x, tagOf(1, x)))
		}
	}
}

func TestDepthAndSize(t *testing.T) { // P8.1
	for _, c := range []struct {
		x           api.Item
		depth, size int
	}{
		{api.Item{}, 1, 1}, {api.Item{Kind: 77, S: "\xff"}, 1, 1}, {arrayOf(), 1, 1}, {arrayOf(uintOf(1)), 2, 2}, {arrayOf(uintOf(1), uintOf(2), uintOf(3)), 2, 4},
		{arrayOf(arrayOf(), arrayOf(arrayOf()), uintOf(1)), 3, 5}, {arrayOf(arrayOf(arrayOf(arrayOf())), arrayOf(arrayOf()), arrayOf()), 4, 7}, {arrayOf(arrayOf(), arrayOf(arrayOf(), arrayOf(arrayOf()))), 4, 6},
		{mapOf(arrayOf(uintOf(1)), uintOf(2), uintOf(3), uintOf(4)), 3, 6}, {tagOf(1, tagOf(2, uintOf(3))), 3, 3},
		{api.Item{Kind: api.Uint, L: []api.Item{{Kind: -1, L: []api.Item{{}, {}}}}}, 3, 4}, {chain(99, uintOf(1)), 100, 100},
	} {
		if Depth(c.x) != c.depth || Size(c.x) != c.size {
			t.Errorf("%s: %d, %d, want %d, %d", spell(c.x), Depth(c.x), Size(c.x), c.depth, c.size)
		}
		if Depth(arrayOf(c.x, c.x)) != c.depth+1 || Size(arrayOf(c.x, c.x)) != 2*c.size+1 {
			t.Errorf("%s, side by side: %d, %d", spell(c.x), Depth(arrayOf(c.x, c.x)), Size(arrayOf(c.x, c.x)))
		}
	}
}

// cases are items of all sorts, with a second one of the same in memory of its own.
func cases() []func() api.Item {
	var all []func() api.Item
	for i := range good() {
		all = append(all, func() api.Item { return good()[i] })
	}
	for i := range wrongOne() {
		all = append(all, func() api.Item { return arrayOf(uintOf(1), wrongOne()[i].x, arrayOf(arrayOf(textOf("z")))) })
	}
	return all
}

// lists are those of x, and of all items in it.
func lists(x api.Item) [][]api.Item {
	all := [][]api.Item{x.L}
	for _, y := range x.L {
		all = append(all, lists(y)...)
	}
	return all
}

// spoil is what a list's element is written over with.
var spoil = api.Item{Kind: 99, N: 99, S: "spoilt", L: []api.Item{{}}}

func TestCopyStands(t *testing.T) { // P8.1, R4
	for _, fresh := range cases() {
		text := spell(fresh())
		for i, l := range lists(fresh()) {
			for j := range l {
				x := fresh()
				c := Copy(x)
				lists(x)[i][j] = spoil
				if spell(c) != text {
					t.Fatalf("a copy of %s: %s, when what was copied is written over", text, spell(c))
				}
				x = fresh()
				c = Copy(x)
				lists(c)[i][j] = spoil
				if spell(x) != text {
					t.Fatalf("%s: %s, when its copy is written over", text, spell(x))
				}
			}
			x := fresh()
			c := Copy(x)
			_ = append(lists(c)[i], spoil, spoil)
			_ = append(lists(x)[i], spoil, spoil)
			if spell(c) != text || spell(x) != text {
				t.Fatalf("%s: %s, its copy %s, when more is appended", text, spell(x), spell(c))
			}
		}
	}
}

func TestCopysListsStandApart(t *testing.T) { // P8.1, R4: though those that are copied are one and the same
	one := []api.Item{{N: 1}, {N: 2}}
	x := arrayOf(api.Item{Kind: api.Array, L: one}, api.Item{Kind: api.Map, L: one}, api.Item{Kind: api.Array, L: one[:1]})
	c := Copy(x)
	c.L[0].L[0] = spoil
	if one[0].N != 1 || c.L[1].L[0].N != 1 || c.L[2].L[0].N != 1 || x.L[0].L[0].N != 1 {
		t.Error(spell(c), spell(x))
	}
}

func TestNothingBehindALengthIsTouched(t *testing.T) { // R4
	back := []api.Item{{Kind: api.Array}, {N: 2}, {N: 3}, {N: 4}}
	inner := []api.Item{{N: 5}, {N: 6}}
	back[0].L = inner[:1]
	empty := inner[1:1]
	x := mapOf(api.Item{Kind: api.Array, L: back[:2]}, api.Item{Kind: api.Array, L: empty})
	text := spell(x)
	checkAll(t, x)
	c := Copy(x)
	_ = append(c.L[0].L, spoil)
	_ = append(c.L[0].L[0].L, spoil)
	_ = append(c.L[1].L, spoil)
	for _, y := range All(x) {
		for _, l := range lists(y) {
			_ = append(l, spoil)
		}
	}
	if back[2].N != 3 || back[3].N != 4 || inner[1].N != 6 || spell(x) != text || Depth(x) != 4 || Size(x) != 6 {
		t.Error(spell(x), spell(arrayOf(back...)), spell(arrayOf(inner...)))
	}
}

func TestAllTellsWhatWasHandedIn(t *testing.T) { // P8.1, R4
	for _, fresh := range cases() {
		for i, l := range lists(fresh()) {
			for j := range l {
				x := fresh()
				all := wantAll(fresh(), 1)
				seq := All(x)
				lists(x)[i][j] = spoil // ahead of the first range
				checkTold(t, seq, all)
				x = fresh()
				seq = All(x)
				for range seq {
					lists(x)[i][j] = spoil // within it
				}
				checkTold(t, seq, all)
			}
		}
	}
}

func TestWhatAllTellsMayBeWrittenOver(t *testing.T) { // P8.1, R4
	for _, fresh := range cases() {
		x, all := fresh(), wantAll(fresh(), 1)
		seq := All(x)
		for range 2 {
			n := 0
			var kept []api.Item
			for _, y := range seq {
				if spell(y) != spell(all[n].x) {
					t.Fatalf("told at %d: %s, want %s", n, spell(y), spell(all[n].x))
				}
				for _, l := range lists(y) {
					for i := range l {
						l[i].N, l[i].S, l[i].Kind = 77, "spoilt", 77 // their lists stand, so that all are reached
					}
				}
				kept = append(kept, y)
				n++
			}
			if n != len(all) || spell(x) != spell(fresh()) {
				t.Fatalf("%d were told; %s", n, spell(x))
			}
			for i, y := range kept { // nor do those told later write over what was told ahead of them
				for _, l := range lists(y) {
					for _, z := range l {
						if z.N != 77 || z.S != "spoilt" || z.Kind != 77 {
							t.Fatalf("told at %d, written over, and behind it: %s", i, spell(y))
						}
					}
				}
			}
		}
	}
}

func TestAllWithinAll(t *testing.T) { // P8.1
	x := manifold()
	all := wantAll(x, 1)
	seq, n := All(x), 0
	for deep, y := range seq {
		checkTold(t, seq, all)
		checkTold(t, All(y), wantAll(y, 1))
		if deep != all[n].deep || spell(y) != spell(all[n].x) {
			t.Fatalf("told at %d: %d, %s", n, deep, spell(y))
		}
		n++
	}
	if n != len(all) || n != 17 {
		t.Fatal(n)
	}
}

func TestAllCallsNoMoreWhenBrokenOff(t *testing.T) { // P8.1
	for _, fresh := range cases() {
		seq, all := All(fresh()), wantAll(fresh(), 1)
		for n := range len(all) + 1 {
			calls := 0
			seq(func(int, api.Item) bool {
				calls++
				return calls <= n
			})
			if calls != min(n+1, len(all)) {
				t.Fatalf("%s, broken off behind %d: %d calls", spell(fresh()), n+1, calls)
			}
		}
	}
}

func TestAllOfDepthAndItems(t *testing.T) { // P8.1
	x := arrayOf(arrayOf(uintOf(1), arrayOf()), uintOf(2), mapOf(uintOf(3), tagOf(4, uintOf(5))), uintOf(6))
	var depths []int
	var order []byte
	for deep, y := range All(x) {
		depths = append(depths, deep)
		order = strconv.AppendUint(append(order, " UNBTAMGSF"[y.Kind+1]), y.N, 10)
	}
	if !slices.Equal(depths, []int{1, 2, 3, 3, 2, 2, 3, 3, 4, 2}) || !bytes.Equal(order, []byte("A0A0U1A0U2M0U3G4U5U6")) {
		t.Error(depths, string(order))
	}
}

func TestVeryDeep(t *testing.T) { // P1, P8.1, P8.2
	for _, n := range []int{1 << 16, 1 << 17, 1<<20 - 1} {
		x, y := chain(n, uintOf(1)), chain(n, uintOf(2))
		if Depth(x) != n+1 || Size(x) != n+1 || Check(x) != api.ErrDepth {
			t.Errorf("%d: %d, %d, %v", n, Depth(x), Size(x), Check(x))
		}
		c := Copy(x)
		if !Same(c, x) || Same(x, y) || Same(x, x.L[0]) || Depth(c) != n+1 || &c.L[0] == &x.L[0] {
			t.Errorf("%d: Same, or Copy", n)
		}
		told := 0
		for deep, z := range All(x) {
			told++
			if deep != told || len(z.L) != min(n+1-told, 1) {
				t.Fatalf("%d: at %d: %d, %d items", n, told, deep, len(z.L))
			}
		}
		if told != n+1 {
			t.Errorf("%d: told %d", n, told)
		}
		if err := Check(mapOf(x, uintOf(1), y, uintOf(1), x, uintOf(2))); err != api.ErrDepth {
			t.Errorf("%d: as keys: %v", n, err)
		}
	}
}

func TestVeryMany(t *testing.T) { // P1, P8.1, P8.2
	const n = 1<<20 - 1
	l := make([]api.Item, n)
	for i := range l {
		l[i].N = uint64(i)
	}
	x := arrayOf(l...)
	told := 0
	for deep, y := range All(x) {
		if told > 0 && (deep != 2 || y.N != uint64(told-1)) {
			t.Fatalf("at %d: %d, %s", told, deep, spell(y))
		}
		told++
	}
	if Depth(x) != 2 || Size(x) != n+1 || Check(x) != api.OK || told != n+1 || !Same(x, Copy(x)) {
		t.Error(Depth(x), Size(x), Check(x), told)
	}
	c := Copy(x)
	c.L[n-1].N = 0
	if Same(c, x) || Same(x, c) {
		t.Error("the last one of many")
	}
}

func TestOneAnswer(t *testing.T) { // R6
	for _, fresh := range cases() {
		x := fresh()
		for range 3 {
			if Check(x) != Check(fresh()) || Depth(x) != Depth(fresh()) || Size(x) != Size(fresh()) || !Same(x, fresh()) || spell(Copy(x)) != spell(fresh()) || All(x) == nil {
				t.Fatalf("of %s", spell(x))
			}
		}
	}
}
