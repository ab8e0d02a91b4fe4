package limit

import (
	"encoding/hex"
	"math"
	"math/rand"
	"slices"
	"strconv"
	"strings"
	"testing"

	"ullage/api"
	"ullage/enc"
	"ullage/item"
)

func uintOf(n uint64) api.Item            { return api.Item{Kind: api.Uint, N: n} }
func nintOf(n uint64) api.Item            { return api.Item{Kind: api.Nint, N: n} }
func bytesOf(s string) api.Item           { return api.Item{Kind: api.Bytes, S: s} }
func textOf(s string) api.Item            { return api.Item{Kind: api.Text, S: s} }
func arrayOf(l ...api.Item) api.Item      { return api.Item{Kind: api.Array, L: l} }
func mapOf(l ...api.Item) api.Item        { return api.Item{Kind: api.Map, L: l} }
func tagOf(n uint64, x api.Item) api.Item { return api.Item{Kind: api.Tag, N: n, L: []api.Item{x}} }
func simpleOf(n uint64) api.Item          { return api.Item{Kind: api.Simple, N: n} }
func floatOf(v float64) api.Item          { return api.Item{Kind: api.Float, N: math.Float64bits(v)} }

func limits(depth, key, size int) api.Limits {
	return api.Limits{Depth: depth, Key: key, Size: size}
}

// The greatest limits, written out.
var greatest = limits(64, 1024, 2305843009213693951)

// chain is an item in so many others, each the only one of the one about it.
func chain(about int, x api.Item) api.Item {
	for range about {
		x = arrayOf(x)
	}
	return x
}

// spell is a text that is the same just for items that are the same.
func spell(x api.Item) string {
	var s strings.Builder
	spellTo(&s, x)
	return s.String()
}

func spellTo(s *strings.Builder, x api.Item) {
	s.WriteString("(" + strconv.Itoa(x.Kind) + " " + strconv.FormatUint(x.N, 16) + " " + strconv.Quote(x.S))
	for _, y := range x.L {
		spellTo(s, y)
	}
	s.WriteString(")")
}

// short is what an item is called, where its spelling would be long.
func short(x api.Item) string {
	s := spell(x)
	return s[:min(len(s), 300)]
}

// measure reads the item that b begins with, in its one encoding, and tells how many bytes it has, how deep it is, and how many bytes the longest key has, of all maps in it at all levels.
func measure(b []byte) (size, depth, key int) {
	major, info, arg := int(b[0]>>5), b[0]&31, int(b[0]&31)
	size, depth = 1, 1
	if info > 23 {
		width := 1 << (info - 24)
		arg = 0
		for _, c := range b[1 : 1+width] {
			arg = arg<<8 + int(c)
		}
		size += width
	}
	items := 0
	switch major {
	case 2, 3:
		size += arg
	case 4:
		items = arg
	case 5:
		items = 2 * arg
	case 6:
		items = 1
	}
	for i := range items {
		s, d, k := measure(b[size:])
		size, depth, key = size+s, max(depth, d+1), max(key, k)
		if major == 5 && i%2 == 0 {
			key = max(key, s)
		}
	}
	return size, depth, key
}

// checkKey holds Key, Fits and Needed of an item that may be against what its encoding says, and tells how many bytes the longest key has.
func checkKey(t *testing.T, x api.Item) int {
	t.Helper()
	text := spell(x)
	b, err := enc.Encode(x)
	if err != api.OK {
		t.Fatalf("the test's item may not be: %s: %v", short(x), err)
	}
	size, depth, key := measure(b)
	if size != len(b) {
		t.Fatalf("the test reads %d bytes of %d", size, len(b))
	}
	if got := Key(x); got != key {
		t.Fatalf("Key of %s: %d, want %d", short(x), got, key)
	}
	wanted, fits := limits(depth, max(key, 1), size), key <= 1024
	if !fits {
		wanted = api.Limits{}
	}
	if n, ok := Needed(x); n != wanted || ok != fits {
		t.Fatalf("Needed of %s: %v, %v, want %v, %v", short(x), n, ok, wanted, fits)
	}
	for _, l := range about(depth, key, size) {
		wanted := wantFits(l, depth, key, size)
		if got := Fits(x, l); got != wanted {
			t.Fatalf("Fits of %s, %v: %v, want %v", short(x), l, got, wanted)
		}
	}
	if spell(x) != text {
		t.Fatalf("%s was changed to %s", text[:min(len(text), 300)], short(x))
	}
	return key
}

// about are limits of which each is less than, just, or more than what is needed, or can't be.
func about(depth, key, size int) []api.Limits {
	var all []api.Limits
	for _, d := range []int{depth - 1, depth, depth + 1, 64} {
		for _, k := range []int{key - 1, key, key + 1, 1024} {
			for _, s := range []int{size - 1, size, size + 1, 1<<61 - 1} {
				all = append(all, limits(d, k, s))
			}
		}
	}
	return append(all, limits(1, 1, 1), limits(64, 1024, 1), limits(1, 1, size), limits(1, 1024, size), limits(depth, 1, size), limits(65, 1025, 1<<61), limits(0, 0, 0), limits(-depth, -key, -size))
}

// wantFits is what Fits tells of an item that may be and needs so much.
func wantFits(l api.Limits, depth, key, size int) api.Errno {
	if l.Depth <= 0 || l.Depth > 64 || l.Key <= 0 || l.Key > 1024 || l.Size <= 0 || l.Size >= 1<<61 {
		return api.ErrRange
	}
	if l.Size < size {
		return api.ErrSize
	}
	if l.Depth < depth {
		return api.ErrDepth
	}
	if l.Key < key {
		return api.ErrKeyLength
	}
	return api.OK
}

// checkWrong sees to it that x may not be, by that error.
func checkWrong(t *testing.T, x api.Item, wanted api.Errno) {
	t.Helper()
	copied := item.Copy(x)
	if got := item.Check(x); got != wanted {
		t.Fatalf("the test wants %v, but item.Check tells %v", wanted, got)
	}
	if n := Key(x); n != 0 {
		t.Fatalf("Key of an item that may not be (%v): %d", wanted, n)
	}
	if n, ok := Needed(x); n != (api.Limits{}) || ok {
		t.Fatalf("Needed of an item that may not be (%v): %v, %v", wanted, n, ok)
	}
	for _, l := range []api.Limits{greatest, limits(1, 1, 1), limits(64, 1, 1), limits(1, 1024, 1), limits(1, 1, greatest.Size)} {
		if got := Fits(x, l); got != wanted {
			t.Fatalf("Fits of an item that may not be, %v: %v, want %v", l, got, wanted)
		}
	}
	for _, l := range []api.Limits{{}, limits(65, 1, 1), limits(1, 1025, 1), limits(1, 1, 1<<61), limits(0, 1, 1), limits(1, 0, 1), limits(1, 1, 0), limits(-1, -1, -1), limits(math.MaxInt, math.MinInt, math.MaxInt)} {
		if got := Fits(x, l); got != api.ErrRange {
			t.Fatalf("Fits of an item that may not be (%v), %v: %v", wanted, l, got)
		}
	}
	if !item.Same(x, copied) {
		t.Fatalf("an item that may not be (%v) was changed", wanted)
	}
}

// withins puts x into others, at each kind of place, behind and ahead of items that may be.
func withins(x api.Item) []api.Item {
	return []api.Item{
		arrayOf(x), arrayOf(x, uintOf(1)), arrayOf(uintOf(1), x), arrayOf(arrayOf(), mapOf(), x, textOf("a")), tagOf(7, x),
		mapOf(x, uintOf(1)), mapOf(uintOf(7001), x), mapOf(textOf("q"), arrayOf(), textOf("p"), x), mapOf(textOf("qqq"), arrayOf(), arrayOf(x), uintOf(2), textOf("r"), uintOf(3)),
		tagOf(1, arrayOf(mapOf(textOf("q"), tagOf(2, arrayOf(uintOf(1), x)), textOf("p"), mapOf()))), mapOf(mapOf(tagOf(2, x), textOf("b"), textOf("another"), x), mapOf(uintOf(7002), x, uintOf(7001), x)),
	}
}

// good are items that may be, of each kind.
func good() []api.Item {
	return []api.Item{
		{}, uintOf(23), uintOf(24), uintOf(math.MaxUint64), nintOf(0), nintOf(255), nintOf(256), nintOf(math.MaxUint64),
		bytesOf(""), bytesOf("\xff\x00"), bytesOf(strings.Repeat("\xff", 24)), textOf(""), textOf("é"), textOf(strings.Repeat("é", 200)),
		arrayOf(), arrayOf(uintOf(1), uintOf(1), uintOf(0)), arrayOf(textOf("b"), textOf("a")), mapOf(), mapOf(uintOf(1), uintOf(2)), tagOf(0, uintOf(0)), tagOf(1<<32, textOf("a")),
		simpleOf(0), simpleOf(23), simpleOf(32), simpleOf(255), floatOf(0), floatOf(1.5), floatOf(1e10), floatOf(0.1), floatOf(math.Inf(1)), {Kind: api.Float, N: 0x7ff8000000000000},
		mapOf(textOf("b"), uintOf(1), textOf("a"), uintOf(2)), mapOf(floatOf(1), uintOf(0), uintOf(1), uintOf(0)), arrayOf(slices.Repeat([]api.Item{uintOf(24)}, 24)...), manifold(),
	}
}

// manifold has maps at every level, none of them sorted.
func manifold() api.Item {
	return mapOf(
		textOf("z"), arrayOf(mapOf(uintOf(9), mapOf(), uintOf(8), arrayOf()), mapOf(nintOf(1), floatOf(0.5), nintOf(0), textOf("é"))),
		mapOf(arrayOf(uintOf(2), uintOf(1)), uintOf(7), uintOf(300), tagOf(5, mapOf(textOf("b"), uintOf(0), bytesOf("b"), uintOf(0)))), mapOf(simpleOf(21), uintOf(1), simpleOf(20), mapOf(uintOf(25), uintOf(1), uintOf(24), uintOf(1))),
		uintOf(1000), tagOf(24, bytesOf("\x82\x01\x02")),
	)
}

// edges are numbers at the bounds of each limit and at both ends of their type, and of which limits they are right.
var edges = []struct {
	n                int
	depth, key, size bool
}{
	{math.MinInt, false, false, false}, {math.MinInt + 1, false, false, false}, {-1 << 61, false, false, false}, {-1 << 32, false, false, false}, {-1024, false, false, false}, {-64, false, false, false}, {-1, false, false, false}, {0, false, false, false},
	{1, true, true, true}, {2, true, true, true}, {63, true, true, true}, {64, true, true, true}, {65, false, true, true}, {66, false, true, true}, {128, false, true, true},
	{1023, false, true, true}, {1024, false, true, true}, {1025, false, false, true}, {1026, false, false, true}, {2048, false, false, true}, {1 << 31, false, false, true}, {1 << 32, false, false, true}, {1<<32 + 1, false, false, true},
	{1<<61 - 2, false, false, true}, {1<<61 - 1, false, false, true}, {1 << 61, false, false, false}, {1<<61 + 1, false, false, false}, {1 << 62, false, false, false}, {math.MaxInt - 1, false, false, false}, {math.MaxInt, false, false, false},
}

func TestCheck(t *testing.T) { // P11.1: each limit alone and together with others that are right, and that aren't
	for _, d := range edges {
		for _, k := range edges {
			for _, s := range edges {
				l, wanted := limits(d.n, k.n, s.n), api.ErrRange
				if d.depth && k.key && s.size {
					wanted = api.OK
				}
				if got := Check(l); got != wanted {
					t.Fatalf("Check of %v: %v, want %v", l, got, wanted)
				}
				if got := Fits(uintOf(0), l); got != wanted {
					t.Fatalf("Fits of 0, %v: %v, want %v", l, got, wanted)
				}
				if got := Fits(api.Item{Kind: 9}, l); wanted == api.ErrRange && got != wanted || wanted == api.OK && got != api.ErrForm {
					t.Fatalf("Fits of an item of no kind, %v: %v", l, got)
				}
			}
		}
	}
}

func TestGreatestAndLeast(t *testing.T) { // P11.1, by the numbers that the document writes out
	for _, c := range []struct {
		l      api.Limits
		wanted api.Errno
	}{
		{limits(1, 1, 1), api.OK}, {greatest, api.OK}, {limits(64, 1, 1), api.OK}, {limits(1, 1024, 1), api.OK}, {limits(1, 1, greatest.Size), api.OK},
		{limits(65, 1024, greatest.Size), api.ErrRange}, {limits(64, 1025, greatest.Size), api.ErrRange}, {limits(64, 1024, greatest.Size+1), api.ErrRange},
		{limits(0, 1, 1), api.ErrRange}, {limits(1, 0, 1), api.ErrRange}, {limits(1, 1, 0), api.ErrRange}, {limits(-1, 1, 1), api.ErrRange}, {limits(1, -1, 1), api.ErrRange}, {limits(1, 1, -1), api.ErrRange}, {api.Limits{}, api.ErrRange},
	} {
		if got := Check(c.l); got != c.wanted {
			t.Errorf("Check of %v: %v", c.l, got)
		}
	}
}

func TestNumbers(t *testing.T) { // the chapter's example: 1, 1, and its size
	for _, c := range []struct {
		n    uint64
		size int
	}{
		{0, 1}, {1, 1}, {23, 1}, {24, 2}, {255, 2}, {256, 3}, {65_535, 3}, {65_536, 5}, {1<<32 - 1, 5}, {1 << 32, 9}, {math.MaxUint64, 9},
	} {
		for _, x := range []api.Item{uintOf(c.n), nintOf(c.n)} {
			if n, ok := Needed(x); n != limits(1, 1, c.size) || !ok {
				t.Errorf("Needed of %s: %v, %v", spell(x), n, ok)
			}
			checkKey(t, x)
		}
	}
}

func TestNeeded(t *testing.T) { // P11.1: what is needed of an item of each kind, counted by hand
	for i, c := range []struct {
		x      api.Item
		wanted api.Limits
	}{
		{bytesOf(""), limits(1, 1, 1)}, {textOf("é"), limits(1, 1, 3)}, {textOf(strings.Repeat("é", 12)), limits(1, 1, 26)}, {bytesOf(strings.Repeat("\xff", 2000)), limits(1, 1, 2003)},
		{simpleOf(22), limits(1, 1, 1)}, {simpleOf(32), limits(1, 1, 2)}, {floatOf(1.5), limits(1, 1, 3)}, {floatOf(100_000), limits(1, 1, 5)}, {floatOf(0.1), limits(1, 1, 9)},
		{arrayOf(), limits(1, 1, 1)}, {mapOf(), limits(1, 1, 1)}, {tagOf(1, uintOf(0)), limits(2, 1, 2)}, {tagOf(1000, arrayOf()), limits(2, 1, 4)}, {arrayOf(uintOf(1), uintOf(2)), limits(2, 1, 3)}, {arrayOf(mapOf(), tagOf(0, mapOf())), limits(3, 1, 4)},
		{mapOf(uintOf(1), uintOf(2)), limits(2, 1, 3)}, {mapOf(textOf(""), uintOf(2)), limits(2, 1, 3)}, {mapOf(textOf("b"), uintOf(1), textOf("a"), uintOf(2)), limits(2, 2, 7)}, {mapOf(uintOf(1), textOf("a long value")), limits(2, 1, 15)},
		{mapOf(arrayOf(uintOf(1), uintOf(24)), uintOf(0)), limits(3, 4, 6)}, {mapOf(uintOf(0), arrayOf(uintOf(1), uintOf(24))), limits(3, 1, 6)}, {mapOf(mapOf(), mapOf()), limits(2, 1, 3)},
		{mapOf(mapOf(textOf("ab"), uintOf(1)), uintOf(0)), limits(3, 5, 7)}, {mapOf(uintOf(0), mapOf(textOf("ab"), uintOf(1))), limits(3, 3, 7)}, {tagOf(9, mapOf(tagOf(9, arrayOf(mapOf(textOf("abc"), uintOf(0)))), floatOf(0.5))), limits(6, 8, 13)},
	} {
		if n, ok := Needed(c.x); n != c.wanted || !ok {
			t.Errorf("%d: Needed of %s: %v, %v, want %v", i, spell(c.x), n, ok, c.wanted)
		}
		if e := Fits(c.x, c.wanted); e != api.OK {
			t.Errorf("%d: %s doesn't fit %v: %v", i, spell(c.x), c.wanted, e)
		}
		checkKey(t, c.x)
	}
}

func TestItemsThatMayBe(t *testing.T) { // P11.1: of each kind, alone and in all kinds of places
	for _, x := range good() {
		checkKey(t, x)
		for _, y := range withins(x) {
			checkKey(t, y)
			for _, z := range withins(y) {
				checkKey(t, z)
			}
		}
		checkKey(t, chain(64-item.Depth(x), x))
	}
}

func TestKeyOfItemsWithoutKeys(t *testing.T) { // P11.1
	for _, x := range []api.Item{uintOf(0), nintOf(math.MaxUint64), bytesOf("abc"), textOf("abc"), arrayOf(), arrayOf(textOf("abc"), textOf("d")), tagOf(1, textOf("abc")), simpleOf(255), floatOf(0.1), mapOf(), arrayOf(mapOf(), mapOf()), chain(63, mapOf()), tagOf(1, tagOf(2, mapOf()))} {
		if n := checkKey(t, x); n != 0 {
			t.Errorf("%s: %d", spell(x), n)
		}
		if n, ok := Needed(x); n.Key != 1 || !ok {
			t.Errorf("Needed of %s: %v, %v", spell(x), n, ok)
		}
		n, _ := Needed(x)
		n.Key = 0 // there is no key, but such limits aren't right
		if e := Fits(x, n); e != api.ErrRange {
			t.Errorf("Fits of %s: %v", spell(x), e)
		}
	}
}

// keys are of each kind and of many lengths, and how many bytes each has.
var keys = func() []sized {
	return []sized{
		{uintOf(0), 1}, {uintOf(23), 1}, {uintOf(24), 2}, {uintOf(256), 3}, {uintOf(65_536), 5}, {uintOf(1 << 32), 9}, {nintOf(0), 1}, {nintOf(24), 2}, {nintOf(math.MaxUint64), 9},
		{bytesOf(""), 1}, {bytesOf("\xff"), 2}, {bytesOf(strings.Repeat("\xff", 23)), 24}, {bytesOf(strings.Repeat("\xff", 24)), 26}, {textOf(""), 1}, {textOf("a"), 2}, {textOf("é"), 3}, {textOf("aa"), 3}, {textOf(strings.Repeat("é", 128)), 259},
		{arrayOf(), 1}, {arrayOf(uintOf(1)), 2}, {arrayOf(textOf("ab"), arrayOf()), 5}, {mapOf(), 1}, {mapOf(uintOf(1), textOf("abc")), 6}, {mapOf(textOf("abc"), uintOf(1)), 6}, {tagOf(0, uintOf(0)), 2}, {tagOf(24, arrayOf(uintOf(24))), 5},
		{simpleOf(20), 1}, {simpleOf(255), 2}, {floatOf(0.5), 3}, {floatOf(100_000), 5}, {floatOf(0.1), 9},
	}
}()

// sized is an item, and how many bytes it has.
type sized struct {
	x    api.Item
	size int
}

func TestOneKey(t *testing.T) { // P11.1: of each kind, at each kind of place
	for _, k := range keys {
		for i, x := range []api.Item{
			mapOf(k.x, uintOf(0)), arrayOf(mapOf(k.x, textOf("a value that is longer"))), tagOf(1, mapOf(k.x, mapOf())), arrayOf(textOf("not a key"), mapOf(), mapOf(k.x, uintOf(1))), chain(30, tagOf(5, mapOf(k.x, arrayOf(k.x, textOf("nor this"))))), arrayOf(mapOf(k.x, uintOf(1)), mapOf(k.x, uintOf(2))), mapOf(k.x, mapOf(k.x, mapOf(k.x, arrayOf(mapOf(k.x, k.x))))),
		} {
			if n := checkKey(t, x); n != k.size || Key(x) != k.size {
				t.Errorf("%d: Key of %s: %d, want %d", i, short(x), n, k.size)
			}
		}
		for i, x := range []api.Item{k.x, arrayOf(k.x, k.x), tagOf(3, k.x)} { // not as a key: but the keys in it are
			inner := 0
			if k.x.Kind == api.Map && len(k.x.L) > 0 {
				inner = len(k.x.L[0].S) + 1
			}
			if n := Key(x); n != inner {
				t.Errorf("%d: Key of %s: %d, want %d", i, short(x), n, inner)
			}
		}
	}
}

func TestTwoKeys(t *testing.T) { // P11.1: of equal and of different lengths, both ways round, side by side, and one in the other's value
	for i, a := range keys {
		for j, b := range keys {
			wanted := max(a.size, b.size)
			all := []api.Item{mapOf(a.x, mapOf(b.x, uintOf(0))), arrayOf(mapOf(a.x, uintOf(0)), mapOf(b.x, uintOf(0))), mapOf(a.x, arrayOf(tagOf(1, mapOf(b.x, mapOf()))))}
			if i != j {
				all = append(all, mapOf(a.x, uintOf(1), b.x, uintOf(2)), chain(3, mapOf(a.x, textOf("a"), b.x, textOf("b"))))
			}
			for k, x := range all {
				if n := checkKey(t, x); n != wanted || Key(x) != wanted {
					t.Fatalf("%d, %d, %d: Key of %s: %d, want %d", i, j, k, short(x), n, wanted)
				}
			}
		}
	}
}

// orders are all in which n things may stand.
func orders(n int) [][]int {
	if n == 0 {
		return [][]int{nil}
	}
	var all [][]int
	for _, o := range orders(n - 1) {
		for at := range n {
			all = append(all, slices.Insert(slices.Clone(o), at, n-1))
		}
	}
	return all
}

func TestKeysInEveryOrder(t *testing.T) { // P11.1
	five := []api.Item{uintOf(7), textOf("abcd"), mapOf(textOf("a"), uintOf(1)), uintOf(300), tagOf(1, textOf("abcdefg"))} // of 1, 5, 4, 3, 9 bytes
	size := []int{1, 5, 4, 3, 9}
	for n := 1; n <= len(five); n++ {
		for _, o := range orders(n) {
			var pairs []api.Item
			deep := mapOf()
			wanted := 0
			for _, k := range o {
				pairs = append(pairs, five[k], textOf("a value that is long"))
				deep = mapOf(five[k], deep)
				wanted = max(wanted, size[k])
			}
			for _, x := range []api.Item{mapOf(pairs...), deep, tagOf(1, arrayOf(deep, mapOf(pairs...)))} {
				if got := checkKey(t, x); got != wanted || Key(x) != wanted {
					t.Fatalf("%v: Key of %s: %d, want %d", o, spell(x), got, wanted)
				}
			}
		}
	}
}

func TestOuterAndInnerKeys(t *testing.T) { // P11.1
	long, small := textOf("abcdefgh"), uintOf(5)
	for i, c := range []sized{
		{mapOf(long, mapOf(small, uintOf(0))), 9},                                                                   // the outer one is the longest
		{mapOf(small, mapOf(long, uintOf(0))), 9},                                                                   // the inner one is, in a value
		{mapOf(mapOf(long, uintOf(0)), uintOf(0)), 11},                                                              // a key that has the inner one
		{mapOf(mapOf(uintOf(0), long), uintOf(0)), 11},                                                              // or it as a value
		{mapOf(mapOf(small, uintOf(0)), uintOf(0), long, uintOf(0)), 9},                                             // beside a shorter key with a key
		{mapOf(mapOf(long, uintOf(0)), mapOf(textOf("abcdefghijkl"), uintOf(0))), 13},                               // in the value of a key with a key
		{mapOf(mapOf(mapOf(small, small), small), small), 5},                                                        // keys of keys
		{mapOf(arrayOf(tagOf(1, mapOf(long, small))), small), 13},                                                   // in arrays and tags of a key
		{arrayOf(mapOf(small, small), mapOf(small, small), tagOf(1, arrayOf(mapOf(small, small, long, small)))), 9}, // in the last map
		{arrayOf(mapOf(long, small), mapOf(small, small), tagOf(1, arrayOf(mapOf(small, small)))), 9},               // in the first one
		{mapOf(uintOf(1), uintOf(1), uintOf(2), mapOf(uintOf(1), uintOf(1), uintOf(2), mapOf(uintOf(1), uintOf(1), long, mapOf(uintOf(1), uintOf(1))))), 9},
	} {
		if n := checkKey(t, c.x); n != c.size || Key(c.x) != c.size {
			t.Errorf("%d: Key of %s: %d, want %d", i, spell(c.x), n, c.size)
		}
	}
}

func TestKeyAtEachLevel(t *testing.T) { // P11.1: the longest key as deep as each level, as those of values, keys, arrays and tags
	long, small := textOf("abcdefgh"), uintOf(5)
	for level := range 62 {
		for _, about := range []func(x api.Item) api.Item{
			func(x api.Item) api.Item { return arrayOf(uintOf(1), x) }, func(x api.Item) api.Item { return tagOf(1, x) }, func(x api.Item) api.Item { return mapOf(small, x, textOf("a"), mapOf()) },
		} {
			x := mapOf(small, arrayOf(), long, small)
			for range level {
				x = about(x)
			}
			if n := checkKey(t, x); n != 9 || Key(x) != 9 {
				t.Fatalf("at %d: Key of %s: %d", level, short(x), n)
			}
		}
		x := mapOf(long, small)
		for range level {
			x = mapOf(x, small)
		}
		if n := checkKey(t, x); n != 9+2*level || Key(x) != n { // of the outermost one, which has them all
			t.Fatalf("in %d keys: %d", level, n)
		}
	}
}

func TestFits(t *testing.T) { // P11.1: just what is needed, less of each alone, and of several at once: the first error is told
	x := mapOf(textOf("abc"), arrayOf(arrayOf(uintOf(1000)))) // a1 63 61 62 63 81 81 19 03 e8
	for _, c := range []struct {
		l      api.Limits
		wanted api.Errno
	}{
		{limits(4, 4, 10), api.OK}, {greatest, api.OK}, {limits(64, 4, 10), api.OK}, {limits(4, 1024, 10), api.OK}, {limits(4, 4, greatest.Size), api.OK},
		{limits(4, 4, 9), api.ErrSize}, {limits(3, 4, 10), api.ErrDepth}, {limits(4, 3, 10), api.ErrKeyLength}, {limits(64, 1024, 9), api.ErrSize}, {limits(3, 1024, greatest.Size), api.ErrDepth}, {limits(64, 3, greatest.Size), api.ErrKeyLength},
		{limits(3, 3, 9), api.ErrSize}, {limits(3, 4, 9), api.ErrSize}, {limits(4, 3, 9), api.ErrSize}, {limits(3, 3, 10), api.ErrDepth}, {limits(1, 1, 1), api.ErrSize}, {limits(1, 1, 10), api.ErrDepth}, {limits(4, 1, 10), api.ErrKeyLength},
		{limits(0, 4, 10), api.ErrRange}, {limits(4, 0, 10), api.ErrRange}, {limits(4, 4, 0), api.ErrRange}, {limits(3, 3, 0), api.ErrRange}, {limits(0, 3, 9), api.ErrRange}, {limits(65, 4, 10), api.ErrRange}, {limits(4, 1025, 10), api.ErrRange}, {limits(4, 4, 1<<61), api.ErrRange}, {limits(65, 3, 9), api.ErrRange}, {limits(3, 1025, 9), api.ErrRange},
	} {
		if got := Fits(x, c.l); got != c.wanted {
			t.Errorf("%v: %v, want %v", c.l, got, c.wanted)
		}
	}
	checkKey(t, x)
}

func TestExamplesOfTheWhole(t *testing.T) { // DOC.md's sixth: 81 81 81 00 with the depth 3
	x := chain(3, uintOf(0))
	if b, _ := enc.Encode(x); hex.EncodeToString(b) != "81818100" {
		t.Fatalf("%x", b)
	}
	if got := Fits(x, limits(3, 1024, greatest.Size)); got != api.ErrDepth {
		t.Error(got)
	}
	if got := Fits(x, limits(4, 1, 4)); got != api.OK {
		t.Error(got)
	}
}

// less tells whether a limit of a is less than that of b.
func less(a, b api.Limits) bool { return a.Depth < b.Depth || a.Key < b.Key || a.Size < b.Size }

func TestNeededIsLeast(t *testing.T) { // P11.1: an item fits what is needed, and what is more, and nothing that is less in one of them
	for _, x := range append(good(), withins(manifold())...) {
		n, ok := Needed(x)
		if !ok || Check(n) != api.OK || Fits(x, n) != api.OK {
			t.Fatalf("%s: %v, %v, %v", short(x), n, ok, Fits(x, n))
		}
		for d := 1; d <= n.Depth+2; d++ {
			for _, k := range []int{1, n.Key / 2, n.Key - 2, n.Key - 1, n.Key, n.Key + 1, 1024} {
				for _, s := range []int{1, n.Size / 2, n.Size - 2, n.Size - 1, n.Size, n.Size + 1, 1<<61 - 1} {
					l := limits(d, k, s)
					if fits := Fits(x, l) == api.OK; fits == less(l, n) {
						t.Fatalf("%s fits %v: %v; it needs %v", short(x), l, fits, n)
					}
				}
			}
		}
	}
}

// wrong are items that may not be, by themselves, with their errors.
func wrong() []struct {
	x   api.Item
	err api.Errno
} {
	one := []api.Item{{}}
	long := textOf(strings.Repeat("a", 1024))
	return []struct {
		x   api.Item
		err api.Errno
	}{
		{api.Item{Kind: -1}, api.ErrForm}, {api.Item{Kind: 9}, api.ErrForm}, {api.Item{Kind: math.MinInt}, api.ErrForm}, {api.Item{Kind: math.MaxInt, N: 5}, api.ErrForm},
		{api.Item{Kind: api.Uint, S: "a"}, api.ErrForm}, {api.Item{Kind: api.Nint, L: one}, api.ErrForm}, {api.Item{Kind: api.Bytes, N: 1, S: "a"}, api.ErrForm}, {api.Item{Kind: api.Text, S: "a", L: one}, api.ErrForm}, {api.Item{Kind: api.Array, N: 1, L: one}, api.ErrForm}, {api.Item{Kind: api.Array, S: "a"}, api.ErrForm},
		{api.Item{Kind: api.Map, N: 1}, api.ErrForm}, {mapOf(uintOf(1)), api.ErrForm}, {mapOf(textOf("abc"), uintOf(2), textOf("abcdef")), api.ErrForm}, {api.Item{Kind: api.Tag}, api.ErrForm}, {api.Item{Kind: api.Tag, L: []api.Item{{}, {}}}, api.ErrForm}, {api.Item{Kind: api.Simple, S: "a"}, api.ErrForm}, {api.Item{Kind: api.Float, L: one}, api.ErrForm},
		{simpleOf(24), api.ErrRange}, {simpleOf(31), api.ErrRange}, {simpleOf(256), api.ErrRange}, {api.Item{Kind: api.Float, N: 0x7ff8000000000001}, api.ErrRange}, {api.Item{Kind: api.Float, N: math.MaxUint64}, api.ErrRange},
		{textOf("\xff"), api.ErrUTF8}, {textOf("é\xc3"), api.ErrUTF8}, {mapOf(textOf("\xed\xa0\x80"), uintOf(1)), api.ErrUTF8},
		{mapOf(uintOf(1), uintOf(2), uintOf(1), uintOf(3)), api.ErrTwice}, {mapOf(textOf("abc"), uintOf(2), uintOf(0), uintOf(2), textOf("abc"), uintOf(2)), api.ErrTwice}, {mapOf(long, uintOf(2), long, uintOf(2)), api.ErrTwice},
		{chain(64, uintOf(1)), api.ErrDepth}, {chain(64, mapOf()), api.ErrDepth}, {chain(64, api.Item{Kind: 9}), api.ErrDepth}, {mapOf(textOf("abc"), chain(64, mapOf())), api.ErrDepth}, {mapOf(chain(63, uintOf(1)), chain(64, mapOf())), api.ErrDepth}, {chain(200, uintOf(1)), api.ErrDepth},
	}
}

func TestItemsThatMayNotBe(t *testing.T) { // P11.1, R3: by each of item.Check's errors, at the top and deep within
	for _, w := range wrong() {
		checkWrong(t, w.x, w.err)
		checkWrong(t, mapOf(textOf("a key ahead of it"), uintOf(1), textOf("b"), w.x), w.err)
		checkWrong(t, mapOf(textOf("b"), w.x, textOf("a key behind it"), uintOf(1)), w.err)
		checkWrong(t, arrayOf(mapOf(textOf(strings.Repeat("a", 1024)), uintOf(1)), w.x), w.err) // with a key that is too long
		for _, y := range withins(w.x) {
			checkWrong(t, y, w.err)
			if w.err != api.ErrDepth {
				for _, z := range withins(y) {
					checkWrong(t, z, w.err)
				}
			}
		}
		if w.err != api.ErrDepth {
			checkWrong(t, chain(64-item.Depth(w.x), w.x), w.err) // as deep as may be
			checkWrong(t, chain(65-item.Depth(w.x), w.x), api.ErrDepth)
		}
	}
}

func TestKeysTooLong(t *testing.T) { // P11.1: a key longer than MaxKey fits no limits
	a := func(n int) string { return strings.Repeat("a", n) }
	for _, c := range []sized{
		{textOf(a(1020)), 1023}, {textOf(a(1021)), 1024}, {textOf(a(1022)), 1025}, {textOf(strings.Repeat("é", 510)), 1023}, {textOf(strings.Repeat("é", 511)), 1025}, {bytesOf(a(1021)), 1024}, {bytesOf(a(1022)), 1025}, {bytesOf(a(70_000)), 70_005},
		{arrayOf(slices.Repeat([]api.Item{uintOf(1)}, 1021)...), 1024}, {arrayOf(slices.Repeat([]api.Item{uintOf(1)}, 1022)...), 1025}, {tagOf(1, textOf(a(1020))), 1024}, {tagOf(1, textOf(a(1021))), 1025},
		{mapOf(uintOf(1), textOf(a(1019))), 1024}, {mapOf(uintOf(1), textOf(a(1020))), 1025}, {mapOf(textOf(a(1019)), uintOf(1)), 1024}, {mapOf(textOf(a(1020)), uintOf(1)), 1025}, {mapOf(textOf(a(1021)), uintOf(1)), 1026}, {mapOf(textOf(a(1022)), uintOf(1)), 1027},
	} {
		for i, x := range []api.Item{
			mapOf(c.x, uintOf(1)), mapOf(textOf("a"), uintOf(2), c.x, uintOf(1)), mapOf(textOf("a"), mapOf(c.x, uintOf(1))), arrayOf(uintOf(1), mapOf(c.x, arrayOf())), tagOf(7, mapOf(c.x, c.x)), chain(60, mapOf(c.x, uintOf(1))), mapOf(textOf("a"), arrayOf(mapOf(c.x, uintOf(1))), textOf(a(1019)), uintOf(1)), mapOf(c.x, mapOf(textOf("a"), uintOf(1))),
		} {
			if n := checkKey(t, x); n != c.size || Key(x) != c.size {
				t.Fatalf("%d: %d, want %d", i, n, c.size)
			}
			n, ok := Needed(x)
			if err := Fits(x, greatest); c.size <= 1024 && (!ok || n.Key != c.size || err != api.OK) || c.size > 1024 && (ok || n != (api.Limits{}) || err != api.ErrKeyLength) {
				t.Fatalf("%d: Needed of a key of %d: %v, %v; fits: %v", i, c.size, n, ok, err)
			}
		}
		if n, ok := Needed(arrayOf(c.x)); item.Depth(c.x) == 1 && (!ok || n != limits(2, 1, c.size+1)) { // not as a key
			t.Fatalf("%v, %v", n, ok)
		}
	}
}

func TestDepths(t *testing.T) { // P11.1: 64 deep and deeper
	for i, about := range []func(api.Item) api.Item{
		func(x api.Item) api.Item { return arrayOf(x) }, func(x api.Item) api.Item { return tagOf(3, x) }, func(x api.Item) api.Item { return mapOf(textOf("bcd"), x, textOf("a"), uintOf(1)) }, func(x api.Item) api.Item { return mapOf(x, textOf("a")) }, func(x api.Item) api.Item { return mapOf(arrayOf(), textOf("a"), x, uintOf(0)) },
	} {
		x := uintOf(1)
		for deep := 1; deep <= 64; deep++ {
			checkKey(t, x)
			if n, ok := Needed(x); !ok || n.Depth != deep || Fits(x, greatest) != api.OK {
				t.Fatalf("%d: Needed at %d: %v, %v", i, deep, n, ok)
			}
			x = about(x)
		}
		for range 3 {
			checkWrong(t, x, api.ErrDepth)
			x = about(x)
		}
	}
	checkWrong(t, chain(1<<20-1, uintOf(1)), api.ErrDepth)
	checkWrong(t, mapOf(uintOf(1), chain(1<<20-4, uintOf(1))), api.ErrDepth)
}

func TestErrorsInTheirOrder(t *testing.T) { // P11.1, R2
	deep := chain(64, uintOf(1)) // 65 deep: it may not be, however few bytes it may have
	for _, c := range []struct {
		x      api.Item
		l      api.Limits
		wanted api.Errno
	}{
		{deep, limits(1, 1, 1), api.ErrDepth}, {deep, limits(64, 1, 1), api.ErrDepth}, {deep, limits(65, 1, 1), api.ErrRange}, {deep, limits(65, 1024, 1000), api.ErrRange},
		{arrayOf(textOf("\xff")), limits(1, 1, 1), api.ErrUTF8}, {arrayOf(textOf("\xff")), limits(1, 1, 0), api.ErrRange}, {mapOf(uintOf(1), uintOf(2), uintOf(1), uintOf(3)), limits(1, 1, 1), api.ErrTwice}, {arrayOf(simpleOf(24)), limits(1, 1, 1), api.ErrRange},
		{chain(63, mapOf(textOf("ab"), api.Item{Kind: 9})), limits(1, 1, 1), api.ErrDepth}, {chain(62, mapOf(textOf("ab"), api.Item{Kind: 9})), limits(1, 1, 1), api.ErrForm},
		{chain(62, mapOf(textOf("ab"), uintOf(0))), limits(63, 2, 66), api.ErrSize}, {chain(62, mapOf(textOf("ab"), uintOf(0))), limits(63, 2, 67), api.ErrDepth}, {chain(62, mapOf(textOf("ab"), uintOf(0))), limits(64, 2, 67), api.ErrKeyLength}, {chain(62, mapOf(textOf("ab"), uintOf(0))), limits(64, 3, 67), api.OK},
	} {
		if got := Fits(c.x, c.l); got != c.wanted {
			t.Errorf("Fits of %s, %v: %v, want %v", short(c.x), c.l, got, c.wanted)
		}
	}
}

func TestBoth(t *testing.T) { // P11.1: each limit less than, equal to, and greater than the other's, right or not, both ways round
	for _, c := range []struct{ a, b, wanted api.Limits }{
		{limits(1, 9, 5), limits(2, 3, 5), limits(1, 3, 5)}, {limits(1, 2, 3), limits(4, 5, 6), limits(1, 2, 3)}, {limits(9, 1, 1), limits(1, 9, 9), limits(1, 1, 1)}, {limits(2, 2, 1), limits(1, 2, 3), limits(1, 2, 1)}, {greatest, limits(1, 1, 1), limits(1, 1, 1)}, {greatest, greatest, greatest}, {greatest, api.Limits{}, api.Limits{}},
		{limits(65, 1025, 1<<61), greatest, greatest}, {limits(-1, 7, 8), limits(5, -2, 9), limits(-1, -2, 8)}, {limits(math.MinInt, math.MaxInt, math.MinInt), limits(math.MaxInt, math.MinInt, math.MinInt), limits(math.MinInt, math.MinInt, math.MinInt)}, {limits(math.MaxInt, math.MaxInt, math.MaxInt), limits(math.MaxInt, 1<<62, -5), limits(math.MaxInt, 1<<62, -5)},
	} {
		if got := Both(c.a, c.b); got != c.wanted {
			t.Errorf("Both of %v, %v: %v, want %v", c.a, c.b, got, c.wanted)
		}
		if got := Both(c.b, c.a); got != c.wanted {
			t.Errorf("Both of %v, %v: %v, want %v", c.b, c.a, got, c.wanted)
		}
	}
	rising := []int{math.MinInt, -2, -1, 0, 1, 2, 63, 64, 65, 1024, 1025, 1<<61 - 1, 1 << 61, math.MaxInt}
	for i, m := range rising {
		for j, n := range rising {
			least := rising[min(i, j)]
			for _, c := range []struct{ a, b, wanted api.Limits }{
				{limits(m, 5, 7), limits(n, 5, 7), limits(least, 5, 7)}, {limits(5, m, 7), limits(5, n, 7), limits(5, least, 7)}, {limits(5, 7, m), limits(5, 7, n), limits(5, 7, least)}, {limits(m, n, m), limits(n, m, n), limits(least, least, least)}, {limits(m, m, n), limits(n, n, n), limits(least, least, n)},
			} {
				if got := Both(c.a, c.b); got != c.wanted {
					t.Fatalf("Both of %v, %v: %v, want %v", c.a, c.b, got, c.wanted)
				}
			}
		}
	}
}

func TestWhatFitsBothFitsEach(t *testing.T) { // P11.1
	var all []api.Limits
	for _, d := range []int{0, 1, 3, 5, 64, 65} {
		for _, k := range []int{0, 1, 2, 9, 1024, 1025} {
			for _, s := range []int{0, 1, 7, 40, 1<<61 - 1, 1 << 61} {
				all = append(all, limits(d, k, s))
			}
		}
	}
	x := mapOf(textOf("b"), uintOf(1), textOf("a"), chain(2, uintOf(2)))
	for _, a := range all {
		for _, b := range all {
			if Check(a) != api.OK || Check(b) != api.OK {
				continue
			}
			each := Fits(x, a) == api.OK && Fits(x, b) == api.OK
			if both := Fits(x, Both(a, b)) == api.OK; both != each {
				t.Fatalf("%v, %v: %v, %v", a, b, both, each)
			}
		}
	}
}

// lists are those of x, and of all items in it.
func lists(x api.Item) [][]api.Item {
	all := [][]api.Item{x.L}
	for _, y := range x.L {
		all = append(all, lists(y)...)
	}
	return all
}

func TestNothingBehindALengthIsTouched(t *testing.T) { // R4
	spoil := api.Item{Kind: 99, N: 99, S: "spoilt", L: []api.Item{{}}}
	for _, x := range append(good(), withins(manifold())...) {
		y := item.Copy(x)
		loosen(&y, spoil)
		if Key(y) != Key(x) || Fits(y, greatest) != Fits(x, greatest) {
			t.Fatalf("%s: %d, %v", short(x), Key(y), Fits(y, greatest))
		}
		m, _ := Needed(x)
		if n, ok := Needed(y); n != m || !ok {
			t.Fatalf("%s: %v, want %v", short(x), n, m)
		}
		for _, l := range lists(y) {
			for _, z := range l[len(l) : len(l)+3] {
				if !item.Same(z, spoil) {
					t.Fatalf("%s: %s stands behind a list", short(x), spell(z))
				}
			}
		}
	}
}

// loosen lets spoil stand behind each list.
func loosen(x *api.Item, spoil api.Item) {
	n := len(x.L)
	x.L = append(slices.Clone(x.L), spoil, spoil, spoil)[:n]
	for i := range x.L {
		loosen(&x.L[i], spoil)
	}
}

func TestNilListsAndListsWithoutElements(t *testing.T) { // R3
	for kind := range 9 {
		a, b := api.Item{Kind: kind}, api.Item{Kind: kind, L: []api.Item{}}
		if kind == api.Tag {
			checkWrong(t, a, api.ErrForm)
			checkWrong(t, b, api.ErrForm)
			continue
		}
		for _, x := range []api.Item{a, b, mapOf(a, b), mapOf(b, a), arrayOf(a, b)} {
			checkKey(t, x)
		}
	}
}

func TestItemsThatAreShared(t *testing.T) { // P11.1, R4: one list as that of many items
	one := []api.Item{uintOf(2), arrayOf(), textOf("abc"), arrayOf(uintOf(1))}
	x := arrayOf(api.Item{Kind: api.Array, L: one}, api.Item{Kind: api.Map, L: one}, api.Item{Kind: api.Map, L: one}, api.Item{Kind: api.Map, L: one[:2]}, mapOf(api.Item{Kind: api.Map, L: one}, api.Item{Kind: api.Map, L: one}))
	if n := checkKey(t, x); n != 9 { // a2 02 80 63 61 62 63 81 01
		t.Error(n)
	}
}

// some is an item that may be, of no more than so many levels.
func some(r *rand.Rand, deep int) api.Item {
	n, kind := r.Uint64()>>r.Intn(64), r.Intn(9)
	if deep == 1 && kind >= api.Array && kind <= api.Tag {
		kind = api.Text
	}
	switch kind {
	case api.Bytes, api.Text:
		return api.Item{Kind: kind, S: strings.Repeat("aé"[:1+2*r.Intn(2)], r.Intn(30))}
	case api.Array:
		return arrayOf(several(r, deep-1, r.Intn(4))...)
	case api.Tag:
		return tagOf(n, some(r, deep-1))
	case api.Simple:
		n = []uint64{0, 1, 22, 23, 32, 33, 255}[r.Intn(7)]
	case api.Float:
		n = math.Float64bits([]float64{float64(n), 0.5, -1.25, 0.1, math.Inf(1)}[r.Intn(5)])
	case api.Map:
		return someMap(r, deep)
	}
	return api.Item{Kind: kind, N: n}
}

func several(r *rand.Rand, deep, n int) []api.Item {
	var l []api.Item
	for range n {
		l = append(l, some(r, deep))
	}
	return l
}

// someMap has no two keys that are alike.
func someMap(r *rand.Rand, deep int) api.Item {
	var l []api.Item
	seen := map[string]bool{}
	for range r.Intn(6) {
		k := some(r, deep-1)
		if s := spell(k); !seen[s] {
			seen[s] = true
			l = append(l, k, some(r, deep-1))
		}
	}
	return mapOf(l...)
}

func TestManyItems(t *testing.T) { // P11.1
	r := rand.New(rand.NewSource(33))
	withKeys := 0
	for i := range 20_000 {
		if checkKey(t, some(r, 1+i%7)) > 0 {
			withKeys++
		}
	}
	if withKeys < 2000 {
		t.Fatalf("only %d items have keys", withKeys)
	}
}

func TestOneAnswer(t *testing.T) { // R6
	for _, x := range append(good(), withins(manifold())...) {
		k := Key(x)
		n, ok := Needed(x)
		for range 3 {
			y := item.Copy(x)
			if m, again := Needed(y); m != n || again != ok || Key(y) != k || Fits(y, n) != api.OK || Fits(x, n) != api.OK {
				t.Fatalf("of %s", short(x))
			}
		}
	}
}

func TestVeryMany(t *testing.T) { // P1, P11.1: as many items as the document promises anything of
	const n = 1 << 18
	l := make([]api.Item, 0, 2*n)
	for i := range uint64(n) {
		l = append(l, uintOf(i*7919%n), uintOf(0))
	}
	wide := mapOf(l...)
	for i, c := range []struct {
		x      api.Item
		wanted api.Limits
	}{
		{arrayOf(make([]api.Item, 1<<20-1)...), limits(2, 1, 1<<20-1+5)}, {chain(63, bytesOf(strings.Repeat("x", 1<<20-70))), limits(64, 1, 1<<20-70+5+63)}, {wide, limits(2, 5, 24*2+232*3+65280*4+(n-65536)*6+5)}, {chain(62, wide), limits(64, 5, 24*2+232*3+65280*4+(n-65536)*6+5+62)},
		{mapOf(textOf("ab"), arrayOf(make([]api.Item, 1<<20-4)...)), limits(3, 3, 1<<20-4+5+4)},
	} {
		if m, ok := Needed(c.x); m != c.wanted || !ok || Fits(c.x, c.wanted) != api.OK {
			t.Errorf("%d: %v, %v, want %v; %v", i, m, ok, c.wanted, Fits(c.x, c.wanted))
		}
	}
	x := mapOf(wide, uintOf(1)) // a key of so many bytes
	if m, ok := Needed(x); ok || m != (api.Limits{}) || Key(x) != enc.Size(wide) || Fits(x, greatest) != api.ErrKeyLength {
		t.Error(m, ok, Key(x), Fits(x, greatest))
	}
}

func TestKeysInKeysOfMany(t *testing.T) { // P1, P11.1: keys of keys of keys, each with many others
	x := uintOf(0)
	for i := range uint64(62) {
		l := []api.Item{x, uintOf(i)}
		for k := range uint64(2000) {
			l = append(l, uintOf(2001-k), uintOf(k))
		}
		x = mapOf(l...)
	}
	y := arrayOf(x)
	b, _ := enc.Encode(y)
	size, depth, key := measure(b)
	if Key(y) != key || Fits(y, limits(depth, 1024, size)) != api.ErrKeyLength || depth != 64 {
		t.Error(Key(y), key, depth)
	}
}
