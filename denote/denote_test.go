package denote

import (
	"math"
	"math/rand"
	"slices"
	"strings"
	"testing"

	"ullage/api"
)

func TestExample(t *testing.T) { // P18.2: a record with a, and perhaps b
	s := of(recordNode(field("a", 1), perhaps("b", 1)), intNode(minInt, maxInt))
	a, b, one := textOf("a"), textOf("b"), uintOf(1)
	wantSet(t, s, mapOf(a, one), 0)
	wantSet(t, s, mapOf(a, one, b, one), 0)
	wantSet(t, s, mapOf(b, one, a, one), 0)
	wantSet(t, s, mapOf(b, one))
	wantSet(t, s, mapOf())
	wantSet(t, s, one, 1)
}

// someItems are items of all kinds, each told by its name.
func someItems() map[string]api.Item {
	return map[string]api.Item{
		"0": uintOf(0), "7": uintOf(7), "2^63": uintOf(1 << 63), "-1": nintOf(0), "-8": nintOf(7), "-2^64": nintOf(math.MaxUint64),
		"no bytes": bytesOf(""), "bytes": bytesOf("\xff\x00"), "no text": textOf(""), "text": textOf("ab"),
		"array": arrayOf(), "array of 7": arrayOf(uintOf(7)), "array of array": arrayOf(arrayOf()), "map": mapOf(), "map of a": mapOf(textOf("a"), uintOf(7)), "map of 7": mapOf(uintOf(7), uintOf(7)),
		"tag": tagOf(0, uintOf(7)), "tag 7": tagOf(7, arrayOf()), "simple": simpleOf(0), "true": simpleOf(21), "simple 7": simpleOf(7),
		"float": floatOf(0), "float 7": floatOf(7), "float of bits 7": numberOf(api.Float, 7), "NaN": numberOf(api.Float, theNaN), "inf": floatOf(math.Inf(-1)),
	}
}

func TestKinds(t *testing.T) { // P18.2: each kind of node against each kind of item, by hand
	for _, x := range []struct {
		n    api.Node
		want string
	}{
		{intNode(minInt, maxInt), "0,7,-1,-8"}, {intNode(0, maxInt), "0,7"}, {intNode(minInt, -1), "-1,-8"}, {intNode(-8, 0), "0,-1,-8"}, {intNode(7, 7), "7"},
		{blobNode(0, maxInt), "no bytes,bytes"}, {blobNode(1, 2), "bytes"}, {blobNode(0, 1), "no bytes"}, {blobNode(3, maxInt), ""},
		{stringNode(0, maxInt), "no text,text"}, {stringNode(2, 2), "text"}, {stringNode(0, 0), "no text"}, {stringNode(7, 7), ""},
		{valueNode(uintOf(7)), "7"}, {valueNode(nintOf(7)), "-8"}, {valueNode(simpleOf(7)), "simple 7"}, {valueNode(uintOf(0)), "0"}, {valueNode(simpleOf(0)), "simple"}, {valueNode(simpleOf(21)), "true"}, {valueNode(bytesOf("")), "no bytes"}, {valueNode(textOf("")), "no text"}, {valueNode(textOf("ab")), "text"}, {valueNode(bytesOf("ab")), ""}, {valueNode(uintOf(1 << 63)), "2^63"}, {valueNode(nintOf(math.MaxUint64)), "-2^64"},
		{realNode(), "float,float 7,float of bits 7,NaN,inf"},
		{listNode(0, maxInt, 1), "array,array of 7,array of array"}, {listNode(0, maxInt, 2), "array,array of 7"}, {listNode(1, 1, 2), "array of 7"}, {listNode(0, 0, 2), "array"}, {listNode(2, 9, 1), ""},
		{tupleNode(), "array"}, {tupleNode(1), "array of 7,array of array"}, {tupleNode(2), "array of 7"}, {tupleNode(1, 1), ""},
		{recordNode(), "map"}, {recordNode(perhaps("a", 1)), "map,map of a"}, {recordNode(field("a", 1)), "map of a"}, {recordNode(field("a", 2)), "map of a"}, {recordNode(field("7", 1)), ""}, {recordNode(field("", 1)), ""},
		{taggedNode(0, 1), "tag"}, {taggedNode(0, 2), "tag"}, {taggedNode(7, 1), "tag 7"}, {taggedNode(7, 2), ""}, {taggedNode(1, 1), ""},
		{choiceNode(2), "7"}, {choiceNode(2, 2), "7"}, {choiceNode(3, 2), "7,float,float 7,float of bits 7,NaN,inf"}, {choiceNode(2, 3), "7,float,float 7,float of bits 7,NaN,inf"},
	} {
		s := of(x.n, anyNode(), valueNode(uintOf(7)), realNode())
		for name, y := range someItems() {
			want := slices.Contains(strings.Split(x.want, ","), name)
			if ok, err := Schema(s, y); ok != want || err != api.OK {
				t.Errorf("Schema of %s and %s: %v, %v", spellSchema(s), name, ok, err)
			}
			if want != (slices.Contains(Set(s, y), 0)) || !Matches(s, 1, y) {
				t.Errorf("Set of %s and %s: %v", spellSchema(s), name, Set(s, y))
			}
			check(t, s, y)
		}
	}
	for name, y := range someItems() {
		if ok, err := Schema(of(anyNode()), y); !ok || err != api.OK {
			t.Errorf("%s isn't any item: %v, %v", name, ok, err)
		}
	}
}

// edges are numbers at which something ends.
var edges = []int{minInt, minInt + 1, -1 << 32, -256, -2, -1, 0, 1, 2, 23, 24, 255, 256, 1<<32 - 1, 1 << 32, maxInt - 1, maxInt}

func TestInts(t *testing.T) { // P18.2: as exact numbers
	var items []api.Item
	for _, n := range edges {
		for _, m := range []int{n - 1, n, n + 1} { // round the ends, too
			items = append(items, uintOf(uint64(m)), nintOf(uint64(m)))
		}
	}
	for _, lo := range edges {
		for _, hi := range edges {
			if lo > hi {
				continue
			}
			for _, x := range items {
				check(t, of(intNode(lo, hi)), x)
			}
		}
	}
	for _, x := range []struct {
		x      api.Item
		lo, hi int
		ok     bool
	}{
		{uintOf(5), 5, 5, true}, {uintOf(4), 5, 5, false}, {uintOf(6), 5, 5, false}, {nintOf(4), -5, -5, true}, {nintOf(5), -5, -5, false}, {nintOf(3), -5, -5, false}, {nintOf(0), -1, -1, true}, {nintOf(0), 0, 0, false}, {uintOf(0), -1, -1, false}, {uintOf(0), 0, 0, true}, {uintOf(1), 0, 1, true}, {nintOf(1), -2, 1, true}, {nintOf(2), -2, 1, false},
		{uintOf(maxInt), maxInt, maxInt, true}, {uintOf(maxInt), minInt, maxInt, true}, {uintOf(1 << 63), minInt, maxInt, false}, {uintOf(math.MaxUint64), minInt, maxInt, false}, {uintOf(math.MaxUint64), -1, -1, false}, {uintOf(1 << 63), minInt, minInt, false},
		{nintOf(maxInt), minInt, minInt, true}, {nintOf(maxInt), minInt, maxInt, true}, {nintOf(maxInt - 1), minInt, minInt, false}, {nintOf(1 << 63), minInt, maxInt, false}, {nintOf(math.MaxUint64), minInt, maxInt, false}, {nintOf(math.MaxUint64), 0, 0, false}, {nintOf(1 << 63), maxInt, maxInt, false},
		{floatOf(5), 5, 5, false}, {numberOf(api.Float, 5), 5, 5, false}, {simpleOf(5), 5, 5, false}, {tagOf(5, uintOf(5)), 5, 5, false}, {textOf("5"), 5, 5, false}, {arrayOf(uintOf(5)), 5, 5, false},
	} {
		if ok := Matches(of(intNode(x.lo, x.hi)), 0, x.x); ok != x.ok {
			t.Errorf("%s from %d to %d: %v", spellItem(x.x), x.lo, x.hi, ok)
		}
	}
}

func TestNumber(t *testing.T) { // P18.1
	for _, x := range []struct {
		x  api.Item
		n  int
		ok bool
	}{
		{uintOf(0), 0, true}, {uintOf(1), 1, true}, {uintOf(24), 24, true}, {uintOf(maxInt - 1), maxInt - 1, true}, {uintOf(maxInt), maxInt, true}, {uintOf(1 << 63), 0, false}, {uintOf(1<<63 + 1), 0, false}, {uintOf(math.MaxUint64), 0, false},
		{nintOf(0), -1, true}, {nintOf(1), -2, true}, {nintOf(255), -256, true}, {nintOf(maxInt - 1), minInt + 1, true}, {nintOf(maxInt), minInt, true}, {nintOf(1 << 63), 0, false}, {nintOf(1<<63 + 1), 0, false}, {nintOf(math.MaxUint64), 0, false},
		{bytesOf(""), 0, false}, {bytesOf("1"), 0, false}, {textOf("1"), 0, false}, {arrayOf(), 0, false}, {arrayOf(uintOf(1)), 0, false}, {mapOf(), 0, false}, {tagOf(1, uintOf(1)), 0, false}, {simpleOf(1), 0, false}, {simpleOf(0), 0, false}, {floatOf(1), 0, false}, {numberOf(api.Float, 1), 0, false},
		{numberOf(-1, 1), 0, false}, {numberOf(9, 1), 0, false}, {numberOf(256, 1), 0, false}, {numberOf(1<<32, 1), 0, false}, {numberOf(minInt, 1), 0, false}, {numberOf(maxInt, 1), 0, false}, {numberOf(api.Tag, 1), 0, false},
	} {
		if n, ok := Number(x.x); n != x.n || ok != x.ok {
			t.Errorf("Number of %s: %d, %v", spellItem(x.x), n, ok)
		}
	}
	for _, n := range edges {
		for _, m := range []int{n - 1, n, n + 1} {
			for _, x := range []api.Item{uintOf(uint64(m)), nintOf(uint64(m))} {
				v := number(x)
				if got, ok := Number(x); ok != v.IsInt64() || ok && int64(got) != v.Int64() || !ok && got != 0 {
					t.Errorf("Number of %s: %d, %v", spellItem(x), got, ok)
				}
			}
		}
	}
}

func TestLengths(t *testing.T) { // P18.2: of bytes, not of signs; of items, not of pairs
	for _, n := range []int{0, 1, 2, 3, 23, 24, 25, 255, 256, 1000} {
		for _, lo := range []int{0, 1, n - 1, n, n + 1} {
			for _, hi := range []int{n - 1, n, n + 1, maxInt} {
				if lo < 0 || lo > hi {
					continue
				}
				s := of(blobNode(lo, hi), stringNode(lo, hi), listNode(lo, hi, 3), anyNode())
				in := lo <= n && n <= hi
				for node, x := range []api.Item{bytesOf(strings.Repeat("\xc3", n)), textOf(strings.Repeat("a", n)), arrayOf(make([]api.Item, n)...)} {
					want := []int{node, 3}
					if !in {
						want = []int{3}
					}
					wantSet(t, s, x, want...)
				}
			}
		}
	}
	s := of(stringNode(4, 4), stringNode(2, 2), blobNode(4, 4), listNode(2, 2, 5), listNode(4, 4, 5), anyNode())
	wantSet(t, s, textOf("üü"), 0, 5)
	wantSet(t, s, textOf("𝄞"), 0, 5)
	wantSet(t, s, textOf("üa"), 5)
	wantSet(t, s, textOf("ü"), 1, 5)
	wantSet(t, s, textOf("\x00\x00"), 1, 5)
	wantSet(t, s, bytesOf("\xff\xff\xff\xff"), 2, 5)
	wantSet(t, s, arrayOf(textOf("a"), arrayOf(uintOf(1), uintOf(1))), 3, 5)
	wantSet(t, s, mapOf(uintOf(1), uintOf(1), uintOf(2), uintOf(2)), 5)
}

func TestValues(t *testing.T) { // P18.2: just that item
	values := []api.Item{uintOf(0), uintOf(1), uintOf(22), uintOf(math.MaxUint64), nintOf(0), nintOf(1), nintOf(22), nintOf(math.MaxUint64), bytesOf(""), bytesOf("a"), bytesOf("ab"), bytesOf("\xff"), textOf(""), textOf("a"), textOf("ab"), textOf("b"), textOf("A"), textOf("ü"), textOf("u\u0308"), simpleOf(0), simpleOf(1), simpleOf(22), simpleOf(255)}
	others := []api.Item{floatOf(0), floatOf(1), numberOf(api.Float, 1), arrayOf(), arrayOf(uintOf(1)), arrayOf(textOf("a")), mapOf(), mapOf(textOf("a"), uintOf(1)), tagOf(1, uintOf(1)), tagOf(0, uintOf(0))}
	for i, v := range values {
		for j, x := range values {
			if ok, err := Schema(of(valueNode(v)), x); ok != (i == j) || err != api.OK {
				t.Errorf("the value %s: %s: %v, %v", spellItem(v), spellItem(x), ok, err)
			}
		}
		for _, x := range others {
			wantSet(t, of(valueNode(v)), x)
		}
	}
}

func TestLists(t *testing.T) { // P18.2: each item matches the node
	s := of(listNode(0, 4, 3), listNode(3, 3, 4), listNode(2, maxInt, 5), intNode(0, 9), stringNode(1, 1), choiceNode(6, 7), intNode(10, 10), stringNode(1, 1))
	five, ten, text, long := uintOf(5), uintOf(10), textOf("a"), textOf("aa")
	wantSet(t, s, arrayOf(), 0)
	wantSet(t, s, arrayOf(five), 0)
	wantSet(t, s, arrayOf(five, five, five, five), 0)
	wantSet(t, s, arrayOf(five, five, five, five, five))
	wantSet(t, s, arrayOf(text, text), 2)
	wantSet(t, s, arrayOf(text, text, text), 1, 2)
	wantSet(t, s, arrayOf(text, ten, text), 2)
	wantSet(t, s, arrayOf(ten, ten, text, ten, text), 2)
	wantSet(t, s, arrayOf(text))
	wantSet(t, s, mapOf())
	wantSet(t, s, mapOf(five, five))
	wantSet(t, s, tagOf(1, five))
	wantSet(t, s, five, 3)
	for count := range 6 {
		for _, good := range []api.Item{five, ten, text} {
			for wrong := range count {
				for _, bad := range []api.Item{five, ten, text, long, arrayOf(good), arrayOf()} {
					l := slices.Repeat([]api.Item{good}, count)
					l[wrong] = bad
					check(t, s, arrayOf(l...))
				}
			}
		}
	}
	in := of(listNode(1, 2, 1), listNode(1, 2, 2), listNode(0, 1, 3), valueNode(uintOf(1)))
	one := uintOf(1)
	wantSet(t, in, arrayOf(arrayOf(arrayOf(one))), 0)
	wantSet(t, in, arrayOf(arrayOf(arrayOf()), arrayOf(arrayOf(one), arrayOf())), 0)
	wantSet(t, in, arrayOf(arrayOf(arrayOf()), arrayOf(arrayOf(one), arrayOf(five))))
	wantSet(t, in, arrayOf(arrayOf(arrayOf()), arrayOf(arrayOf(one, one))))
	wantSet(t, in, arrayOf(arrayOf()), 1)
	wantSet(t, in, arrayOf(arrayOf(), arrayOf(one)), 1)
	wantSet(t, in, arrayOf(one), 2)
	wantSet(t, in, arrayOf(), 2)
}

func TestTuples(t *testing.T) { // P18.2: each item its own node
	s := of(tupleNode(3, 4, 5), tupleNode(5, 4, 3), tupleNode(4, 4), intNode(0, 9), stringNode(0, 9), realNode())
	n, u, f := uintOf(1), textOf("a"), floatOf(1)
	wantSet(t, s, arrayOf(n, u, f), 0)
	wantSet(t, s, arrayOf(f, u, n), 1)
	wantSet(t, s, arrayOf(u, u), 2)
	wantSet(t, s, arrayOf(n, u))
	wantSet(t, s, arrayOf(u))
	wantSet(t, s, arrayOf())
	wantSet(t, s, arrayOf(n, u, f, f))
	wantSet(t, s, arrayOf(n, u, f, n, u, f))
	wantSet(t, s, arrayOf(u, u, u))
	wantSet(t, s, mapOf(u, u))
	wantSet(t, s, tagOf(2, u))
	for _, a := range []api.Item{n, u, f, arrayOf()} {
		for _, b := range []api.Item{n, u, f, arrayOf()} {
			check(t, s, arrayOf(a, b))
			for _, c := range []api.Item{n, u, f, arrayOf()} {
				check(t, s, arrayOf(a, b, c))
			}
		}
	}
	wantSet(t, of(tupleNode(), listNode(0, 0, 2), anyNode()), arrayOf(), 0, 1, 2)
	wantSet(t, of(tupleNode(), listNode(0, 0, 2), anyNode()), arrayOf(n), 2)
	l := make([]api.Item, 1000)
	l[999] = u
	wantSet(t, of(tupleNode(append(slices.Repeat([]int{1}, 999), 2)...), intNode(0, 0), stringNode(1, 1)), arrayOf(l...), 0)
	wantSet(t, of(tupleNode(slices.Repeat([]int{1}, 1000)...), intNode(0, 0), stringNode(1, 1)), arrayOf(l...))
}

func TestRecords(t *testing.T) { // P18.2
	s := of(recordNode(field("a", 1), perhaps("b", 2), field("", 3)), intNode(0, 9), stringNode(0, 2), anyNode())
	a, b, none, c := textOf("a"), textOf("b"), textOf(""), textOf("c")
	n, u := uintOf(1), textOf("u")
	for _, x := range []struct {
		x  api.Item
		ok bool
	}{
		{mapOf(a, n, none, n), true}, {mapOf(none, u, a, n), true}, {mapOf(b, u, none, n, a, n), true}, {mapOf(a, n, b, u, none, arrayOf()), true}, {mapOf(none, mapOf(a, n), a, n), true},
		{mapOf(), false}, {mapOf(a, n), false}, {mapOf(none, n), false}, {mapOf(b, u), false}, {mapOf(a, n, b, u), false}, {mapOf(none, n, b, u), false},
		{mapOf(a, u, none, n), false}, {mapOf(a, n, none, n, b, n), false}, {mapOf(a, n, none, n, b, textOf("uuu")), false}, {mapOf(a, uintOf(10), none, n), false}, {mapOf(a, n, b, u, none, n, c, n), false}, {mapOf(c, n, a, n, none, n), false}, {mapOf(a, n, none, n, c, n), false}, {mapOf(a, n, c, n), false},
		{mapOf(bytesOf("a"), n, none, n), false}, {mapOf(a, n, bytesOf(""), n), false}, {mapOf(a, n, none, n, bytesOf("b"), u), false}, {mapOf(a, n, none, n, uintOf(0), n), false}, {mapOf(a, n, none, n, bytesOf("a"), n), false}, {mapOf(a, n, none, n, arrayOf(), n), false}, {mapOf(arrayOf(), n, a, n), false}, {mapOf(a, n, uintOf(0), n), false}, {mapOf(a, n, simpleOf(20), n), false}, {mapOf(a, n, none, n, simpleOf(22), n), false}, {mapOf(a, n, mapOf(), n), false}, {mapOf(a, n, tagOf(0, none), n), false}, {mapOf(a, n, floatOf(0), n), false}, {mapOf(a, n, nintOf(0), n), false},
		{arrayOf(a, n, none, n), false}, {arrayOf(), false}, {a, false}, {tagOf(0, mapOf(a, n, none, n)), false}, {mapOf(textOf("A"), n, none, n), false}, {mapOf(textOf("aa"), n, none, n), false}, {mapOf(n, a, none, n), false},
	} {
		if ok, err := Schema(s, x.x); ok != x.ok || err != api.OK {
			t.Errorf("%s: %v, %v", spellItem(x.x), ok, err)
		}
		check(t, s, x.x)
	}
	for _, x := range []api.Item{mapOf(a, n), mapOf(bytesOf(""), n), mapOf(none, n)} {
		wantSet(t, of(recordNode()), x)
	}
	wantSet(t, of(recordNode()), mapOf(), 0)
	wantSet(t, of(recordNode(perhaps("a", 1), perhaps("b", 1)), anyNode()), mapOf(), 0, 1)
	wantSet(t, of(recordNode(perhaps("a", 1), perhaps("b", 1)), anyNode()), mapOf(b, n), 0, 1)
	long := strings.Repeat("k", 1021)
	wantSet(t, of(recordNode(field(long, 1)), anyNode()), mapOf(textOf(long), n), 0, 1)
	wantSet(t, of(recordNode(field(long, 1)), anyNode()), mapOf(textOf(long[1:]), n), 1)
	wantSet(t, of(recordNode(field("ü", 1)), anyNode()), mapOf(textOf("ü"), n), 0, 1)
	wantSet(t, of(recordNode(field("ü", 1)), anyNode()), mapOf(textOf("u\u0308"), n), 1)
}

func TestRecordsInAllWays(t *testing.T) { // P18.2: up to three Fields, needed or not, and maps of up to four keys
	names := []string{"a", "b", ""}
	keys := []api.Item{textOf("a"), textOf("b"), textOf(""), bytesOf("a"), uintOf(0), textOf("c")}
	var maps []api.Item
	for first := range len(keys) + 1 {
		for second := range len(keys) + 1 {
			for third := range len(keys) + 1 {
				x := mapOf()
				for i, k := range []int{first, second, third} {
					if k < len(keys) {
						x.L = append(x.L, keys[k], uintOf(uint64(i)))
					}
				}
				maps = append(maps, x)
			}
		}
	}
	for form := range 4 * 4 * 4 { // of each name: not there, to anything, perhaps, to 0 or 1
		n := recordNode()
		for i, name := range names {
			switch form >> (2 * i) & 3 {
			case 1:
				n.Fields = append(n.Fields, field(name, 1))
			case 2:
				n.Fields = append(n.Fields, perhaps(name, 1))
			case 3:
				n.Fields = append(n.Fields, field(name, 2))
			}
		}
		for _, x := range maps {
			check(t, of(n, anyNode(), intNode(0, 1)), x)
		}
	}
}

func TestTagged(t *testing.T) { // P18.2
	for _, lo := range []int{0, 1, 23, 24, 255, 256, 1<<32 - 1, 1 << 32, maxInt - 1, maxInt} {
		s := of(taggedNode(lo, 1), stringNode(1, 1))
		wantSet(t, s, tagOf(uint64(lo), textOf("a")), 0)
		wantSet(t, s, tagOf(uint64(lo), textOf("aa")))
		wantSet(t, s, tagOf(uint64(lo), tagOf(uint64(lo), textOf("a"))))
		wantSet(t, s, tagOf(uint64(lo)+1, textOf("a")))
		wantSet(t, s, tagOf(uint64(lo)-1, textOf("a")))
		wantSet(t, s, tagOf(uint64(lo)|1<<63, textOf("a")))
		wantSet(t, s, tagOf(math.MaxUint64, textOf("a")))
		wantSet(t, s, arrayOf(textOf("a")))
		wantSet(t, s, textOf("a"), 1)
		wantSet(t, s, uintOf(uint64(lo)))
	}
	s := of(taggedNode(1, 1), taggedNode(2, 2), taggedNode(3, 3), anyNode())
	wantSet(t, s, tagOf(1, tagOf(2, tagOf(3, arrayOf()))), 0, 3)
	wantSet(t, s, tagOf(1, tagOf(2, tagOf(2, arrayOf()))), 3)
	wantSet(t, s, tagOf(2, tagOf(3, tagOf(3, arrayOf()))), 1, 3)
}

func TestChoices(t *testing.T) { // P18.2, P18.3: what its nodes mean together
	s := of(choiceNode(1, 2), choiceNode(3), choiceNode(4, 5), choiceNode(6, 6), stringNode(1, 1), listNode(0, 9, 6), intNode(0, 9))
	wantSet(t, s, uintOf(1), 0, 1, 3, 6)
	wantSet(t, s, textOf("a"), 0, 2, 4)
	wantSet(t, s, arrayOf(), 0, 2, 5)
	wantSet(t, s, arrayOf(uintOf(1)), 0, 2, 5)
	wantSet(t, s, arrayOf(textOf("a")))
	wantSet(t, s, uintOf(10))
	wantSet(t, s, bytesOf("a"))
	for _, x := range someItems() {
		for form := 1; form < 1<<4; form++ { // each set of the four, from the left and from the right
			s := of(choiceNode(), choiceNode(), intNode(0, maxInt), stringNode(0, maxInt), realNode(), listNode(0, maxInt, 6), anyNode())
			want := false
			for i := range 4 {
				if form>>i&1 == 0 {
					continue
				}
				s.Nodes[0].L = append(s.Nodes[0].L, 2+i)
				s.Nodes[1].L = append([]int{2 + i}, s.Nodes[1].L...)
				want = want || Matches(of(s.Nodes[2+i], anyNode(), anyNode(), anyNode(), anyNode(), anyNode(), anyNode()), 0, x)
			}
			if l := check(t, s, x); slices.Contains(l, 0) != want || slices.Contains(l, 1) != want {
				t.Errorf("choices %v of %s: %v", s.Nodes[0].L, spellItem(x), l)
			}
		}
	}
}

func TestManyWays(t *testing.T) { // P18.2: it ends, however many ways lead through choices
	for _, nodes := range []int{2, 3, 65, 256} {
		var double, next, tuple, list, record, tagged api.Schema
		for i := range nodes - 1 {
			all := []int{}
			for to := i + 1; to < nodes; to++ {
				all = append(all, to)
			}
			double.Nodes = append(double.Nodes, choiceNode(i+1, i+1))
			next.Nodes = append(next.Nodes, choiceNode(all...))
			tuple.Nodes = append(tuple.Nodes, tupleNode(i+1))
			list.Nodes = append(list.Nodes, listNode(0, 2, i+1))
			record.Nodes = append(record.Nodes, recordNode(field("a", i+1), perhaps("b", i+1)))
			tagged.Nodes = append(tagged.Nodes, taggedNode(i, i+1))
		}
		every := []int{}
		for i := range nodes {
			every = append(every, i)
		}
		last := intNode(0, 9)
		for _, s := range []api.Schema{double, next} {
			s.Nodes = append(s.Nodes, last)
			wantSet(t, s, uintOf(9), every...)
			wantSet(t, s, uintOf(10))
			wantSet(t, s, arrayOf(uintOf(9)))
		}
		for i, s := range []api.Schema{tuple, list, record, tagged} {
			s.Nodes = append(s.Nodes, last)
			x := uintOf(9)
			for node := nodes - 1; node >= 0; node-- {
				if l := Set(s, x); !slices.Equal(l, []int{node}) || !Matches(s, node, x) {
					t.Errorf("%d nodes: Set: %v, want %d", nodes, l, node)
				}
				x = []api.Item{arrayOf(x), arrayOf(x), mapOf(textOf("a"), x), tagOf(uint64(node-1), x)}[i]
			}
			if l := Set(s, x); len(l) > 0 {
				t.Errorf("%d nodes: Set: %v", nodes, l)
			}
		}
	}
	s := of(choiceNode(slices.Repeat([]int{1, 2, 3}, 1<<16)...), realNode(), stringNode(0, 0), blobNode(1, 1))
	wantSet(t, s, uintOf(1))
	wantSet(t, s, bytesOf("a"), 0, 3)
	many := arrayOf(slices.Repeat([]api.Item{uintOf(1)}, 1<<18)...)
	wantSet(t, of(choiceNode(1, 2), listNode(0, maxInt, 3), anyNode(), choiceNode(slices.Repeat([]int{4, 5, 6}, 1<<16)...), realNode(), stringNode(0, 0), blobNode(1, 1)), many, 0, 2)
	wantSet(t, of(listNode(0, maxInt, 3), listNode(0, 1<<18-1, 3), tupleNode(slices.Repeat([]int{3}, 1<<18)...), intNode(1, 1)), many, 0, 2)
}

func TestDrawn(t *testing.T) { // P18.1, P18.2: schemas of any kinds of nodes, and items that match, nearly do, or don't
	r := rand.New(rand.NewSource(18))
	meant, not := 0, 0
	for range 6000 {
		s := drawSchema(r, 1+r.Intn(8))
		for node := range s.Nodes {
			left := 40
			x := drawMeant(r, s, node, &left)
			for range 3 {
				if slices.Contains(check(t, s, x), node) {
					meant++
				} else {
					not++
				}
				x = harmed(r, x)
			}
		}
		check(t, s, drawItem(r, 4))
	}
	if meant < 10000 || not < 10000 {
		t.Errorf("%d match, %d don't", meant, not)
	}
}

// narrower are nodes that differ from n in a greater Lo or a less Hi alone.
func narrower(n api.Node) []api.Node {
	var l []api.Node
	for _, by := range []int{1, 2, 5, 1 << 20, maxInt} {
		if n.Lo <= n.Hi-by && n.Hi-by < n.Hi {
			m := n
			m.Hi -= by
			l = append(l, m)
		}
		if n.Lo+by <= n.Hi && n.Lo+by > n.Lo {
			m := n
			m.Lo += by
			l = append(l, m)
		}
	}
	return l
}

func TestNarrower(t *testing.T) { // P18.3: a node with Lo and Hi means no more, if Lo is greater, or Hi less
	var items []api.Item
	for n := range uint64(12) {
		items = append(items, uintOf(n), nintOf(n), bytesOf(strings.Repeat("b", int(n))), textOf(strings.Repeat("t", int(n))), arrayOf(make([]api.Item, n)...))
	}
	for _, n := range edges {
		items = append(items, uintOf(uint64(n)), nintOf(uint64(n)))
	}
	lost := 0
	for _, lo := range []int{minInt, -5, -1, 0, 1, 3, 7} {
		for _, hi := range []int{-1, 0, 3, 8, maxInt} {
			for _, n := range []api.Node{intNode(lo, hi), blobNode(lo, hi), stringNode(lo, hi), listNode(lo, hi, 1)} {
				if lo > hi || n.Kind != api.Int && lo < 0 {
					continue
				}
				for _, m := range narrower(n) {
					for _, x := range items {
						more, less := Matches(of(n, anyNode()), 0, x), Matches(of(m, anyNode()), 0, x)
						if less && !more {
							t.Errorf("%s: %s takes it, but %s doesn't", spellItem(x), spellSchema(of(m)), spellSchema(of(n)))
						}
						if more && !less {
							lost++
						}
					}
				}
			}
		}
	}
	if lost == 0 {
		t.Error("none takes less")
	}
}

func TestNarrowerWithin(t *testing.T) { // P18.3: and so do all that name it
	r := rand.New(rand.NewSource(183))
	lost := 0
	for range 3000 {
		s := drawSchema(r, 2+r.Intn(6))
		node := r.Intn(len(s.Nodes))
		for _, m := range narrower(s.Nodes[node]) {
			less := api.Schema{Nodes: slices.Clone(s.Nodes)}
			less.Nodes[node] = m
			for from := range s.Nodes {
				left := 30
				x := drawMeant(r, s, from, &left)
				before, behind := check(t, s, x), check(t, less, x)
				for _, n := range behind {
					if !slices.Contains(before, n) {
						t.Fatalf("%s: %v, narrower %v", spellItem(x), before, behind)
					}
				}
				lost += len(before) - len(behind)
			}
		}
	}
	if lost == 0 {
		t.Error("none takes less")
	}
}

func TestChoicesOfAny(t *testing.T) { // P18.3: a choice ahead of all of a schema takes what one of its parts takes
	r := rand.New(rand.NewSource(184))
	for range 3000 {
		s := drawSchema(r, 1+r.Intn(6))
		more := of(choiceNode())
		for _, n := range s.Nodes {
			n.L, n.Fields = slices.Clone(n.L), slices.Clone(n.Fields)
			for i := range n.L {
				n.L[i]++
			}
			for i := range n.Fields {
				n.Fields[i].Node++
			}
			more.Nodes = append(more.Nodes, n)
		}
		var named []int
		for node := range s.Nodes {
			if r.Intn(2) == 0 || node == len(s.Nodes)-1 {
				named = append(named, node)
			}
		}
		for _, i := range r.Perm(len(named)) {
			more.Nodes[0].L = append(more.Nodes[0].L, named[i]+1)
		}
		left := 30
		x := drawMeant(r, s, r.Intn(len(s.Nodes)), &left)
		l := Set(s, x)
		want := slices.ContainsFunc(named, func(n int) bool { return slices.Contains(l, n) })
		if ok, err := Schema(more, x); ok != want || err != api.OK {
			t.Fatalf("%s and %s: %v, %v", spellSchema(more), spellItem(x), ok, err)
		}
	}
}
