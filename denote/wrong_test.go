package denote

import (
	"slices"
	"strings"
	"testing"

	"ullage/api"
	"ullage/item"
	"ullage/schema"
)

// wrongSchemas aren't well-formed; the nodes besides the wrong ones take any item.
func wrongSchemas() map[api.Errno][]api.Schema {
	return map[api.Errno][]api.Schema{
		api.ErrLimit:     {{}, of(make([]api.Node, 257)...), of(make([]api.Node, 1000)...), {Nodes: make([]api.Node, 3)[:0]}},
		api.ErrKind:      {of(api.Node{Kind: -1}), of(api.Node{Kind: 11}, anyNode()), of(anyNode(), api.Node{Kind: 11}), of(anyNode(), anyNode(), api.Node{Kind: minInt})},
		api.ErrForm:      {of(api.Node{Lo: 1}), of(anyNode(), api.Node{Hi: 1}), of(choiceNode()), of(anyNode(), api.Node{Kind: api.List, Hi: 1}), of(api.Node{Kind: api.Tagged, L: []int{1, 1}}, anyNode()), of(anyNode(), valueNode(floatOf(1))), of(anyNode(), valueNode(arrayOf())), of(anyNode(), valueNode(textOf("\xff"))), of(api.Node{Kind: api.Real, L: []int{1}}, anyNode()), of(api.Node{Kind: api.List, Lo: 0, Hi: 1, L: []int{}}, anyNode())},
		api.ErrRange:     {of(intNode(1, 0)), of(anyNode(), blobNode(-1, 1)), of(anyNode(), stringNode(2, 1)), of(listNode(-1, 1, 1), anyNode()), of(taggedNode(-1, 1), anyNode())},
		api.ErrUTF8:      {of(recordNode(field("\xff", 1)), anyNode()), of(recordNode(field("a", 1), perhaps("\xc3", 1)), anyNode())},
		api.ErrKeyLength: {of(recordNode(field(strings.Repeat("a", 1022), 1)), anyNode())},
		api.ErrTwice:     {of(recordNode(field("a", 1), perhaps("a", 1)), anyNode())},
		api.ErrRule:      {of(choiceNode(0)), of(choiceNode(1)), of(anyNode(), choiceNode(0)), of(anyNode(), choiceNode(1, 2)), of(choiceNode(1, -1), anyNode()), of(choiceNode(1, maxInt), anyNode()), of(listNode(0, 1, 0)), of(tupleNode(0)), of(tupleNode(1, 2), anyNode()), of(recordNode(field("a", 0))), of(recordNode(perhaps("a", minInt))), of(taggedNode(0, 0)), of(choiceNode(1), choiceNode(0), anyNode())},
	}
}

// wrongItems may not be, each with its error.
func wrongItems() map[api.Errno][]api.Item {
	return map[api.Errno][]api.Item{
		api.ErrForm:  {{Kind: -1}, {Kind: 9}, {Kind: 10}, {Kind: minInt}, {Kind: maxInt}, {S: "a"}, {L: []api.Item{{}}}, {Kind: api.Nint, N: 1, S: "\x00"}, {Kind: api.Bytes, N: 1}, {Kind: api.Text, N: 1, S: "a"}, {Kind: api.Text, S: "a", L: []api.Item{{}}}, {Kind: api.Bytes, L: []api.Item{{}}}, {Kind: api.Array, N: 1}, {Kind: api.Array, S: "a"}, {Kind: api.Map, N: 1}, {Kind: api.Map, S: "a"}, mapOf(uintOf(1)), mapOf(uintOf(1), uintOf(2), uintOf(3)), {Kind: api.Tag}, {Kind: api.Tag, N: 1, L: []api.Item{{}, {}}}, {Kind: api.Tag, S: "a", L: []api.Item{{}}}, {Kind: api.Simple, N: 20, S: "a"}, {Kind: api.Simple, L: []api.Item{{}}}, {Kind: api.Float, S: "a"}, {Kind: api.Float, L: []api.Item{{}}}},
		api.ErrRange: {simpleOf(24), simpleOf(31), simpleOf(256), simpleOf(1 << 63), numberOf(api.Float, 0x7ff0000000000001), numberOf(api.Float, 0xfff8000000000000), numberOf(api.Float, 0x7ff8000000000001)},
		api.ErrUTF8:  {textOf("\xff"), textOf("a\xc3"), textOf("\xed\xa0\x80")},
		api.ErrTwice: {mapOf(uintOf(1), uintOf(2), uintOf(1), uintOf(2)), mapOf(textOf("a"), uintOf(1), textOf("b"), uintOf(1), textOf("a"), uintOf(2)), mapOf(arrayOf(), uintOf(1), arrayOf(), uintOf(1)), mapOf(mapOf(uintOf(1), uintOf(2)), uintOf(0), mapOf(uintOf(1), uintOf(2)), uintOf(0))},
	}
}

// takers are schemas that take any item in some way; the third one any array.
func takers() []api.Schema {
	return []api.Schema{of(anyNode()), of(choiceNode(1), anyNode()), of(listNode(0, maxInt, 1), anyNode()), of(choiceNode(1, 2, 3, 4, 5, 6, 7, 8, 9), intNode(minInt, maxInt), blobNode(0, maxInt), stringNode(0, maxInt), realNode(), listNode(0, maxInt, 9), tupleNode(9), recordNode(perhaps("a", 9)), taggedNode(7, 9), anyNode())}
}

func TestWrongItems(t *testing.T) { // P18.1, P18.2: alone, and within others
	for want, l := range wrongItems() {
		for _, x := range l {
			for _, in := range append(ins(), func(x api.Item) api.Item { return x }) {
				for _, s := range takers() {
					for _, y := range []api.Item{in(x), in(in(x))} {
						if ok, err := Schema(s, y); ok || err != want || err != item.Check(y) {
							t.Errorf("Schema of %s: %v, %v, want %v", spellItem(y), ok, err, want)
						}
						wantSet(t, s, y)
					}
				}
			}
		}
	}
}

func TestWrongSchemas(t *testing.T) { // P18.1, P18.2: whichever node is asked
	for want, l := range wrongSchemas() {
		for _, s := range l {
			if _, err := schema.Check(s); err != want {
				t.Fatalf("%s: %v", spellSchema(s), err)
			}
			for _, x := range []api.Item{{}, uintOf(1), textOf("a"), arrayOf(), arrayOf(uintOf(1)), mapOf(textOf("a"), uintOf(1)), tagOf(0, uintOf(0)), floatOf(1), nested(uintOf(1), 70, ins()[0])} {
				if ok, err := Schema(s, x); ok || err != want {
					t.Errorf("Schema of %s: %v, %v, want %v", short(spellSchema(s)), ok, err, want)
				}
				wantSet(t, s, x)
			}
			for _, bad := range wrongItems() { // the schema's error comes first
				for _, x := range bad {
					if ok, err := Schema(s, x); ok || err != want {
						t.Errorf("Schema of %s and %s: %v, %v, want %v", short(spellSchema(s)), spellItem(x), ok, err, want)
					}
					wantSet(t, s, x)
				}
			}
		}
	}
}

func TestNodesThatAreNot(t *testing.T) { // P18.2, R1
	for _, s := range append(takers(), of(make([]api.Node, 256)...)) {
		for _, x := range []api.Item{uintOf(1), arrayOf(), textOf("a"), {Kind: 9}} {
			for _, node := range []int{-1, -2, -256, -1 << 32, minInt, minInt + 1, len(s.Nodes), len(s.Nodes) + 1, 256, 257, 1 << 32, 1<<32 + 1, maxInt - 1, maxInt} {
				if Matches(s, node, x) {
					t.Errorf("the node %d of %d: true", node, len(s.Nodes))
				}
			}
		}
	}
	all := of(make([]api.Node, 256)...)
	every := []int{}
	for node := range 256 {
		every = append(every, node)
	}
	wantSet(t, all, uintOf(1), every...)
}

func TestDepths(t *testing.T) { // P18.1: at most 64; P18.2: how deep it is says nothing of whether it may be
	for _, deep := range []int{1, 2, 3, 63, 64, 65, 66, 130} {
		for _, in := range ins() {
			x := nested(uintOf(1), deep-1, in)
			want := api.OK
			if deep > 64 {
				want = api.ErrDepth
			}
			for i, s := range takers() {
				takes := i != 2 || x.Kind == api.Array
				if ok, err := Schema(s, x); ok != (takes && want == api.OK) || err != want {
					t.Errorf("Schema of %d levels: %v, %v, want %v", deep, ok, err, want)
				}
			}
			check(t, takers()[1], x)
			check(t, takers()[2], x)
			check(t, takers()[3], x)
			wantSet(t, of(anyNode(), intNode(0, maxInt), anyNode()), arrayOf(x), 0, 2)
			for _, bad := range []api.Item{{Kind: 9}, textOf("\xff"), simpleOf(24), mapOf(uintOf(1)), {Kind: api.Array, N: 1}, mapOf(uintOf(1), uintOf(2), uintOf(1), uintOf(3)), {Kind: api.Tag, L: []api.Item{{}, {}}}} {
				wantSet(t, takers()[1], nested(bad, deep-1, in))
				wantSet(t, takers()[1], arrayOf(nested(uintOf(1), deep-1, in), bad))
				wantSet(t, takers()[1], arrayOf(bad, nested(uintOf(1), deep-1, in)))
			}
		}
	}
}

func TestVeryDeep(t *testing.T) { // R1: it ends, and doesn't panic
	for _, deep := range []int{1 << 12, 1 << 16} {
		for _, in := range ins()[:4] {
			x, bad := nested(uintOf(1), deep, in), nested(api.Item{Kind: 9}, deep, in)
			s := of(choiceNode(1, 2), anyNode(), listNode(1, 1, 3), anyNode())
			want := []int{0, 1, 3}
			if x.Kind == api.Array {
				want = []int{0, 1, 2, 3}
			}
			if l := Set(s, x); !slices.Equal(l, want) {
				t.Errorf("%d levels: %v", deep, l)
			}
			if l := Set(s, bad); len(l) > 0 || Matches(s, 1, bad) {
				t.Errorf("%d levels about a wrong item: %v", deep, l)
			}
			if ok, err := Schema(s, bad); ok || err != api.ErrDepth {
				t.Errorf("Schema: %v, %v", ok, err)
			}
		}
	}
}

func TestDeepKeys(t *testing.T) { // P18.2: alike by 8's Same, however deep
	for _, deep := range []int{1, 10, 62, 63, 64, 65, 80} {
		for _, in := range ins() {
			key := func(x api.Item) api.Item { return nested(x, deep, in) }
			for _, y := range []struct {
				a, b api.Item
				same bool
			}{
				{uintOf(1), uintOf(1), true}, {uintOf(1), uintOf(2), false}, {uintOf(1), nintOf(1), false}, {uintOf(1), nintOf(0), false}, {uintOf(7), simpleOf(0), false}, {uintOf(1), simpleOf(1), false}, {uintOf(1), numberOf(api.Float, 1), false}, {textOf("b1"), bytesOf("b1"), false}, {textOf("b1"), textOf("b1"), true}, {textOf("b1"), textOf("b12"), false}, {bytesOf("\xff"), bytesOf("\xfe"), false}, {bytesOf("\xff"), bytesOf("\xff"), true}, {bytesOf(""), textOf(""), false},
				{arrayOf(), mapOf(), false}, {arrayOf(), arrayOf(arrayOf()), false}, {arrayOf(uintOf(0), uintOf(1)), arrayOf(uintOf(0), uintOf(1)), true}, {arrayOf(uintOf(0), uintOf(1)), arrayOf(uintOf(1), uintOf(0)), false}, {arrayOf(uintOf(0), uintOf(1)), mapOf(uintOf(0), uintOf(1)), false}, {arrayOf(uintOf(0)), tagOf(0, uintOf(0)), false}, {tagOf(1, uintOf(0)), tagOf(2, uintOf(0)), false}, {tagOf(2, uintOf(0)), tagOf(2, uintOf(0)), true},
				{mapOf(uintOf(1), uintOf(0), uintOf(2), uintOf(0)), mapOf(uintOf(2), uintOf(0), uintOf(1), uintOf(0)), false}, {mapOf(uintOf(1), uintOf(0), uintOf(2), uintOf(0)), mapOf(uintOf(1), uintOf(0), uintOf(2), uintOf(0)), true},
			} {
				want := []int{0}
				if y.same {
					want = nil
				}
				for _, x := range []api.Item{
					mapOf(key(y.a), uintOf(1), key(y.b), uintOf(2)),
					mapOf(uintOf(7), uintOf(7), key(y.a), uintOf(1), uintOf(1), uintOf(1), key(y.b), uintOf(1)),
					arrayOf(nested(uintOf(1), 70, ins()[0]), arrayOf(mapOf(key(y.b), arrayOf(), key(y.a), arrayOf()))),
				} {
					if mayBe(x) == y.same {
						t.Fatalf("%s: %v", short(spellItem(x)), mayBe(x))
					}
					wantSet(t, of(anyNode()), x, want...)
				}
			}
		}
	}
	a, b := nested(uintOf(1), 70, ins()[0]), nested(uintOf(2), 70, ins()[0])
	wantSet(t, of(anyNode()), mapOf(uintOf(1), a, uintOf(2), a), 0) // values may be alike
	wantSet(t, of(anyNode()), mapOf(a, a, b, b, uintOf(0), a), 0)
	wantSet(t, of(anyNode()), mapOf(a, a, b, b, uintOf(0), a, b, uintOf(4)))
	wantSet(t, of(anyNode()), mapOf(uintOf(0), a, b, a, uintOf(0), b))
	wantSet(t, of(anyNode()), mapOf(a, uintOf(0), mapOf(a, uintOf(0), a, uintOf(0)), uintOf(0)))
}

// behind is a list whose memory goes on with what may not be read.
func behind[T any](l []T, bad T) []T {
	full := append(slices.Clone(l), bad, bad)
	return full[:len(l)]
}

// guarded is x, with items that may not be behind all of its lists.
func guarded(x api.Item) api.Item {
	var l []api.Item
	for _, y := range x.L {
		l = append(l, guarded(y))
	}
	x.L = behind(l, api.Item{Kind: 77, S: "\xff"})
	return x
}

func TestMemory(t *testing.T) { // R4, R6: nothing handed in is changed, nothing behind lists is read, and answers are told again
	bad := api.Node{Kind: 77, Lo: 5}
	plain := of(choiceNode(1, 2, 3, 4), recordNode(field("a", 5), perhaps("b", 6)), listNode(0, 2, 5), tupleNode(5, 6), taggedNode(3, 5), intNode(0, 9), anyNode())
	s := api.Schema{}
	for _, n := range plain.Nodes {
		n.L, n.Fields = behind(n.L, 0), behind(n.Fields, field("\xff", -1))
		s.Nodes = append(s.Nodes, n)
	}
	s.Nodes = behind(s.Nodes, bad)
	wrong := api.Item{Kind: 77, S: "\xff"}
	for _, x := range []api.Item{uintOf(1), mapOf(textOf("b"), arrayOf(), textOf("a"), uintOf(1)), arrayOf(uintOf(1)), arrayOf(uintOf(1), arrayOf()), tagOf(3, uintOf(3)), arrayOf(), nested(mapOf(uintOf(2), uintOf(1), uintOf(1), uintOf(1)), 80, ins()[0]), nested(uintOf(1), 80, ins()[5])} {
		y := guarded(x)
		schemaBefore, itemBefore := spellSchema(s), spellItem(y)
		want := check(t, plain, x)
		for range 3 {
			l := Set(s, y)
			if !slices.Equal(l, want) {
				t.Fatalf("Set of %s: %v, want %v", short(spellItem(x)), l, want)
			}
			for i := range l {
				l[i] = -1
			}
			wantSet(t, s, y, want...)
		}
		if spellSchema(s) != schemaBefore || spellItem(y) != itemBefore {
			t.Fatal("what was handed in is changed")
		}
		full := s.Nodes[:len(s.Nodes)+2]
		if full[len(s.Nodes)].Kind != 77 || full[len(s.Nodes)].Lo != 5 || s.Nodes[0].L[:6][4] != 0 || s.Nodes[1].Fields[:3][2].Key != "\xff" || spellItem(y.L[:len(y.L)+2][len(y.L)+1]) != spellItem(wrong) {
			t.Fatal("what is behind a list is written")
		}
	}
}

func TestListsWithoutElements(t *testing.T) { // R3: nil, or not
	s := of(tupleNode(), recordNode(), listNode(0, 0, 3), anyNode())
	for _, l := range [][]api.Item{nil, {}, behind(nil, api.Item{Kind: 9})} {
		wantSet(t, s, api.Item{Kind: api.Array, L: l}, 0, 2, 3)
		wantSet(t, s, api.Item{Kind: api.Map, L: l}, 1, 3)
		wantSet(t, s, api.Item{Kind: api.Uint, L: l}, 3)
	}
	s.Nodes[0].L, s.Nodes[1].Fields, s.Nodes[3].L = []int{}, []api.Field{}, []int{}
	wantSet(t, s, arrayOf(), 0, 2, 3)
	wantSet(t, s, mapOf(), 1, 3)
	wantSet(t, of(valueNode(api.Item{L: []api.Item{}})), uintOf(0), 0)
	wantSet(t, of(valueNode(uintOf(0))), api.Item{L: []api.Item{}}, 0)
}
