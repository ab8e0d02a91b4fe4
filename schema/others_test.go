package schema

import (
	"math/rand"
	"slices"
	"strconv"
	"strings"
	"testing"

	"ullage/api"
)

// oddNodes are nodes of any fields, most of which could stand in no schema.
func oddNodes() []api.Node {
	long := strings.Repeat("a", 1022)
	return []api.Node{
		{Kind: -1}, {Kind: 11}, {Kind: minInt, Lo: minInt, Hi: maxInt, L: []int{minInt}}, {Kind: maxInt, Fields: []api.Field{field("a", maxInt)}},
		{L: []int{5}}, {L: []int{5, 5, -1, 0, 256, 5}}, {Fields: []api.Field{field("b", 3), field("a", 3), field("a", -1)}},
		{Kind: api.Int, L: []int{1, 2}, Fields: []api.Field{field("x", 4), optional("", 3)}},
		{Kind: api.Record, L: []int{9, 8}, Fields: []api.Field{optional("z", 7), field("y", 9), field("z", 7)}},
		{Kind: api.List, Lo: 3, Hi: 1, Fields: []api.Field{field("\xff", 1), field(long, 2), field("\xff", 3)}},
		{Kind: api.Choice}, {Kind: api.List}, {Kind: api.Tagged, L: []int{minInt, maxInt, 1 << 32}},
		{Kind: api.Value, Value: api.Item{Kind: api.Array, L: []api.Item{{}, {Kind: 77, S: "\xff"}}}, L: []int{0}},
		{Kind: api.Value, Value: deep(70)}, {Kind: api.Value, Value: api.Item{Kind: -7, N: 1 << 63, S: "a", L: []api.Item{{L: []api.Item{{}}}}}},
		{Kind: api.Tuple, L: slices.Repeat([]int{7}, 1000)}, {Kind: api.Record, Fields: slices.Repeat([]api.Field{field("", 1)}, 1000)},
	}
}

func TestNamed(t *testing.T) { // P16.2: worked out by hand
	for _, x := range []struct {
		n    api.Node
		want []int
	}{
		{api.Node{}, nil}, {intNode(1, 2), nil}, {valueNode(textOf("a")), nil}, {listNode(1, 2, 3), []int{3}}, {taggedNode(7, 2), []int{2}}, {tupleNode(), nil}, {tupleNode(3, 1, 2), []int{3, 1, 2}}, {choiceNode(1, 1, 4, 1), []int{1, 1, 4, 1}},
		{recordNode(), nil}, {recordNode(field("b", 9), optional("a", 3), field("c", 9)), []int{9, 3, 9}},
		{api.Node{Kind: -5, L: []int{4, -1}, Fields: []api.Field{field("b", 300), field("b", 4)}}, []int{4, -1, 300, 4}},
		{api.Node{Kind: api.Int, L: []int{minInt, maxInt}}, []int{minInt, maxInt}}, {api.Node{Kind: api.Record, L: []int{2}, Fields: []api.Field{field("\xff", 1)}}, []int{2, 1}},
		{api.Node{Lo: 5, Hi: 6, L: []int{}, Fields: []api.Field{}}, nil}, {api.Node{L: []int{0, 0}[:0], Fields: []api.Field{{}}[:0]}, nil},
	} {
		if l := Named(x.n); !slices.Equal(l, x.want) {
			t.Errorf("Named of %s: %v, want %v", spellNode(x.n), l, x.want)
		}
	}
	for _, n := range append(rightNodes(), oddNodes()...) {
		if l := Named(n); !slices.Equal(l, names(n)) {
			t.Errorf("Named of %s: %v, want %v", spellNode(n), l, names(n))
		}
	}
}

func TestWidth(t *testing.T) { // P16.2
	for nodes, words := range map[int]int{0: 0, 1: 1, 2: 1, 63: 1, 64: 1, 65: 2, 127: 2, 128: 2, 129: 3, 191: 3, 192: 3, 193: 4, 255: 4, 256: 4, 257: 5, 320: 5, 321: 6, 1 << 16: 1 << 10, 1<<16 + 1: 1<<10 + 1} {
		if n := Width(of(anys(nodes)...)); n != words {
			t.Errorf("Width of %d nodes: %d, want %d", nodes, n, words)
		}
		odd := anys(nodes)
		for i := range odd {
			odd[i] = oddNodes()[i%3]
		}
		if n := Width(of(odd...)); n != words {
			t.Errorf("Width of %d nodes that may not be: %d, want %d", nodes, n, words)
		}
	}
	if n := Width(api.Schema{Nodes: anys(65)[:0]}); n != 0 {
		t.Errorf("Width of no nodes: %d", n)
	}
}

// laid is how a text is encoded: by hand, as chapters 7 and 9 have it.
func laid(s string) string {
	n := len(s)
	switch {
	case n < 24:
		return string([]byte{byte(0x60 + n)}) + s
	case n < 256:
		return string([]byte{0x78, byte(n)}) + s
	case n < 65536:
		return string([]byte{0x79, byte(n >> 8), byte(n)}) + s
	}
	return string([]byte{0x7a, byte(n >> 24), byte(n >> 16), byte(n >> 8), byte(n)}) + s
}

// rising is Sorted, reckoned anew: each Field stands behind those that are less, and behind those that are alike ahead of it.
func rising(fields []api.Field) []api.Field {
	l := make([]api.Field, len(fields))
	for i, f := range fields {
		place := 0
		for j, g := range fields {
			if laid(g.Key) < laid(f.Key) || laid(g.Key) == laid(f.Key) && j < i {
				place++
			}
		}
		l[place] = f
	}
	return l
}

// checkSorted holds Sorted's answer against the one that is reckoned anew.
func checkSorted(t *testing.T, fields []api.Field) {
	t.Helper()
	want := rising(fields)
	for _, n := range []api.Node{recordNode(fields...), {Kind: -1, Lo: 7, L: []int{9}, Fields: fields}, {Fields: fields}} {
		if l := Sorted(n); !slices.Equal(l, want) {
			t.Fatalf("Sorted of %.500s: %.500s, want %.500s", spellFields(fields), spellFields(l), spellFields(want))
		}
	}
}

// numberedFields are Fields of those keys, told apart by their nodes.
func numberedFields(keys ...string) []api.Field {
	var l []api.Field
	for i, key := range keys {
		l = append(l, api.Field{Key: key, Node: i, Optional: i%3 == 1})
	}
	return l
}

func TestSorted(t *testing.T) { // P16.2: worked out by hand
	a, b, z := func(n int) string { return strings.Repeat("a", n) }, "b", "z"
	for _, x := range []struct {
		keys []string
		want []int // which of them
	}{
		{nil, nil}, {[]string{"a"}, []int{0}}, {[]string{"a", b}, []int{0, 1}}, {[]string{b, "a"}, []int{1, 0}},
		{[]string{"aa", b, "", "a"}, []int{2, 3, 1, 0}}, {[]string{z, "ab", "aa", "", b}, []int{3, 4, 0, 2, 1}},
		{[]string{"a", "a", "a"}, []int{0, 1, 2}}, {[]string{b, "a", b, "a"}, []int{1, 3, 0, 2}}, {[]string{"", "", "a", ""}, []int{0, 1, 3, 2}},
		{[]string{"ab", "a", "abc", ""}, []int{3, 1, 0, 2}}, {[]string{"a\x00", "a", "a\xc2\x80"}, []int{1, 0, 2}}, {[]string{"ü", "zz", "u"}, []int{2, 1, 0}},
		{[]string{a(24), a(23)}, []int{1, 0}}, {[]string{a(24), strings.Repeat(z, 23), a(22)}, []int{2, 1, 0}}, {[]string{a(256), strings.Repeat(z, 255)}, []int{1, 0}}, {[]string{a(256), a(255), a(24), a(23)}, []int{3, 2, 1, 0}}, {[]string{a(23) + z, a(24)}, []int{1, 0}}, {[]string{a(255) + z, a(255) + b, a(257)}, []int{1, 0, 2}},
		{[]string{a(512), strings.Repeat(z, 257), strings.Repeat(z, 511)}, []int{1, 2, 0}}, {[]string{a(65536), strings.Repeat(z, 65535)}, []int{1, 0}},
		{[]string{"\x7f", "\x01", "\x00"}, []int{2, 1, 0}}, {[]string{"\u0080", "\x7f\x7f", "é"}, []int{1, 0, 2}},
		{[]string{"\xff", "a", "\x80", "\xff"}, []int{1, 2, 0, 3}}, {[]string{"\xff\xff", "\xff", ""}, []int{2, 1, 0}}, // not in UTF-8
	} {
		fields := numberedFields(x.keys...)
		var want []api.Field
		for _, i := range x.want {
			want = append(want, fields[i])
		}
		if l := Sorted(recordNode(fields...)); !slices.Equal(l, want) {
			t.Errorf("Sorted of %.300q: %.500s, want %v", x.keys, spellFields(l), x.want)
		}
		checkSorted(t, fields)
	}
	if l := Sorted(api.Node{Kind: api.Tuple, L: []int{3, 2, 1}}); len(l) != 0 {
		t.Errorf("Sorted of a node without Fields: %v", l)
	}
}

func TestSortedInEveryOrder(t *testing.T) { // P16.2
	every([]string{"", "a", "b", "aa", "ab", "\x00", "ü"}, 5, func(keys []string) { checkSorted(t, numberedFields(keys...)) })
	lengths := []int{0, 1, 22, 23, 24, 25, 254, 255, 256, 257, 1020, 1021, 1022}
	var keys []string
	for _, n := range lengths {
		keys = append(keys, strings.Repeat("m", n))
		if n > 0 {
			keys = append(keys, strings.Repeat("m", n-1)+"a", strings.Repeat("z", n), "a"+strings.Repeat("z", n-1))
		}
	}
	for _, a := range keys {
		for _, b := range keys {
			checkSorted(t, numberedFields(a, b))
			checkSorted(t, numberedFields(a, b, a))
		}
	}
	r := rand.New(rand.NewSource(162))
	for range 200 {
		l := numberedFields(append(slices.Clone(keys), keys[:10]...)...)
		r.Shuffle(len(l), func(i, j int) { l[i], l[j] = l[j], l[i] })
		checkSorted(t, l)
	}
	for _, n := range append(rightNodes(), oddNodes()...) {
		if l := Sorted(n); !slices.Equal(l, rising(n.Fields)) {
			t.Errorf("Sorted of %.300s: %.300s", spellNode(n), spellFields(l))
		}
	}
}

func TestAlikeKeysStayInOrder(t *testing.T) { // P16.2: also of many
	var keys []string
	for i := range 3000 {
		keys = append(keys, []string{"b", "a", "aa", ""}[i*i%7%4])
	}
	checkSorted(t, numberedFields(keys...))
}

func TestSame(t *testing.T) { // P16.2: nodes that differ in one thing alone
	x := func() api.Item {
		return api.Item{Kind: api.Map, N: 3, S: "s", L: []api.Item{{N: 1}, {S: "a", L: []api.Item{{}}}}}
	}
	base := func() api.Node {
		return api.Node{Kind: 5, Lo: 1, Hi: 2, Value: x(), L: []int{3, 4}, Fields: []api.Field{field("a", 5), optional("b", 6)}}
	}
	changes := []func(n *api.Node){
		func(n *api.Node) { n.Kind = 6 }, func(n *api.Node) { n.Kind = -5 }, func(n *api.Node) { n.Kind += 1 << 32 }, func(n *api.Node) { n.Lo = 2 }, func(n *api.Node) { n.Lo = -1 }, func(n *api.Node) { n.Lo += 1 << 32 }, func(n *api.Node) { n.Hi = 1 }, func(n *api.Node) { n.Hi = minInt }, func(n *api.Node) { n.Lo, n.Hi = n.Hi, n.Lo },
		func(n *api.Node) { n.Value.Kind = api.Array }, func(n *api.Node) { n.Value.N = 4 }, func(n *api.Node) { n.Value.S = "t" }, func(n *api.Node) { n.Value.S = "" }, func(n *api.Node) { n.Value.L = nil }, func(n *api.Node) { n.Value.L = n.Value.L[:1] }, func(n *api.Node) { n.Value.L[0].N = 2 }, func(n *api.Node) { n.Value.L[1].L[0].S = "x" }, func(n *api.Node) { n.Value.L[1].L = nil }, func(n *api.Node) { n.Value.L[0], n.Value.L[1] = n.Value.L[1], n.Value.L[0] }, func(n *api.Node) { n.Value.L = append(n.Value.L, api.Item{}) }, func(n *api.Node) { n.Value = api.Item{} },
		func(n *api.Node) { n.L = nil }, func(n *api.Node) { n.L = n.L[:1] }, func(n *api.Node) { n.L = n.L[1:] }, func(n *api.Node) { n.L[0] = 4 }, func(n *api.Node) { n.L[1] = 3 }, func(n *api.Node) { n.L[0], n.L[1] = 4, 3 }, func(n *api.Node) { n.L = append(n.L, 4) }, func(n *api.Node) { n.L = append(n.L, 0) },
		func(n *api.Node) { n.Fields = nil }, func(n *api.Node) { n.Fields = n.Fields[:1] }, func(n *api.Node) { n.Fields = n.Fields[1:] }, func(n *api.Node) { n.Fields[0].Key = "A" }, func(n *api.Node) { n.Fields[0].Key = "" }, func(n *api.Node) { n.Fields[1].Key = "a" }, func(n *api.Node) { n.Fields[0].Node = 6 }, func(n *api.Node) { n.Fields[1].Node = -6 }, func(n *api.Node) { n.Fields[0].Optional = true }, func(n *api.Node) { n.Fields[1].Optional = false }, func(n *api.Node) { n.Fields[0], n.Fields[1] = n.Fields[1], n.Fields[0] }, func(n *api.Node) { n.Fields = append(n.Fields, api.Field{}) }, func(n *api.Node) { n.L, n.Fields = append(n.L, n.Fields[0].Node), n.Fields[1:] },
	}
	for _, nodes := range []int{1, 2, 3, 64, 256, 257} {
		table := func() api.Schema {
			l := make([]api.Node, nodes)
			for i := range l {
				l[i] = base()
			}
			return of(l...)
		}
		checkSame(t, table(), table(), true)
		for i, change := range changes {
			for _, place := range []int{0, nodes / 2, nodes - 1} {
				s := table()
				change(&s.Nodes[place])
				checkSame(t, s, table(), false)
				for j, other := range changes {
					if nodes < 4 {
						o := table()
						other(&o.Nodes[place])
						checkSame(t, s, o, i == j)
					}
				}
			}
		}
		checkSame(t, table(), api.Schema{}, false)
		checkSame(t, table(), of(table().Nodes[1:]...), false)
		checkSame(t, table(), of(append(table().Nodes, api.Node{})...), false)
		checkSame(t, table(), of(append(table().Nodes, base())...), false)
	}
}

// checkSame holds Same against what is wanted, and that against the schemas' spellings, both ways round.
func checkSame(t *testing.T, a, b api.Schema, want bool) {
	t.Helper()
	if (spell(a) == spell(b)) != want {
		t.Fatalf("the test wants %v of %s and %s", want, short(a), short(b))
	}
	if Same(a, b) != want || Same(b, a) != want {
		t.Fatalf("Same of %s and %s: %v, want %v", short(a), short(b), !want, want)
	}
}

func TestSameOfAny(t *testing.T) { // P16.2
	var l []api.Schema
	l = append(l, api.Schema{}, of(anyNode()), of(anyNode(), anyNode()), of(anyNode(), realNode()), of(realNode(), anyNode()))
	for _, n := range append(rightNodes(), oddNodes()...) {
		l = append(l, of(n), of(n, anyNode()), of(anyNode(), n), of(n, n))
	}
	for i, a := range l {
		for j, b := range l {
			checkSame(t, a, b, i == j || spell(a) == spell(b))
		}
		checkSame(t, a, copied(a), true)
	}
}

func TestSameOfListsWithoutElements(t *testing.T) { // P16.2, R3
	a := of(api.Node{Kind: api.Tuple})
	b := of(api.Node{Kind: api.Tuple, Value: api.Item{L: []api.Item{}}, L: []int{}, Fields: []api.Field{}})
	c := of(api.Node{Kind: api.Tuple, Value: api.Item{L: []api.Item{{N: 1}}[:0]}, L: []int{1}[:0], Fields: []api.Field{field("a", 1)}[:0]})
	d := api.Schema{Nodes: []api.Node{}}
	e := api.Schema{Nodes: anys(3)[:0]}
	for _, x := range []struct{ a, b api.Schema }{{a, b}, {a, c}, {b, c}, {d, api.Schema{}}, {e, api.Schema{}}, {d, e}} {
		checkSame(t, x.a, x.b, true)
	}
	checkSame(t, a, d, false)
	checkSame(t, e, c, false)
}

func TestDrawnSame(t *testing.T) { // P16.2: schemas that are much alike
	r := rand.New(rand.NewSource(163))
	for range 3000 {
		a := drawn(r, 1+r.Intn(5))
		b := copied(a)
		checkSame(t, a, b, true)
		i := r.Intn(len(b.Nodes))
		b.Nodes[i] = draw(r, i, len(b.Nodes))
		checkSame(t, a, b, spell(a) == spell(b))
		c := copied(a)
		r.Shuffle(len(c.Nodes), func(i, j int) { c.Nodes[i], c.Nodes[j] = c.Nodes[j], c.Nodes[i] })
		checkSame(t, a, c, spell(a) == spell(c))
	}
}

// led is Leads of each node, reckoned anew: by all ways, first those over no node, then those over the node 0, too, and so on.
func led(s api.Schema) [][]int {
	to := make([][]bool, len(s.Nodes))
	for i, n := range s.Nodes {
		to[i] = make([]bool, len(s.Nodes))
		for _, j := range names(n) {
			to[i][j] = true
		}
	}
	for over := range s.Nodes {
		for i := range s.Nodes {
			for j := range s.Nodes {
				to[i][j] = to[i][j] || to[i][over] && to[over][j]
			}
		}
	}
	l := make([][]int, len(s.Nodes))
	for i := range l {
		for j := range s.Nodes {
			if j == i || to[i][j] {
				l[i] = append(l[i], j)
			}
		}
	}
	return l
}

// checkLeads holds Leads from each node of a well-formed schema, and from others, against what is reckoned anew.
func checkLeads(t *testing.T, s api.Schema) {
	t.Helper()
	if _, err := Check(s); err != api.OK {
		t.Fatalf("the test wants a well-formed schema: %s", short(s))
	}
	for from, want := range led(s) {
		if l := Leads(s, from); !slices.Equal(l, want) {
			t.Fatalf("Leads of %s from %d: %v, want %v", short(s), from, l, want)
		}
	}
	checkNoLeads(t, s)
}

// checkNoLeads holds Leads from numbers that are no nodes.
func checkNoLeads(t *testing.T, s api.Schema) {
	t.Helper()
	n := len(s.Nodes)
	for _, from := range []int{minInt, minInt + 1, minInt + n, -1 << 32, -257, -256, -n - 1, -n, -2, -1, n, n + 1, n + 2, 256, 257, 512, 1 << 32, 1<<32 + n - 1, maxInt - 1, maxInt} {
		if from >= 0 && from < n {
			continue
		}
		if l := Leads(s, from); len(l) != 0 {
			t.Fatalf("Leads of %s from %d: %v", short(s), from, l)
		}
	}
}

func TestLeads(t *testing.T) { // P16.3: worked out by hand
	s := of(choiceNode(3, 1), recordNode(field("x", 4)), anyNode(), anyNode(), anyNode())
	for from, want := range [][]int{{0, 1, 3, 4}, {1, 4}, {2}, {3}, {4}} {
		if l := Leads(s, from); !slices.Equal(l, want) {
			t.Errorf("Leads from %d: %v, want %v", from, l, want)
		}
	}
	checkLeads(t, s)
	s = of(recordNode(field("b", 6), optional("a", 2)), taggedNode(1, 5), listNode(0, 1, 4), tupleNode(), tupleNode(6, 6, 5), intNode(0, 1), realNode())
	for from, want := range [][]int{{0, 2, 4, 5, 6}, {1, 5}, {2, 4, 5, 6}, {3}, {4, 5, 6}, {5}, {6}} {
		if l := Leads(s, from); !slices.Equal(l, want) {
			t.Errorf("Leads from %d: %v, want %v", from, l, want)
		}
	}
	checkLeads(t, s)
	checkLeads(t, of(anyNode()))
	checkLeads(t, of(anys(256)...))
	checkNoLeads(t, api.Schema{})
	checkNoLeads(t, api.Schema{Nodes: anys(256)[:0]})
}

func TestChains(t *testing.T) { // P16.3
	chain := func(nodes, step int) api.Schema {
		l := anys(nodes)
		for i := range nodes - step {
			l[i] = []api.Node{listNode(0, 1, i+step), tupleNode(i + step), recordNode(optional("a", i+step)), taggedNode(1, i+step), choiceNode(i + step)}[i%5]
		}
		return of(l...)
	}
	for _, nodes := range []int{2, 3, 64, 65, 255, 256} {
		s := chain(nodes, 1)
		for from := range nodes {
			l := Leads(s, from)
			if len(l) != nodes-from {
				t.Fatalf("Leads of a chain of %d from %d: %v", nodes, from, l)
			}
			for i, n := range l {
				if n != from+i {
					t.Fatalf("Leads of a chain of %d from %d: %v", nodes, from, l)
				}
			}
		}
		checkLeads(t, s)
		checkLeads(t, chain(nodes, 2))
		checkLeads(t, chain(nodes, nodes/2))
		checkLeads(t, chain(nodes, nodes-1))
	}
}

func TestManyWays(t *testing.T) { // P16.3: each node once, in however many ways it is led to
	behind := func(from, to int) []int {
		var l []int
		for i := to - 1; i > from; i-- {
			l = append(l, i)
		}
		return l
	}
	all, twice := anys(256), anys(256)
	for i := range 255 {
		all[i] = choiceNode(behind(i, 256)...)
		twice[i] = tupleNode(i+1, min(i+2, 255), i+1)
		if i%2 == 0 {
			twice[i] = recordNode(field("b", min(i+2, 255)), field("a", i+1))
		}
	}
	checkLeads(t, of(all...))
	checkLeads(t, of(twice...))
	halves := anys(256) // the first ones lead to the even, the second ones to the odd
	for i := range 254 {
		halves[i] = listNode(0, 1, i+2)
	}
	checkLeads(t, of(halves...))
	last := anys(256)
	for i := range 255 {
		last[i] = tupleNode(255, 255)
	}
	checkLeads(t, of(last...))
	fan := anys(256)
	fan[0] = choiceNode(behind(0, 256)...)
	checkLeads(t, of(fan...))
	fan[0] = anyNode()
	fan[1] = choiceNode(behind(100, 200)...)
	checkLeads(t, of(fan...))
}

func TestDrawnLeads(t *testing.T) { // P16.3
	r := rand.New(rand.NewSource(164))
	held := 0
	for range 6000 {
		s := drawn(r, 1+r.Intn(20))
		if _, err := Check(s); err == api.OK {
			checkLeads(t, s)
			held++
		}
	}
	if held < 1000 {
		t.Errorf("only %d were well-formed", held)
	}
}

// copied is the same schema in new memory.
func copied(s api.Schema) api.Schema {
	s.Nodes = slices.Clone(s.Nodes)
	for i := range s.Nodes {
		n := &s.Nodes[i]
		n.L, n.Fields, n.Value = slices.Clone(n.L), slices.Clone(n.Fields), copiedItem(n.Value)
	}
	return s
}

func copiedItem(x api.Item) api.Item {
	x.L = slices.Clone(x.L)
	for i := range x.L {
		x.L[i] = copiedItem(x.L[i])
	}
	return x
}

// Sentinels behind lists' lengths.
var (
	oddInt   = -12345
	oddField = api.Field{Key: "\xffodd", Node: -54321, Optional: true}
	oddItem  = api.Item{Kind: -99, N: 99, S: "\xffodd"}
)

// roomy is a copy of s, all of whose lists have more memory than they need, with things in it that could stand nowhere.
func roomy(s api.Schema) api.Schema {
	var l []api.Node
	for _, n := range s.Nodes {
		n.L = append(slices.Clone(n.L), oddInt, oddInt)[:len(n.L)]
		n.Fields = append(slices.Clone(n.Fields), oddField, oddField)[:len(n.Fields)]
		n.Value.L = append(slices.Clone(n.Value.L), oddItem)[:len(n.Value.L)]
		l = append(l, n)
	}
	return api.Schema{Nodes: append(l, api.Node{Kind: -1, Lo: 1}, api.Node{Kind: -1, Lo: 1})[:len(l)]}
}

// stands tells whether what lies behind the lists of such a copy is what was laid there.
func stands(s api.Schema) bool {
	behind := s.Nodes[len(s.Nodes) : len(s.Nodes)+2]
	for _, n := range behind {
		if spellNode(n) != spellNode(api.Node{Kind: -1, Lo: 1}) {
			return false
		}
	}
	for _, n := range s.Nodes {
		if l := n.L[len(n.L) : len(n.L)+2]; l[0] != oddInt || l[1] != oddInt {
			return false
		}
		if l := n.Fields[len(n.Fields) : len(n.Fields)+2]; l[0] != oddField || l[1] != oddField {
			return false
		}
		if x := n.Value.L[:len(n.Value.L)+1][len(n.Value.L)]; spellItem(x) != spellItem(oddItem) {
			return false
		}
	}
	return true
}

// told is what all calls tell of a schema, as a text.
func told(s api.Schema) string {
	at, err := Check(s)
	text := strconv.Itoa(at) + " " + strconv.Itoa(int(err)) + " " + strconv.Itoa(Width(s)) + " " + strconv.FormatBool(Same(s, s)) + ";"
	for _, n := range s.Nodes {
		text += spellInts(Named(n)) + ";" + spellFields(Sorted(n)) + ";"
	}
	if err == api.OK {
		for from := -1; from <= len(s.Nodes); from++ {
			text += spellInts(Leads(s, from)) + ";"
		}
	}
	return text
}

// someSchemas are schemas of all kinds, right and wrong.
func someSchemas() []api.Schema {
	r := rand.New(rand.NewSource(165))
	l := []api.Schema{{}, of(anyNode()), of(oddNodes()...)}
	for _, n := range append(rightNodes(), oddNodes()...) {
		l = append(l, of(n), of(n, anyNode(), anyNode(), anyNode()))
	}
	for i := range 300 {
		l = append(l, drawn(r, 1+i%20))
	}
	return append(l, drawn(r, 256), drawn(r, 257))
}

func TestNothingIsWritten(t *testing.T) { // R4, R6: what is handed in stands, and what lies behind it plays no part
	for _, s := range someSchemas() {
		text, answers := spell(s), told(s)
		in := roomy(s)
		for range 2 {
			if again := told(in); again != answers {
				t.Fatalf("of %s: %.500s, and then %.500s", short(s), answers, again)
			}
			for from := -1; from <= len(in.Nodes); from++ {
				Leads(in, from)
			}
			if spell(in) != text || !stands(in) {
				t.Fatalf("%s became %s, or what lies behind it changed", short(s), short(in))
			}
		}
		if told(s) != answers || spell(s) != text {
			t.Fatalf("%s: not the same answers again", short(s))
		}
	}
}

func TestAnswersMayBeWrittenOver(t *testing.T) { // R4: also behind their ends
	for _, s := range someSchemas() {
		in := roomy(s)
		text, answers := spell(in), told(in)
		for i, n := range in.Nodes {
			named, sorted := Named(n), Sorted(n)
			kept, keptFields, keptLeads := slices.Clone(named), slices.Clone(sorted), slices.Clone(Leads(in, i))
			namedToo, sortedToo, ledToo := Named(n), Sorted(n), Leads(in, i)
			for j := range named {
				named[j] = -77
			}
			for j := range sorted {
				sorted[j] = api.Field{Key: "rubbed"}
			}
			leads := Leads(in, i)
			for j := range leads {
				leads[j] = -77
			}
			for _, l := range [][]int{named, leads} {
				l = l[:cap(l)]
				for j := range l {
					l[j] = -78
				}
			}
			for j := range sorted[:cap(sorted)] {
				sorted[:cap(sorted)][j] = api.Field{Key: "rubbed more"}
			}
			if spell(in) != text || !stands(in) || !slices.Equal(namedToo, kept) || !slices.Equal(sortedToo, keptFields) || !slices.Equal(ledToo, keptLeads) {
				t.Fatalf("of %s, node %d: what was handed in, or another answer, changed", short(s), i)
			}
		}
		if told(in) != answers {
			t.Fatalf("of %s: other answers behind those that were written over", short(s))
		}
	}
}

func TestAnswersStand(t *testing.T) { // R4: what was handed in may be written over, and no answer changes by it
	for _, s := range someSchemas() {
		for i := range s.Nodes {
			in := copied(s)
			named, sorted, leads := Named(in.Nodes[i]), Sorted(in.Nodes[i]), Leads(in, i)
			text := spellInts(named) + ";" + spellFields(sorted) + ";" + spellInts(leads)
			for j := range in.Nodes {
				n := &in.Nodes[j]
				for k := range n.L {
					n.L[k] = -77
				}
				for k := range n.Fields {
					n.Fields[k] = oddField
				}
				*n = api.Node{Kind: -1}
			}
			if spellInts(named)+";"+spellFields(sorted)+";"+spellInts(leads) != text {
				t.Fatalf("of %s: an answer changed", short(s))
			}
			if i > 30 {
				break
			}
		}
	}
}

func TestNothingPanics(t *testing.T) { // P1, R1: whatever it is handed; Leads ends of schemas that aren't well-formed, too
	r := rand.New(rand.NewSource(166))
	number := func() int {
		if r.Intn(2) == 0 {
			return r.Intn(12) - 2
		}
		return int(r.Uint64() >> r.Intn(64))
	}
	text := func() string {
		b := make([]byte, r.Intn(4))
		r.Read(b)
		return string(b)
	}
	var some func(deep int) api.Item
	some = func(deep int) api.Item {
		x := api.Item{Kind: number(), N: uint64(number()), S: text()}
		for range r.Intn(3) {
			if deep > 0 {
				x.L = append(x.L, some(deep-1))
			}
		}
		return x
	}
	for range 20000 {
		var s api.Schema
		for range r.Intn(10) {
			n := api.Node{Kind: number(), Lo: number(), Hi: number(), Value: some(3)}
			for range r.Intn(4) {
				n.L = append(n.L, number())
			}
			for range r.Intn(4) {
				n.Fields = append(n.Fields, api.Field{Key: text(), Node: number(), Optional: r.Intn(2) == 0})
			}
			s.Nodes = append(s.Nodes, n)
			checkSorted(t, n.Fields)
			if !slices.Equal(Named(n), names(n)) {
				t.Fatalf("Named of %s: %v", spellNode(n), Named(n))
			}
		}
		check(t, s)
		if !Same(s, copied(s)) || Width(s) != min(len(s.Nodes), 1) {
			t.Fatalf("Same or Width of %s", short(s))
		}
		Leads(s, number())
		for from := range s.Nodes {
			Leads(s, from)
		}
	}
}

func TestLeadsOfOthersEnds(t *testing.T) { // P1, P16.3: of these no answer is promised
	loops := []api.Schema{
		of(choiceNode(0)), of(choiceNode(1), choiceNode(0)), of(tupleNode(1, 2), tupleNode(2, 0), tupleNode(0, 1, 2)), of(listNode(0, 1, -1), listNode(0, 1, maxInt), listNode(0, 1, minInt)), of(recordNode(field("a", 1), field("b", 2)), choiceNode(0)), of(oddNodes()...),
	}
	many := anys(1 << 16)
	for i := range many {
		many[i] = tupleNode(i+1, i-1, i, 0, len(many)-1)
	}
	for _, s := range append(loops, of(many...), of(many[:257]...), of(many[:256]...)) {
		for _, from := range []int{minInt, -1, 0, 1, 2, len(s.Nodes) / 2, len(s.Nodes) - 1, len(s.Nodes), maxInt} {
			Leads(s, from)
		}
		checkNoLeads(t, s)
	}
}

func TestVeryMuch(t *testing.T) { // P1: as much as the document promises anything of
	const most = 1 << 20
	var keys []string
	for i := range most / 8 {
		keys = append(keys, strconv.Itoa(i*7919%(most/8)))
	}
	n := recordNode(numberedFields(keys...)...)
	for i := range n.Fields {
		n.Fields[i].Node = 1
	}
	want(t, of(anyNode(), realNode()), 0, api.OK)
	if at, err := Check(of(n, anyNode())); at != 0 || err != api.OK {
		t.Errorf("Check of very many Fields: %d, %v", at, err)
	}
	l := Sorted(n)
	for i := 1; i < len(l); i++ {
		if laid(l[i-1].Key) >= laid(l[i].Key) {
			t.Fatalf("%q stands ahead of %q", l[i-1].Key, l[i].Key)
		}
	}
	if len(l) != len(n.Fields) || !Same(of(n), of(n)) || len(Named(n)) != len(n.Fields) || !slices.Equal(Leads(of(n, anyNode()), 0), []int{0, 1}) {
		t.Errorf("of %d Fields there are %d", len(n.Fields), len(l))
	}
	n.Fields[len(n.Fields)-1].Key = n.Fields[0].Key
	if at, err := Check(of(n, anyNode())); at != 0 || err != api.ErrTwice {
		t.Errorf("Check of very many Fields, the first one twice: %d, %v", at, err)
	}
	long := tupleNode(slices.Repeat([]int{1}, most)...)
	if at, err := Check(of(long, anyNode())); at != 0 || err != api.OK {
		t.Errorf("Check of a very long L: %d, %v", at, err)
	}
	long.L[most-1] = 2
	if at, err := Check(of(long, anyNode())); at != 0 || err != api.ErrRule {
		t.Errorf("Check of a very long L, the last one wrong: %d, %v", at, err)
	}
	value := valueNode(textOf(strings.Repeat("a", most)))
	key := recordNode(field(strings.Repeat("b", most), 1), field(strings.Repeat("a", most), 1))
	if at, err := Check(of(value, key, anyNode())); at != 1 || err != api.ErrKeyLength {
		t.Errorf("Check of a very long Key: %d, %v", at, err)
	}
	if l := Sorted(key); l[0] != key.Fields[1] || l[1] != key.Fields[0] {
		t.Error("Sorted of very long Keys")
	}
	far := of(valueNode(deep(1 << 18)))
	if at, err := Check(far); at != 0 || err != api.ErrForm || !Same(far, of(valueNode(deep(1<<18)))) || Same(far, of(valueNode(deep(1<<18-1)))) {
		t.Errorf("of a very deep Value: %d, %v", at, err)
	}
}
