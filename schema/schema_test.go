package schema

import (
	"math"
	"math/rand"
	"slices"
	"strconv"
	"strings"
	"testing"
	"unicode/utf8"

	"ullage/api"
)

func of(l ...api.Node) api.Schema { return api.Schema{Nodes: l} }

func anyNode() api.Node               { return api.Node{Kind: api.Any} }
func realNode() api.Node              { return api.Node{Kind: api.Real} }
func intNode(lo, hi int) api.Node     { return api.Node{Kind: api.Int, Lo: lo, Hi: hi} }
func blobNode(lo, hi int) api.Node    { return api.Node{Kind: api.Blob, Lo: lo, Hi: hi} }
func stringNode(lo, hi int) api.Node  { return api.Node{Kind: api.String, Lo: lo, Hi: hi} }
func valueNode(x api.Item) api.Node   { return api.Node{Kind: api.Value, Value: x} }
func listNode(lo, hi, n int) api.Node { return api.Node{Kind: api.List, Lo: lo, Hi: hi, L: []int{n}} }
func tupleNode(l ...int) api.Node     { return api.Node{Kind: api.Tuple, L: l} }
func taggedNode(lo, n int) api.Node   { return api.Node{Kind: api.Tagged, Lo: lo, L: []int{n}} }
func choiceNode(l ...int) api.Node    { return api.Node{Kind: api.Choice, L: l} }

func recordNode(l ...api.Field) api.Node          { return api.Node{Kind: api.Record, Fields: l} }
func field(key string, n int) api.Field           { return api.Field{Key: key, Node: n} }
func optional(key string, n int) api.Field        { return api.Field{Key: key, Node: n, Optional: true} }
func textOf(s string) api.Item                    { return api.Item{Kind: api.Text, S: s} }
func bytesOf(s string) api.Item                   { return api.Item{Kind: api.Bytes, S: s} }
func itemOf(kind int, l ...api.Item) api.Item     { return api.Item{Kind: kind, L: l} }
func numberOf(kind int, n uint64) api.Item        { return api.Item{Kind: kind, N: n} }
func with(n api.Node, f func(*api.Node)) api.Node { f(&n); return n }

// The kinds, and how many there are, written out.
const (
	kinds    = 11
	mostKey  = 1021
	minInt   = math.MinInt
	maxInt   = math.MaxInt
	maxNodes = 256
)

// spellItem is a text that is the same just for items that are the same.
func spellItem(x api.Item) string {
	var b strings.Builder
	b.WriteString("(" + strconv.Itoa(x.Kind) + " " + strconv.FormatUint(x.N, 16) + " " + strconv.Quote(x.S))
	for _, y := range x.L {
		b.WriteString(spellItem(y))
	}
	b.WriteString(")")
	return b.String()
}

func spellFields(l []api.Field) string {
	var b strings.Builder
	for _, f := range l {
		b.WriteString("<" + strconv.Quote(f.Key) + " " + strconv.Itoa(f.Node) + " " + strconv.FormatBool(f.Optional) + ">")
	}
	return b.String()
}

func spellInts(l []int) string {
	var b strings.Builder
	for _, n := range l {
		b.WriteString(strconv.Itoa(n) + ",")
	}
	return b.String()
}

// spellNode is a text that is the same just for nodes that are the same.
func spellNode(n api.Node) string {
	return "{" + strconv.Itoa(n.Kind) + " " + strconv.Itoa(n.Lo) + " " + strconv.Itoa(n.Hi) + " " + spellItem(n.Value) + " [" + spellInts(n.L) + "] [" + spellFields(n.Fields) + "]}"
}

// spell is a text that is the same just for schemas that are the same.
func spell(s api.Schema) string {
	var b strings.Builder
	for _, n := range s.Nodes {
		b.WriteString(spellNode(n))
	}
	return b.String()
}

// short is what a schema is called, where its spelling would be long.
func short(s api.Schema) string {
	text := spell(s)
	return strconv.Itoa(len(s.Nodes)) + " nodes: " + text[:min(len(text), 400)]
}

// rule is what a kind of node has, told anew from the chapter's table.
type rule struct {
	lo, hi, value, fields bool
	least, most           int  // nodes in L
	from0                 bool // Lo
}

const many = maxInt

func rules() map[int]rule {
	return map[int]rule{
		api.Any:    {},
		api.Int:    {lo: true, hi: true},
		api.Blob:   {lo: true, hi: true, from0: true},
		api.String: {lo: true, hi: true, from0: true},
		api.Value:  {value: true},
		api.Real:   {},
		api.List:   {lo: true, hi: true, from0: true, least: 1, most: 1},
		api.Tuple:  {most: many},
		api.Record: {fields: true},
		api.Tagged: {lo: true, from0: true, least: 1, most: 1},
		api.Choice: {least: 1, most: many},
	}
}

// mayStand tells whether x may be a Value: of the kinds that may, which have no items, just those that may be.
func mayStand(x api.Item) bool {
	if len(x.L) > 0 {
		return false
	}
	switch x.Kind {
	case api.Uint, api.Nint:
		return x.S == ""
	case api.Simple:
		return x.S == "" && (x.N <= 23 || 32 <= x.N && x.N <= 255)
	case api.Bytes:
		return x.N == 0
	case api.Text:
		return x.N == 0 && utf8.ValidString(x.S)
	}
	return false
}

// isForm tells whether a node has ErrForm, its kind having that rule.
func isForm(n api.Node, r rule) bool {
	zero := spellItem(api.Item{})
	switch {
	case !r.lo && n.Lo != 0, !r.hi && n.Hi != 0, !r.fields && len(n.Fields) > 0:
		return true
	case !r.value && spellItem(n.Value) != zero, r.value && !mayStand(n.Value):
		return true
	}
	return len(n.L) < r.least || len(n.L) > r.most
}

// keyError is what is wrong of a Key, the Fields ahead of it being known.
func keyError(key string, ahead []api.Field) api.Errno {
	if !utf8.ValidString(key) {
		return api.ErrUTF8
	}
	if len(key) > mostKey {
		return api.ErrKeyLength
	}
	for _, f := range ahead {
		if f.Key == key {
			return api.ErrTwice
		}
	}
	return api.OK
}

// wrongs are all errors that a node has, in the order in which they are looked for.
func wrongs(s api.Schema, i int) []api.Errno {
	n := s.Nodes[i]
	r, is := rules()[n.Kind]
	if !is {
		return []api.Errno{api.ErrKind}
	}
	var l []api.Errno
	if isForm(n, r) {
		l = append(l, api.ErrForm)
	}
	if r.from0 && n.Lo < 0 || r.hi && n.Lo > n.Hi {
		l = append(l, api.ErrRange)
	}
	for j, f := range n.Fields {
		if e := keyError(f.Key, n.Fields[:j]); e != api.OK {
			l = append(l, e)
		}
	}
	for _, to := range names(n) {
		if to <= i || to > len(s.Nodes)-1 {
			return append(l, api.ErrRule)
		}
	}
	return l
}

// names is Named, reckoned anew.
func names(n api.Node) []int {
	l := make([]int, len(n.L)+len(n.Fields))
	for i := range l {
		if i < len(n.L) {
			l[i] = n.L[i]
		} else {
			l[i] = n.Fields[i-len(n.L)].Node
		}
	}
	return l
}

// reckon is Check, reckoned anew.
func reckon(s api.Schema) (int, api.Errno) {
	if len(s.Nodes) == 0 || len(s.Nodes) > maxNodes {
		return 0, api.ErrLimit
	}
	for i := range s.Nodes {
		if l := wrongs(s, i); len(l) > 0 {
			return i, l[0]
		}
	}
	return 0, api.OK
}

// want holds Check's answer against one that was worked out by hand, and that against the one that is reckoned anew.
func want(t *testing.T, s api.Schema, at int, err api.Errno) {
	t.Helper()
	if n, e := reckon(s); n != at || e != err {
		t.Fatalf("the test wants %d, %v of %s, but reckons %d, %v", at, err, short(s), n, e)
	}
	if n, e := Check(s); n != at || e != err {
		t.Fatalf("Check of %s: %d, %v, want %d, %v", short(s), n, e, at, err)
	}
}

// check holds Check's answer against the one that is reckoned anew.
func check(t *testing.T, s api.Schema) {
	t.Helper()
	at, err := reckon(s)
	if n, e := Check(s); n != at || e != err {
		t.Fatalf("Check of %s: %d, %v, want %d, %v", short(s), n, e, at, err)
	}
}

// anys are so many nodes of the kind Any.
func anys(n int) []api.Node { return make([]api.Node, n) }

// placed is a schema of so many nodes, n at a place, all others of the kind Any; n's names, which count from its place, are moved there.
func placed(n api.Node, place, nodes int) api.Schema {
	l := anys(nodes)
	n.L = slices.Clone(n.L)
	for i := range n.L {
		n.L[i] += place
	}
	n.Fields = slices.Clone(n.Fields)
	for i := range n.Fields {
		n.Fields[i].Node += place
	}
	l[place] = n
	return of(l...)
}

// everywhere holds Check's answer of a node at several places of several tables: it names at most three nodes behind it.
func everywhere(t *testing.T, n api.Node, err api.Errno) {
	t.Helper()
	for _, nodes := range []int{4, 5, 64, maxNodes} {
		for _, place := range []int{0, 1, nodes / 2, nodes - 4} {
			if place > nodes-4 {
				continue
			}
			at := place
			if err == api.OK {
				at = 0
			}
			want(t, placed(n, place, nodes), at, err)
		}
	}
}

// rightNodes are nodes of every kind that may stand ahead of three others.
func rightNodes() []api.Node {
	return []api.Node{
		anyNode(), realNode(),
		intNode(0, 0), intNode(-5, 9), intNode(minInt, maxInt), intNode(3, 4),
		blobNode(0, 0), blobNode(1, 2), blobNode(0, maxInt),
		stringNode(0, 0), stringNode(7, 7), stringNode(0, maxInt),
		valueNode(api.Item{}), valueNode(numberOf(api.Uint, 5)), valueNode(numberOf(api.Nint, 5)), valueNode(bytesOf("\xff")), valueNode(textOf("ü")), valueNode(numberOf(api.Simple, 22)),
		listNode(0, 0, 1), listNode(1, 4, 2), listNode(0, maxInt, 3),
		tupleNode(), tupleNode(1), tupleNode(3, 1, 2), tupleNode(1, 1, 1, 1),
		recordNode(), recordNode(field("a", 1)), recordNode(field("b", 1), optional("a", 3), field("", 1)),
		taggedNode(0, 1), taggedNode(1, 2), taggedNode(maxInt, 3),
		choiceNode(1), choiceNode(2, 1), choiceNode(3, 3, 3),
	}
}

func TestExample(t *testing.T) { // P16.1
	want(t, of(choiceNode(1, 2), stringNode(0, 9), listNode(0, 9, 2)), 2, api.ErrRule)
	want(t, of(choiceNode(1, 2), stringNode(0, 9), listNode(0, 9, 3)), 2, api.ErrRule)
	want(t, of(choiceNode(1, 2), stringNode(0, 9), listNode(0, 9, 3), anyNode()), 0, api.OK)
}

func TestHowManyNodes(t *testing.T) { // P16.1
	want(t, api.Schema{}, 0, api.ErrLimit)
	want(t, of([]api.Node{}...), 0, api.ErrLimit)
	want(t, api.Schema{Nodes: anys(9)[:0]}, 0, api.ErrLimit)
	for _, n := range []int{1, 2, 3, 63, 64, 65, 255, 256} {
		want(t, of(anys(n)...), 0, api.OK)
		l := anys(n)
		l[n-1].Kind = kinds
		want(t, of(l...), n-1, api.ErrKind)
		l[0] = intNode(1, 0)
		if n > 1 {
			want(t, of(l...), 0, api.ErrRange)
		}
	}
	for _, n := range []int{257, 258, 511, 512, 513, 65536, 65537, 1 << 17} {
		want(t, of(anys(n)...), 0, api.ErrLimit)
		l := anys(n)
		l[0].Kind, l[1].Kind, l[256].Kind = -1, -1, -1
		want(t, of(l...), 0, api.ErrLimit)
	}
}

func TestRightNodes(t *testing.T) { // P16.1
	for _, n := range rightNodes() {
		everywhere(t, n, api.OK)
	}
	l := rightNodes()
	for i := range l {
		l[i] = placed(l[i], i, len(l)+3).Nodes[i]
	}
	want(t, of(append(l, anys(3)...)...), 0, api.OK)
}

func TestKinds(t *testing.T) { // P16.1
	for _, kind := range []int{-1, -2, -10, -11, -256, minInt, minInt + 1, 11, 12, 13, 21, 22, 255, 256, 257, 266, 1 << 32, 1<<32 + 1, maxInt - 1, maxInt} {
		everywhere(t, api.Node{Kind: kind}, api.ErrKind)
		for _, n := range rightNodes() { // whatever else it has
			n.Kind = kind
			everywhere(t, n, api.ErrKind)
		}
		everywhere(t, api.Node{Kind: kind, Lo: 2, Hi: 1, Value: api.Item{Kind: 9}, L: []int{-1000}, Fields: []api.Field{field("\xff", -1000)}}, api.ErrKind)
	}
}

// set is how a field of a node is set to something, and whose field it is.
type set struct {
	is func(r rule) bool
	to func(n *api.Node)
}

// sets are ways to set a field that should be zero, each alone.
func sets() []set {
	var l []set
	for _, v := range []int{1, -1, 2, 256, 1 << 32, minInt, maxInt} {
		l = append(l, set{func(r rule) bool { return r.lo }, func(n *api.Node) { n.Lo = v }})
		l = append(l, set{func(r rule) bool { return r.hi }, func(n *api.Node) { n.Hi = v }})
	}
	for _, x := range []api.Item{{N: 1}, {N: 1 << 63}, {S: "a"}, {S: "\x00"}, {L: []api.Item{{}}}, {Kind: api.Nint}, {Kind: api.Bytes}, {Kind: api.Text}, {Kind: api.Array}, {Kind: api.Float}, {Kind: -1}, {Kind: 9}} {
		l = append(l, set{func(r rule) bool { return r.value }, func(n *api.Node) { n.Value = x }})
	}
	for _, names := range [][]int{{1}, {0}, {-1}, {2, 1}, {maxInt}} {
		l = append(l, set{func(r rule) bool { return r.most > 0 }, func(n *api.Node) { n.L = names }})
	}
	for _, fields := range [][]api.Field{{{}}, {field("a", 1)}, {field("", 1)}, {field("a", 0)}, {optional("", 0)}, {field("a", 1), field("b", 2)}, {field("\xff", 1)}} {
		l = append(l, set{func(r rule) bool { return r.fields }, func(n *api.Node) { n.Fields = fields }})
	}
	return l
}

func TestFieldsThatShouldBeZero(t *testing.T) { // P16.1: each alone, and each two
	for _, n := range rightNodes() {
		r := rules()[n.Kind]
		for _, a := range sets() {
			if a.is(r) {
				continue
			}
			everywhere(t, with(n, a.to), api.ErrForm)
			for _, b := range sets() {
				if !b.is(r) {
					want(t, placed(with(with(n, a.to), b.to), 1, 5), 1, api.ErrForm)
				}
			}
		}
	}
}

func TestListsWithoutElements(t *testing.T) { // P16.1, R3: they are the same thing as nil
	for _, n := range rightNodes() {
		n := placed(n, 0, 4).Nodes[0]
		if len(n.L) == 0 {
			n.L = []int{}
			want(t, of(n, anyNode(), anyNode(), anyNode()), 0, api.OK)
			n.L = []int{7, 7}[:0]
		}
		if len(n.Fields) == 0 {
			n.Fields = []api.Field{}
			want(t, of(n, anyNode(), anyNode(), anyNode()), 0, api.OK)
			n.Fields = []api.Field{{Key: "\xff"}}[:0]
		}
		n.Value.L = []api.Item{}
		want(t, of(n, anyNode(), anyNode(), anyNode()), 0, api.OK)
		n.Value.L = []api.Item{{Kind: 77}}[:0]
		want(t, of(n, anyNode(), anyNode(), anyNode()), 0, api.OK)
	}
	want(t, of(api.Node{Kind: api.Choice, L: []int{}}, anyNode()), 0, api.ErrForm)
	want(t, of(api.Node{Kind: api.Choice, L: []int{1}[:0]}, anyNode()), 0, api.ErrForm)
	want(t, of(api.Node{Kind: api.List, L: []int{1}[:0]}, anyNode()), 0, api.ErrForm)
	want(t, of(api.Node{Kind: api.Tagged, L: []int{1}[:0]}, anyNode()), 0, api.ErrForm)
}

func TestNumbers(t *testing.T) { // P16.1: just right, and wrong by one
	for _, x := range []struct {
		lo, hi int
		number api.Errno // of Int
		count  api.Errno // of Blob, String, List
	}{
		{0, 0, api.OK, api.OK}, {0, 1, api.OK, api.OK}, {1, 1, api.OK, api.OK}, {1, 0, api.ErrRange, api.ErrRange}, {0, -1, api.ErrRange, api.ErrRange},
		{-1, 0, api.OK, api.ErrRange}, {-1, -1, api.OK, api.ErrRange}, {-1, -2, api.ErrRange, api.ErrRange}, {-1, 1, api.OK, api.ErrRange}, {-2, -1, api.OK, api.ErrRange},
		{-5, -5, api.OK, api.ErrRange}, {-5, -6, api.ErrRange, api.ErrRange}, {5, 5, api.OK, api.OK}, {5, 4, api.ErrRange, api.ErrRange}, {5, 6, api.OK, api.OK},
		{0, maxInt, api.OK, api.OK}, {maxInt, maxInt, api.OK, api.OK}, {maxInt, maxInt - 1, api.ErrRange, api.ErrRange}, {maxInt - 1, maxInt, api.OK, api.OK}, {maxInt, 0, api.ErrRange, api.ErrRange},
		{minInt, minInt, api.OK, api.ErrRange}, {minInt, maxInt, api.OK, api.ErrRange}, {minInt, 0, api.OK, api.ErrRange}, {minInt + 1, minInt, api.ErrRange, api.ErrRange}, {0, minInt, api.ErrRange, api.ErrRange},
		{maxInt, minInt, api.ErrRange, api.ErrRange}, {maxInt, -1, api.ErrRange, api.ErrRange}, {1, minInt, api.ErrRange, api.ErrRange}, {minInt, -1, api.OK, api.ErrRange},
		{1 << 32, 1 << 32, api.OK, api.OK}, {1 << 32, 1<<32 - 1, api.ErrRange, api.ErrRange}, {1 << 31, 1, api.ErrRange, api.ErrRange}, {1, 1 << 32, api.OK, api.OK},
	} {
		everywhere(t, intNode(x.lo, x.hi), x.number)
		everywhere(t, blobNode(x.lo, x.hi), x.count)
		everywhere(t, stringNode(x.lo, x.hi), x.count)
		everywhere(t, listNode(x.lo, x.hi, 1), x.count)
	}
	for _, lo := range []int{0, 1, 23, 24, 1 << 32, maxInt - 1, maxInt} {
		everywhere(t, taggedNode(lo, 1), api.OK)
	}
	for _, lo := range []int{-1, -2, -1 << 32, minInt + 1, minInt} {
		everywhere(t, taggedNode(lo, 1), api.ErrRange)
	}
}

func TestHowManyInL(t *testing.T) { // P16.1
	to := func(n int) []int { return slices.Repeat([]int{1}, n) }
	for n, errs := range map[int][4]api.Errno{ // of List, Tagged, Tuple, Choice
		0:      {api.ErrForm, api.ErrForm, api.OK, api.ErrForm},
		1:      {api.OK, api.OK, api.OK, api.OK},
		2:      {api.ErrForm, api.ErrForm, api.OK, api.OK},
		3:      {api.ErrForm, api.ErrForm, api.OK, api.OK},
		256:    {api.ErrForm, api.ErrForm, api.OK, api.OK},
		257:    {api.ErrForm, api.ErrForm, api.OK, api.OK},
		100000: {api.ErrForm, api.ErrForm, api.OK, api.OK},
	} {
		everywhere(t, api.Node{Kind: api.List, Lo: 1, Hi: 2, L: to(n)}, errs[0])
		everywhere(t, api.Node{Kind: api.Tagged, Lo: 1, L: to(n)}, errs[1])
		everywhere(t, tupleNode(to(n)...), errs[2])
		everywhere(t, choiceNode(to(n)...), errs[3])
	}
}

// rightValues are items that may stand as Values; wrongValues are none.
func rightValues() []api.Item {
	l := []api.Item{textOf(""), textOf("a"), textOf("ü€𝄞"), textOf("\x00"), textOf(strings.Repeat("a", 2000)), bytesOf(""), bytesOf("a"), bytesOf("\xff"), bytesOf("\xc3"), bytesOf(strings.Repeat("\x80", 2000))}
	for _, n := range []uint64{0, 1, 23, 24, 255, 256, 1 << 63, math.MaxUint64} {
		l = append(l, numberOf(api.Uint, n), numberOf(api.Nint, n))
	}
	for n := range uint64(256) {
		if n < 24 || n >= 32 {
			l = append(l, numberOf(api.Simple, n))
		}
	}
	return l
}

func wrongValues() []api.Item {
	one := api.Item{}
	l := []api.Item{
		itemOf(api.Array), itemOf(api.Array, one), itemOf(api.Map), itemOf(api.Map, one, one), itemOf(api.Tag, one), {Kind: api.Tag, N: 1, L: []api.Item{one}}, itemOf(api.Float), numberOf(api.Float, 0x7ff8000000000000), numberOf(api.Float, 1), itemOf(api.Tag),
		{Kind: -1}, {Kind: 9}, {Kind: 10}, {Kind: minInt}, {Kind: maxInt}, {Kind: 256}, {Kind: 1 << 32},
		textOf("\xff"), textOf("\xc3"), textOf("a\x80"), textOf("\xed\xa0\x80"), textOf(strings.Repeat("a", 2000) + "\xe2\x82"),
		numberOf(api.Simple, 256), numberOf(api.Simple, 257), numberOf(api.Simple, 1<<32), numberOf(api.Simple, math.MaxUint64),
		{Kind: api.Uint, S: "a"}, {Kind: api.Nint, N: 2, S: "a"}, {Kind: api.Simple, N: 20, S: "a"},
		{Kind: api.Bytes, N: 1}, {Kind: api.Text, N: 1}, {Kind: api.Bytes, N: 1, S: "a"}, {Kind: api.Text, N: 1 << 63, S: "a"},
		deep(64), deep(65), deep(1 << 12), // the last two aren't just of a wrong kind, but too deep, too
	}
	for n := uint64(24); n < 32; n++ {
		l = append(l, numberOf(api.Simple, n))
	}
	for _, kind := range []int{api.Uint, api.Nint, api.Bytes, api.Text, api.Simple} {
		l = append(l, itemOf(kind, one), itemOf(kind, one, one), itemOf(kind, deep(70)), itemOf(kind, api.Item{Kind: -1}))
	}
	return l
}

// deep is an array of an array, and so on, so many items deep.
func deep(depth int) api.Item {
	x := api.Item{Kind: api.Array}
	for range depth - 1 {
		x = itemOf(api.Array, x)
	}
	return x
}

func TestValues(t *testing.T) { // P16.1
	for _, x := range rightValues() {
		everywhere(t, valueNode(x), api.OK)
		for _, n := range rightNodes() { // it may not stand elsewhere
			if n.Kind != api.Value && spellItem(x) != spellItem(api.Item{}) {
				n.Value = x
				want(t, placed(n, 1, 5), 1, api.ErrForm)
			}
		}
	}
	for _, x := range wrongValues() {
		everywhere(t, valueNode(x), api.ErrForm)
	}
}

func TestKeys(t *testing.T) { // P16.1
	a := func(n int) string { return strings.Repeat("a", n) }
	for _, key := range []string{"", "a", "\x00", "ü", "€", "𝄞", "\x7f", "\u0080", "\ufffd", "\U0010ffff", a(23), a(24), a(255), a(256), a(1020), a(1021), strings.Repeat("ü", 510) + "a", strings.Repeat("€", 340) + "a", strings.Repeat("𝄞", 255) + "a"} {
		everywhere(t, recordNode(field(key, 1)), api.OK)
		everywhere(t, recordNode(optional(key, 1)), api.OK)
		everywhere(t, recordNode(field("b", 2), optional(key, 1), field("c", 3)), api.OK)
		everywhere(t, recordNode(field(key, 1), field(key, 1)), api.ErrTwice)
		everywhere(t, recordNode(field(key, 1), optional(key, 2)), api.ErrTwice)
		everywhere(t, recordNode(field(key, 1), field("b", 1), field("c", 1), field(key, 3)), api.ErrTwice)
		everywhere(t, recordNode(field("b", 1), field(key, 1), field("c", 1), optional(key, 3), field("d", 1)), api.ErrTwice)
	}
	for _, key := range []string{a(1022), a(1023), a(1024), a(1025), a(2000), a(65536), a(65537), strings.Repeat("ü", 511), strings.Repeat("€", 341), strings.Repeat("𝄞", 256), strings.Repeat("ü", 1000)} {
		everywhere(t, recordNode(field(key, 1)), api.ErrKeyLength)
		everywhere(t, recordNode(field("b", 1), field("c", 2), optional(key, 3)), api.ErrKeyLength)
	}
	for _, key := range []string{"\xff", "\x80", "a\xc3", "\xc0\x80", "\xed\xa0\x80", "\xf4\x90\x80\x80", "a\xffb", a(1020) + "\xc3", a(1021) + "\xff", a(5000) + "\xe2\x82", strings.Repeat("\xff", 1022)} {
		everywhere(t, recordNode(field(key, 1)), api.ErrUTF8)
		everywhere(t, recordNode(field("b", 1), field("c", 2), optional(key, 3)), api.ErrUTF8)
		everywhere(t, recordNode(field(key, 1), field(key, 1)), api.ErrUTF8)
	}
	for _, l := range [][2]string{{"a", "A"}, {"a", "aa"}, {"", "a"}, {"ü", "u\u0308"}, {"a", "a\x00"}, {"", "\x00"}, {a(1021), a(1020)}, {a(1020) + "b", a(1020) + "c"}} { // not alike
		everywhere(t, recordNode(field(l[0], 1), field(l[1], 1)), api.OK)
		everywhere(t, recordNode(field(l[1], 1), field(l[0], 1)), api.OK)
	}
}

func TestFirstKey(t *testing.T) { // P16.1: the first one of the Fields that is wrong, whatever is wrong
	long, wrong := strings.Repeat("a", 1022), "\xff"
	for _, x := range []struct {
		keys []string
		err  api.Errno
	}{
		{[]string{long, wrong}, api.ErrKeyLength}, {[]string{wrong, long}, api.ErrUTF8}, {[]string{"a", "a", wrong}, api.ErrTwice}, {[]string{"a", wrong, "a"}, api.ErrUTF8}, {[]string{"a", "a", long}, api.ErrTwice}, {[]string{"a", long, "a"}, api.ErrKeyLength}, {[]string{"a", "b", "b", "a", wrong}, api.ErrTwice}, {[]string{"a", "b", long, "b", wrong}, api.ErrKeyLength},
		{[]string{long + wrong}, api.ErrUTF8}, {[]string{"a", long + wrong, long}, api.ErrUTF8}, {[]string{wrong, wrong}, api.ErrUTF8}, {[]string{long, long}, api.ErrKeyLength}, {[]string{"a", "b", "c", "a"}, api.ErrTwice},
	} {
		var l []api.Field
		for _, key := range x.keys {
			l = append(l, field(key, 1))
		}
		everywhere(t, recordNode(l...), x.err)
		l[len(l)-1].Node = 1000 // looked at behind all keys
		everywhere(t, recordNode(l...), x.err)
		l[0].Node = -1000
		everywhere(t, recordNode(l...), x.err)
	}
	every([]string{"", "a", "b", long, long[1:], wrong, long + wrong}, 4, func(keys []string) {
		var l []api.Field
		for i, key := range keys {
			l = append(l, api.Field{Key: key, Node: 1, Optional: i%2 == 1})
		}
		check(t, of(recordNode(l...), anyNode()))
	})
}

// every hands on all rows of up to most of the elements.
func every[T any](elements []T, most int, f func(row []T)) {
	var rows func(row []T)
	rows = func(row []T) {
		f(row)
		if len(row) < most {
			for _, x := range elements {
				rows(append(slices.Clone(row), x))
			}
		}
	}
	rows(nil)
}

// naming are nodes of each kind that names, which name to, among others that are right.
func naming(to, right int) []api.Node {
	return []api.Node{
		listNode(0, 3, to), taggedNode(2, to), tupleNode(to), tupleNode(right, to), tupleNode(to, right), tupleNode(right, to, right), choiceNode(to), choiceNode(right, to), choiceNode(to, right),
		recordNode(field("a", to)), recordNode(optional("a", to)), recordNode(field("b", right), optional("a", to)), recordNode(field("b", to), field("a", right)), recordNode(field("c", right), field("b", right), field("a", to)),
	}
}

func TestNames(t *testing.T) { // P16.1: a node names only such as stand behind it in the table
	for _, nodes := range []int{2, 3, 64, 65, 255, 256} {
		for _, place := range []int{0, 1, nodes / 2, nodes - 2} {
			for _, to := range []int{minInt, minInt + 1, -1 << 32, -257, -256, -2, -1, 0, 1, 2, place - 1, place, place + 1, place + 2, nodes - 2, nodes - 1, nodes, nodes + 1, 255, 256, 257, 2 * nodes, 1 << 32, 1<<32 + nodes - 1, maxInt - 1, maxInt} {
				for _, n := range naming(to, nodes-1) {
					l := anys(nodes)
					l[place] = n
					if to > place && to < nodes {
						want(t, of(l...), 0, api.OK)
					} else {
						want(t, of(l...), place, api.ErrRule)
					}
				}
			}
		}
		for _, n := range append(naming(nodes-1, nodes-1), naming(nodes, nodes)...) { // the last node may name none
			l := anys(nodes)
			l[nodes-1] = n
			want(t, of(l...), nodes-1, api.ErrRule)
		}
	}
	want(t, of(tupleNode()), 0, api.OK)
	want(t, of(recordNode()), 0, api.OK)
	want(t, of(choiceNode(1), choiceNode(2), choiceNode(3), anyNode()), 0, api.OK)
	want(t, of(choiceNode(1), choiceNode(2), choiceNode(0), anyNode()), 2, api.ErrRule)
	want(t, of(choiceNode(1), choiceNode(2), choiceNode(1), anyNode()), 2, api.ErrRule)
}

func TestFirstNode(t *testing.T) { // P16.1: whatever is wrong behind it
	wrong := []api.Node{ // of a table of 5, each with its error at every place
		{Kind: 11}, {Lo: 1}, intNode(1, 0), valueNode(itemOf(api.Float)), recordNode(field("\xff", 4)), recordNode(field(strings.Repeat("a", 1022), 4)), recordNode(field("a", 4), field("a", 4)), choiceNode(0), taggedNode(0, 5), listNode(-1, 0, 4),
	}
	errs := []api.Errno{api.ErrKind, api.ErrForm, api.ErrRange, api.ErrForm, api.ErrUTF8, api.ErrKeyLength, api.ErrTwice, api.ErrRule, api.ErrRule, api.ErrRange}
	for i, n := range wrong {
		for j, m := range wrong {
			for place := range 3 {
				for behind := place + 1; behind < 4; behind++ {
					l := anys(5)
					l[place], l[behind] = n, m
					want(t, of(l...), place, errs[i])
					l[place] = tupleNode(behind)
					want(t, of(l...), behind, errs[j])
				}
			}
		}
	}
}

func TestFirstError(t *testing.T) { // P16.1: the first of the list, each taken away in turn
	wrongKey := field("\xff", 0)
	for _, x := range []struct {
		n    api.Node
		errs []api.Errno // all that it has
	}{
		{api.Node{Kind: api.List, Lo: 2, Hi: 1, L: []int{0, 0}}, []api.Errno{api.ErrForm, api.ErrRange, api.ErrRule}},
		{api.Node{Kind: api.List, Lo: 2, Hi: 1, L: []int{0}}, []api.Errno{api.ErrRange, api.ErrRule}},
		{api.Node{Kind: api.List, Lo: 1, Hi: 1, L: []int{0}}, []api.Errno{api.ErrRule}},
		{api.Node{Kind: api.List, Lo: -1, Hi: 1, L: []int{0}, Fields: []api.Field{wrongKey}}, []api.Errno{api.ErrForm, api.ErrRange, api.ErrUTF8, api.ErrRule}},
		{api.Node{Kind: api.Int, Lo: 2, Hi: 1, L: []int{1}}, []api.Errno{api.ErrForm, api.ErrRange}},
		{api.Node{Kind: api.Int, Lo: 2, Hi: 1, L: []int{0}}, []api.Errno{api.ErrForm, api.ErrRange, api.ErrRule}},
		{api.Node{Kind: api.Blob, Lo: -1, Value: textOf("a")}, []api.Errno{api.ErrForm, api.ErrRange}},
		{api.Node{Kind: api.String, Lo: 1, Fields: []api.Field{field("a", 1)}}, []api.Errno{api.ErrForm, api.ErrRange}},
		{api.Node{Kind: api.Tagged, Lo: -1, Hi: 1, L: []int{0}}, []api.Errno{api.ErrForm, api.ErrRange, api.ErrRule}},
		{api.Node{Kind: api.Tagged, Lo: -1}, []api.Errno{api.ErrForm, api.ErrRange}},
		{api.Node{Kind: api.Tagged, Lo: -1, L: []int{0}}, []api.Errno{api.ErrRange, api.ErrRule}},
		{api.Node{Kind: api.Record, Hi: 1, Fields: []api.Field{wrongKey}}, []api.Errno{api.ErrForm, api.ErrUTF8, api.ErrRule}},
		{api.Node{Kind: api.Record, L: []int{1}, Fields: []api.Field{wrongKey}}, []api.Errno{api.ErrForm, api.ErrUTF8, api.ErrRule}},
		{api.Node{Kind: api.Record, Fields: []api.Field{field("a", 9), wrongKey}}, []api.Errno{api.ErrUTF8, api.ErrRule}},
		{api.Node{Kind: api.Record, Fields: []api.Field{field("a", 9), field("a", -1), wrongKey}}, []api.Errno{api.ErrTwice, api.ErrUTF8, api.ErrRule}},
		{api.Node{Kind: api.Choice, Lo: 1, L: []int{0}}, []api.Errno{api.ErrForm, api.ErrRule}},
		{api.Node{Kind: api.Tuple, Hi: -1, L: []int{1, 0}}, []api.Errno{api.ErrForm, api.ErrRule}},
		{api.Node{Kind: api.Value, Value: itemOf(api.Float), L: []int{0}}, []api.Errno{api.ErrForm, api.ErrRule}},
	} {
		s := of(x.n, anyNode())
		if l := wrongs(s, 0); !slices.Equal(l, x.errs) {
			t.Fatalf("the test wants %v of %s, but reckons %v", x.errs, short(s), l)
		}
		want(t, s, 0, x.errs[0])
		s.Nodes[0].Kind = 11
		want(t, s, 0, api.ErrKind)
	}
}

func TestFieldsInAllWays(t *testing.T) { // P16.1: each field of each kind with each of some values
	numbers := []int{0, 1, 2, -1, minInt, maxInt}
	values := []api.Item{{}, {N: 1}, {Kind: api.Text, S: "a"}, {Kind: api.Text, S: "\xff"}, {Kind: api.Simple, N: 24}, {Kind: api.Array}, {Kind: api.Bytes, L: []api.Item{{}}}}
	lists := [][]int{nil, {1}, {2}, {0}, {3}, {1, 2}, {2, -1}}
	fields := [][]api.Field{nil, {field("a", 2)}, {optional("", 1), field("a", 2)}, {field("a", 2), field("a", 3)}, {field("\xff", 0)}, {field("a", 3)}, {field(strings.Repeat("a", 1022), 1)}}
	for kind := -1; kind <= kinds; kind++ {
		for _, lo := range numbers {
			for _, hi := range numbers {
				for _, x := range values {
					for _, l := range lists {
						for _, f := range fields {
							check(t, of(api.Node{Kind: kind, Lo: lo, Hi: hi, Value: x, L: l, Fields: f}, anyNode(), anyNode()))
						}
					}
				}
			}
		}
	}
}

// draw is some node, right or nearly so, for a place in a table of so many nodes.
func draw(r *rand.Rand, place, nodes int) api.Node {
	to := func() int {
		if r.Intn(200) == 0 || place == nodes-1 {
			return r.Intn(nodes+3) - 1
		}
		return place + 1 + r.Intn(nodes-place-1)
	}
	several := func(least int) []int {
		var l []int
		for range least + r.Intn(4) {
			l = append(l, to())
		}
		return l
	}
	n := api.Node{Kind: r.Intn(kinds)}
	if place == nodes-1 {
		n.Kind = r.Intn(api.List)
	}
	switch n.Kind {
	case api.Int:
		n.Lo = r.Intn(9) - 4
		n.Hi = n.Lo + r.Intn(4)
	case api.Blob, api.String, api.List:
		n.Lo = r.Intn(4)
		n.Hi = n.Lo + r.Intn(4)
		if n.Kind == api.List {
			n.L = []int{to()}
		}
	case api.Value:
		l := rightValues()
		n.Value = l[r.Intn(len(l))]
	case api.Tuple:
		n.L = several(0)
	case api.Record:
		for i, to := range several(0) {
			n.Fields = append(n.Fields, api.Field{Key: strings.Repeat("k", r.Intn(3)) + strconv.Itoa(i), Node: to, Optional: r.Intn(2) == 0})
		}
	case api.Tagged:
		n.Lo = r.Intn(300)
		n.L = []int{to()}
	case api.Choice:
		n.L = several(1)
	}
	if r.Intn(100) == 0 {
		all := sets()
		all[r.Intn(len(all))].to(&n)
	}
	return n
}

// drawn is a schema of such nodes.
func drawn(r *rand.Rand, nodes int) api.Schema {
	l := make([]api.Node, nodes)
	for i := range l {
		l[i] = draw(r, i, nodes)
	}
	return of(l...)
}

func TestDrawnSchemas(t *testing.T) { // P16.1
	r := rand.New(rand.NewSource(161))
	errs := map[api.Errno]int{}
	for i := range 20000 {
		nodes := 1 + r.Intn(12)
		if i%100 == 0 {
			nodes = 1 + r.Intn(300)
		}
		s := drawn(r, nodes)
		check(t, s)
		_, err := Check(s)
		errs[err]++
	}
	for _, err := range []api.Errno{api.OK, api.ErrForm, api.ErrRange, api.ErrRule, api.ErrLimit} {
		if errs[err] < 10 {
			t.Errorf("%v was drawn %d times", err, errs[err])
		}
	}
}
