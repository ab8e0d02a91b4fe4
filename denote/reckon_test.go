package denote

import (
	"fmt"
	"math"
	"math/big"
	"math/rand"
	"slices"
	"strconv"
	"strings"
	"testing"
	"unicode/utf8"

	"ullage/api"
	"ullage/schema"
)

// What the chapter says, reckoned anew: node by node and item by item, with numbers of any size.

func of(l ...api.Node) api.Schema { return api.Schema{Nodes: l} }

func anyNode() api.Node               { return api.Node{Kind: api.Any} }
func realNode() api.Node              { return api.Node{Kind: api.Real} }
func intNode(lo, hi int) api.Node     { return api.Node{Kind: api.Int, Lo: lo, Hi: hi} }
func blobNode(lo, hi int) api.Node    { return api.Node{Kind: api.Blob, Lo: lo, Hi: hi} }
func stringNode(lo, hi int) api.Node  { return api.Node{Kind: api.String, Lo: lo, Hi: hi} }
func valueNode(x api.Item) api.Node   { return api.Node{Kind: api.Value, Value: x} }
func listNode(lo, hi, n int) api.Node { return api.Node{Kind: api.List, Lo: lo, Hi: hi, L: []int{n}} }
func tupleNode(l ...int) api.Node     { return api.Node{Kind: api.Tuple, L: l} }
func taggedNode(lo, n int) api.Node   { return api.Node{Kind: api.Tagged, Lo: lo, L: []int{n}} }
func choiceNode(l ...int) api.Node    { return api.Node{Kind: api.Choice, L: l} }

func recordNode(l ...api.Field) api.Node   { return api.Node{Kind: api.Record, Fields: l} }
func field(key string, n int) api.Field    { return api.Field{Key: key, Node: n} }
func perhaps(key string, n int) api.Field  { return api.Field{Key: key, Node: n, Optional: true} }
func numberOf(kind int, n uint64) api.Item { return api.Item{Kind: kind, N: n} }
func uintOf(n uint64) api.Item             { return numberOf(api.Uint, n) }
func nintOf(n uint64) api.Item             { return numberOf(api.Nint, n) }
func simpleOf(n uint64) api.Item           { return numberOf(api.Simple, n) }
func floatOf(x float64) api.Item           { return numberOf(api.Float, math.Float64bits(x)) }
func textOf(s string) api.Item             { return api.Item{Kind: api.Text, S: s} }
func bytesOf(s string) api.Item            { return api.Item{Kind: api.Bytes, S: s} }
func arrayOf(l ...api.Item) api.Item       { return api.Item{Kind: api.Array, L: l} }
func mapOf(l ...api.Item) api.Item         { return api.Item{Kind: api.Map, L: l} }
func tagOf(n uint64, x api.Item) api.Item {
	return api.Item{Kind: api.Tag, N: n, L: []api.Item{x}}
}

const (
	minInt = math.MinInt
	maxInt = math.MaxInt
	theNaN = 0x7ff8000000000000
)

// nested is an item within so many others, each made of the one in it.
func nested(x api.Item, times int, in func(x api.Item) api.Item) api.Item {
	for range times {
		x = in(x)
	}
	return x
}

// ins are the ways in which an item stands in another one.
func ins() []func(x api.Item) api.Item {
	return []func(x api.Item) api.Item{
		func(x api.Item) api.Item { return arrayOf(x) },
		func(x api.Item) api.Item { return tagOf(7, x) },
		func(x api.Item) api.Item { return mapOf(x, uintOf(1)) },
		func(x api.Item) api.Item { return mapOf(textOf("a"), x) },
		func(x api.Item) api.Item { return arrayOf(uintOf(3), x, textOf("z")) },
		func(x api.Item) api.Item { return mapOf(textOf("b"), uintOf(0), x, uintOf(2), textOf("a"), uintOf(0)) },
	}
}

// spellItem is a text that is the same just for items that are the same.
func spellItem(x api.Item) string {
	var b strings.Builder
	spellTo(&b, x)
	return b.String()
}

func spellTo(b *strings.Builder, x api.Item) {
	b.WriteString("(" + strconv.Itoa(x.Kind) + " " + strconv.FormatUint(x.N, 16) + " " + strconv.Quote(x.S))
	for _, y := range x.L {
		spellTo(b, y)
	}
	b.WriteString(")")
}

func spellSchema(s api.Schema) string {
	var b strings.Builder
	for _, n := range s.Nodes {
		fmt.Fprintf(&b, "{%d %d %d %s %v %v}", n.Kind, n.Lo, n.Hi, spellItem(n.Value), n.L, n.Fields)
	}
	return b.String()
}

func short(text string) string { return text[:min(len(text), 400)] }

// mayBe tells whether x may be (8).
func mayBe(x api.Item) bool {
	for _, y := range x.L {
		if !mayBe(y) {
			return false
		}
	}
	switch x.Kind {
	case api.Uint, api.Nint:
		return x.S == "" && len(x.L) == 0
	case api.Simple:
		return x.S == "" && len(x.L) == 0 && (x.N <= 23 || 32 <= x.N && x.N <= 255)
	case api.Float:
		return x.S == "" && len(x.L) == 0 && (x.N == theNaN || !math.IsNaN(math.Float64frombits(x.N)))
	case api.Bytes:
		return x.N == 0 && len(x.L) == 0
	case api.Text:
		return x.N == 0 && len(x.L) == 0 && utf8.ValidString(x.S)
	case api.Array:
		return x.N == 0 && x.S == ""
	case api.Tag:
		return x.S == "" && len(x.L) == 1
	case api.Map:
		keys := map[string]bool{}
		for i := 0; i < len(x.L); i += 2 {
			keys[spellItem(x.L[i])] = true
		}
		return x.N == 0 && x.S == "" && len(x.L) == 2*len(keys)
	}
	return false
}

// number is the number of a Uint or Nint, or nil.
func number(x api.Item) *big.Int {
	n := new(big.Int).SetUint64(x.N)
	switch x.Kind {
	case api.Uint:
		return n
	case api.Nint:
		return n.Sub(big.NewInt(-1), n)
	}
	return nil
}

// means tells whether x, which may be, matches a node of s, which is well-formed.
func means(s api.Schema, node int, x api.Item) bool {
	n := s.Nodes[node]
	from := func(count int) bool { return n.Lo <= count && count <= n.Hi }
	switch n.Kind {
	case api.Any:
		return true
	case api.Int:
		v := number(x)
		return v != nil && v.Cmp(big.NewInt(int64(n.Lo))) >= 0 && v.Cmp(big.NewInt(int64(n.Hi))) <= 0
	case api.Blob:
		return x.Kind == api.Bytes && from(len([]byte(x.S)))
	case api.String:
		return x.Kind == api.Text && from(len([]byte(x.S)))
	case api.Value:
		return spellItem(x) == spellItem(n.Value)
	case api.Real:
		return x.Kind == api.Float
	case api.Tagged:
		return x.Kind == api.Tag && new(big.Int).SetUint64(x.N).Cmp(big.NewInt(int64(n.Lo))) == 0 && means(s, n.L[0], x.L[0])
	case api.Choice:
		for _, to := range n.L {
			if means(s, to, x) {
				return true
			}
		}
		return false
	case api.Record:
		return meansRecord(s, n, x)
	}
	if x.Kind != api.Array {
		return false
	}
	if n.Kind == api.List && !from(len(x.L)) || n.Kind == api.Tuple && len(n.L) != len(x.L) {
		return false
	}
	for i, y := range x.L {
		if n.Kind == api.List {
			i = 0
		}
		if !means(s, n.L[i], y) {
			return false
		}
	}
	return true
}

func meansRecord(s api.Schema, n api.Node, x api.Item) bool {
	if x.Kind != api.Map {
		return false
	}
	fieldOf := func(key string) int {
		return slices.IndexFunc(n.Fields, func(f api.Field) bool { return f.Key == key })
	}
	var came []string
	for i := 0; i < len(x.L); i += 2 {
		if x.L[i].Kind != api.Text {
			return false
		}
		f := fieldOf(x.L[i].S)
		if f < 0 || !means(s, n.Fields[f].Node, x.L[i+1]) {
			return false
		}
		came = append(came, x.L[i].S)
	}
	for _, f := range n.Fields {
		if !f.Optional && !slices.Contains(came, f.Key) {
			return false
		}
	}
	return true
}

// depth is how deep an item is.
func depth(x api.Item) int {
	most := 0
	for _, y := range x.L {
		most = max(most, depth(y))
	}
	return most + 1
}

// wantSet wants the nodes that x matches to be just those, by all calls. What Schema tells of an item that is too deep, or of one that may not be, is for others to look at.
func wantSet(t *testing.T, s api.Schema, x api.Item, want ...int) {
	t.Helper()
	fail := func(call string, args ...any) {
		t.Helper()
		t.Fatalf("%s of %s and %s: %v, want %v", call, short(spellSchema(s)), short(spellItem(x)), args, want)
	}
	if l := Set(s, x); !slices.Equal(l, want) {
		fail("Set", l)
	}
	for node := -2; node < len(s.Nodes)+3; node++ {
		if ok := Matches(s, node, x); ok != slices.Contains(want, node) {
			fail("Matches "+strconv.Itoa(node), ok)
		}
	}
	_, wrong := schema.Check(s)
	right := wrong == api.OK && depth(x) <= 64 && mayBe(x)
	ok, err := Schema(s, x)
	switch {
	case wrong != api.OK && err != wrong, right != (err == api.OK):
		fail("Schema", ok, err)
	case ok != (right && slices.Contains(want, 0)):
		fail("Schema", ok, err)
	}
}

// check wants what the reckoning tells.
func check(t *testing.T, s api.Schema, x api.Item) []int {
	t.Helper()
	var want []int
	if _, wrong := schema.Check(s); wrong == api.OK && mayBe(x) {
		for node := range s.Nodes {
			if means(s, node, x) {
				want = append(want, node)
			}
		}
	}
	wantSet(t, s, x, want...)
	return want
}

// pick is one of l.
func pick[T any](r *rand.Rand, l ...T) T { return l[r.Intn(len(l))] }

var someKeys = []string{"", "a", "b", "aa", "ab", "c", "ü", "key", "\x00"}

// drawLeaf is an item without others in it.
func drawLeaf(r *rand.Rand) api.Item {
	n := pick(r, uint64(r.Intn(8)), 0, 1, 23, 24, 255, 256, maxInt, maxInt-1, 1<<63, math.MaxUint64)
	return pick(r, uintOf(n), nintOf(n), textOf(pick(r, someKeys...)), bytesOf(pick(r, someKeys...)), simpleOf(pick(r, uint64(0), 5, 20, 22, 23, 32, 255)), floatOf(pick(r, 0, 1.5, -1, math.Inf(1))), numberOf(api.Float, theNaN), arrayOf(), mapOf())
}

// drawItem is any item, not very great.
func drawItem(r *rand.Rand, deep int) api.Item {
	if deep < 2 || r.Intn(3) == 0 {
		return drawLeaf(r)
	}
	switch r.Intn(4) {
	case 0:
		return tagOf(uint64(r.Intn(4)), drawItem(r, deep-1))
	case 1:
		x := mapOf()
		for _, key := range r.Perm(len(someKeys))[:r.Intn(4)] {
			x.L = append(x.L, textOf(someKeys[key]), drawItem(r, deep-1))
		}
		return x
	}
	x := arrayOf()
	for range r.Intn(4) {
		x.L = append(x.L, drawItem(r, deep-1))
	}
	return x
}

// drawNode is a node for a place in a table of so many.
func drawNode(r *rand.Rand, place, nodes int) api.Node {
	named := func() int { return place + 1 + r.Intn(nodes-place-1) }
	lo := r.Intn(4)
	kind := r.Intn(11)
	if place == nodes-1 {
		kind = pick(r, api.Any, api.Int, api.Blob, api.String, api.Value, api.Real)
	}
	n := api.Node{Kind: kind}
	switch kind {
	case api.Int:
		n.Lo = pick(r, lo, -lo, minInt, maxInt-1, -1)
		n.Hi = max(n.Lo, pick(r, n.Lo, 0, 1, 5, maxInt, -2))
	case api.Blob, api.String:
		n.Lo, n.Hi = lo, pick(r, lo, lo+1, maxInt)
	case api.Value:
		for n.Value = drawLeaf(r); n.Value.Kind == api.Float || n.Value.Kind == api.Array || n.Value.Kind == api.Map; {
			n.Value = drawLeaf(r)
		}
	case api.List:
		n.Lo, n.Hi, n.L = lo, pick(r, lo, lo+1, maxInt), []int{named()}
	case api.Tuple:
		for range lo {
			n.L = append(n.L, named())
		}
	case api.Record:
		for _, key := range r.Perm(len(someKeys))[:r.Intn(4)] {
			n.Fields = append(n.Fields, api.Field{Key: someKeys[key], Node: named(), Optional: r.Intn(2) == 0})
		}
	case api.Tagged:
		n.Lo, n.L = lo, []int{named()}
	case api.Choice:
		for range lo + 1 {
			n.L = append(n.L, named())
		}
	}
	return n
}

// drawSchema is a schema that is well-formed.
func drawSchema(r *rand.Rand, nodes int) api.Schema {
	var s api.Schema
	for place := range nodes {
		s.Nodes = append(s.Nodes, drawNode(r, place, nodes))
	}
	return s
}

// drawMeant is an item that matches a node; somewhere it may not, if it would become too great. What is left of many items is counted down.
func drawMeant(r *rand.Rand, s api.Schema, node int, left *int) api.Item {
	*left--
	if *left < 0 {
		return drawLeaf(r)
	}
	n := s.Nodes[node]
	count := n.Lo
	if count < n.Hi {
		count += r.Intn(2)
	}
	switch n.Kind {
	case api.Int:
		v := pick(r, n.Lo, n.Hi, n.Lo+(n.Hi/2-n.Lo/2))
		if v < 0 {
			return nintOf(uint64(-1 - v))
		}
		return uintOf(uint64(v))
	case api.Blob:
		return bytesOf(strings.Repeat("b", count))
	case api.String:
		return textOf(strings.Repeat("s", count))
	case api.Value:
		return n.Value
	case api.Real:
		return floatOf(float64(r.Intn(9)))
	case api.Tagged:
		return tagOf(uint64(n.Lo), drawMeant(r, s, n.L[0], left))
	case api.Choice:
		return drawMeant(r, s, pick(r, n.L...), left)
	case api.List:
		x := arrayOf()
		for range count {
			x.L = append(x.L, drawMeant(r, s, n.L[0], left))
		}
		return x
	case api.Tuple:
		x := arrayOf()
		for _, to := range n.L {
			x.L = append(x.L, drawMeant(r, s, to, left))
		}
		return x
	case api.Record:
		x := mapOf()
		for _, i := range r.Perm(len(n.Fields)) {
			if f := n.Fields[i]; !f.Optional || r.Intn(2) == 0 {
				x.L = append(x.L, textOf(f.Key), drawMeant(r, s, f.Node, left))
			}
		}
		return x
	}
	return drawItem(r, 3)
}

// copied is the same item in new memory.
func copied(x api.Item) api.Item {
	l := slices.Clone(x.L)
	for i := range l {
		l[i] = copied(l[i])
	}
	x.L = l
	return x
}

// allOf are x, and all items in it, to be changed.
func allOf(x *api.Item) []*api.Item {
	l := []*api.Item{x}
	for i := range x.L {
		l = append(l, allOf(&x.L[i])...)
	}
	return l
}

// harmed is x, changed in one place; it may be that it may not be then.
func harmed(r *rand.Rand, x api.Item) api.Item {
	x = copied(x)
	y := pick(r, allOf(&x)...)
	switch r.Intn(8) {
	case 0:
		*y = drawItem(r, 3)
	case 1:
		y.N += pick(r, uint64(1), math.MaxUint64)
	case 2:
		y.S += "s"
	case 3:
		y.S = y.S[min(len(y.S), 1):]
	case 4:
		if len(y.L) > 0 {
			y.L = y.L[1:]
		}
	case 5:
		y.L = append(y.L, drawLeaf(r))
	case 6:
		if len(y.L) > 1 {
			i, j := r.Intn(len(y.L)), r.Intn(len(y.L))
			y.L[i], y.L[j] = y.L[j], y.L[i]
		}
	case 7:
		y.Kind = r.Intn(9)
	}
	return x
}
