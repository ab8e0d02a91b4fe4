package live

import (
	"fmt"
	"math"
	"math/rand"
	"slices"
	"strings"
	"testing"

	"ullage/api"
	"ullage/auto"
	"ullage/enc"
	"ullage/head"
)

// shortSchemas are schemas of few nodes, of all kinds, alone and in one another.
func shortSchemas(t *testing.T) []api.Schema {
	var l []api.Schema
	for _, lines := range []string{
		"any", "int 0 1", "int -2 0", "blob 0 1", "string 1 1", "value 01", "value 6161", "value 4161", "value f5", "real",
		"list 0 2 1 / any", "list 1 1 1 / int 0 0", "list 0 2 1 / list 0 1 2 / value 6161", "list 0 2 1 / choice 2 3 / int 0 0 / list 0 1 4 / int 1 1",
		"tuple", "tuple 1 / any", "tuple 1 2 / int 0 0 / any", "tuple 1 2 / choice 2 3 / value 6161 / list 0 0 4 / any", "tuple 1 1 / record 61:2? / int 1 1",
		"tagged 1 1 / any", "tagged 1 1 / tagged 1 2 / int 0 0", "tagged 2 1 / tuple 2 / int 1 1",
		"record", "record 61:1 / any", "record 61:1? / int 0 0", "record :1? / any", "record :1 61:2? / int 0 0 / int 1 1", "record 6161:1 61:2 / any / int 0 0",
		"record 61:1? / record 61:2? / int 0 0", "record 61:1? 62:1? / choice 2 3 / record 61:3 / int 1 1", "record 61:1 / list 0 1 2 / record 61:3? 62:3 / any",
		"choice 1 2 / record 61:3 / record 61:4 62:3? / int 0 0 / int 1 1", "choice 1 2 / record 61:3 / record 61:3? 62:4 / int 0 0 / list 0 9 5 / any", "choice 1 2 / record 61:3 / any / int 0 0",
		"choice 1 2 / list 0 2 3 / list 0 2 4 / int 0 0 / value 6161", "choice 1 2 / tuple 3 4 / tuple 4 3 / int 0 0 / value 6161", "choice 1 2 / tagged 1 3 / tagged 1 4 / int 0 0 / choice 5 / int 1 1", "choice 1 2 / value 6161 / value 6162", "choice 1 2 / value 626161 / value 626162",
		"choice 1 2 3 / list 0 1 2 / list 0 1 4 / choice 4 5 / int 0 0 / real",
	} {
		l = append(l, parse(t, lines))
	}
	return l
}

func TestAllShort(t *testing.T) { // P20.1, P20.2: all rows of some bytes, one more behind the first false answer among them
	bytes := []byte{0x00, 0x01, 0x20, 0x40, 0x41, 0x60, 0x61, 0x62, 0x80, 0x81, 0x82, 0xa0, 0xa1, 0xa2, 0xc1, 0xf5}
	for _, s := range shortSchemas(t) {
		m := fresh(t, s, api.MaxDepth)
		rows := 0
		var walk func(b []byte, left int)
		walk = func(b []byte, left int) {
			for _, c := range bytes {
				row := append(slices.Clone(b), c)
				if len(events(t, row, api.MaxDepth)) < len(row) {
					continue
				}
				m.Reset()
				check(t, m, s, row)
				rows++
				if answers, _ := want(s, row); left > 1 && (len(row) < 2 || answers[len(row)-2]) {
					walk(row, left-1)
				}
			}
		}
		walk(nil, 5)
		if rows < 16 {
			t.Errorf("%s: %d rows", spell(s), rows)
		}
	}
}

// drawKeys are different texts, many of which begin others.
func drawKeys(r *rand.Rand) []string {
	all := []string{"", "a", "b", "aa", "ab", "ba", "aaa", "é", "abcdefghijklmnopqrstuvwxyz", "abcdefghijklmnopqrstuvwxyy"}
	r.Shuffle(len(all), func(i, j int) { all[i], all[j] = all[j], all[i] })
	return all[:r.Intn(5)]
}

// drawAlone is a node that names no other.
func drawAlone(r *rand.Rand) api.Node {
	lo := r.Intn(3)
	switch r.Intn(8) {
	case 0:
		return api.Node{Kind: api.Int, Lo: lo - 2, Hi: lo + r.Intn(3)}
	case 1:
		return api.Node{Kind: api.Blob, Lo: lo, Hi: lo + r.Intn(2)}
	case 2:
		return api.Node{Kind: api.String, Lo: lo, Hi: lo + r.Intn(2)}
	case 3:
		return api.Node{Kind: api.Value, Value: api.Item{Kind: api.Text, S: []string{"a", "b", "aa", "ab", ""}[r.Intn(5)]}}
	case 4:
		return api.Node{Kind: api.Value, Value: api.Item{Kind: api.Bytes, S: []string{"a", "b", "aa", "\xff", ""}[r.Intn(5)]}}
	case 5:
		return api.Node{Kind: api.Value, Value: api.Item{Kind: []int{api.Uint, api.Nint, api.Simple}[r.Intn(3)], N: uint64(r.Intn(3))}}
	case 6:
		return api.Node{Kind: api.Real}
	}
	return api.Node{}
}

// drawNode is the node at that place in a table of so many.
func drawNode(r *rand.Rand, place, count int) api.Node {
	if place == count-1 || r.Intn(4) == 0 {
		return drawAlone(r)
	}
	to := func() int { return place + 1 + r.Intn(min(count-place-1, 4)) }
	lo := r.Intn(2)
	switch r.Intn(6) {
	case 0:
		return api.Node{Kind: api.List, Lo: lo, Hi: lo + r.Intn(4), L: []int{to()}}
	case 1:
		n := api.Node{Kind: api.Tuple}
		for range r.Intn(4) {
			n.L = append(n.L, to())
		}
		return n
	case 2:
		return api.Node{Kind: api.Tagged, Lo: r.Intn(2), L: []int{to()}}
	case 3:
		n := api.Node{Kind: api.Record}
		for _, key := range drawKeys(r) {
			n.Fields = append(n.Fields, api.Field{Key: key, Node: to(), Optional: r.Intn(2) == 0})
		}
		return n
	}
	n := api.Node{Kind: api.Choice}
	for range 1 + r.Intn(4) {
		n.L = append(n.L, to())
	}
	return n
}

// drawSchema is one of at most that many nodes; one of two begins with a choice of nodes that are likely to stand for the same heads.
func drawSchema(r *rand.Rand, most int) api.Schema {
	count := 1 + r.Intn(most)
	var s api.Schema
	for i := range count {
		s.Nodes = append(s.Nodes, drawNode(r, i, count))
	}
	if count > 5 && r.Intn(2) == 0 {
		s.Nodes[0] = api.Node{Kind: api.Choice, L: []int{1, 2, 3}}
		kind := []int{api.List, api.Tuple, api.Record, api.Tagged}[r.Intn(4)]
		for i := 1; i < 4; i++ {
			for s.Nodes[i] = drawNode(r, i, count); s.Nodes[i].Kind != kind; {
				s.Nodes[i] = drawNode(r, i, count)
			}
		}
	}
	return s
}

// drawItem is an item that is likely to match the node.
func drawItem(r *rand.Rand, s api.Schema, node int) api.Item {
	n := s.Nodes[node]
	if r.Intn(40) == 0 {
		n = drawAlone(r)
	}
	number := n.Lo
	if n.Hi > n.Lo {
		number += r.Intn(n.Hi - n.Lo + 1)
	}
	switch n.Kind {
	case api.Int:
		if number < 0 {
			return api.Item{Kind: api.Nint, N: uint64(-1 - number)}
		}
		return api.Item{Kind: api.Uint, N: uint64(number)}
	case api.Blob:
		return api.Item{Kind: api.Bytes, S: strings.Repeat("\xff", number)}
	case api.String:
		return api.Item{Kind: api.Text, S: strings.Repeat("b", number)}
	case api.Value:
		return n.Value
	case api.Real:
		return api.Item{Kind: api.Float, N: math.Float64bits([]float64{0, 1.5, 0.1, math.Inf(1)}[r.Intn(4)])}
	case api.List:
		x := api.Item{Kind: api.Array}
		for range number {
			x.L = append(x.L, drawItem(r, s, n.L[0]))
		}
		return x
	case api.Tuple:
		x := api.Item{Kind: api.Array}
		for _, to := range n.L {
			x.L = append(x.L, drawItem(r, s, to))
		}
		return x
	case api.Record:
		return drawMap(r, s, n)
	case api.Tagged:
		return api.Item{Kind: api.Tag, N: uint64(n.Lo), L: []api.Item{drawItem(r, s, n.L[0])}}
	case api.Choice:
		return drawItem(r, s, n.L[r.Intn(len(n.L))])
	}
	return []api.Item{{}, {Kind: api.Array, L: []api.Item{{}}}, {Kind: api.Map, L: []api.Item{{Kind: api.Array}, {}}}, {Kind: api.Text, S: "a"}}[r.Intn(4)]
}

// drawMap is a map that is likely to match the Record n.
func drawMap(r *rand.Rand, s api.Schema, n api.Node) api.Item {
	x := api.Item{Kind: api.Map}
	for _, f := range n.Fields {
		if f.Optional && r.Intn(2) == 0 || r.Intn(20) == 0 {
			continue
		}
		key := api.Item{Kind: api.Text, S: f.Key}
		switch r.Intn(40) {
		case 0:
			key.Kind = api.Bytes
		case 1:
			key = api.Item{Kind: api.Array, L: []api.Item{key}}
		case 2:
			key.S += "a"
		}
		x.L = append(x.L, key, drawItem(r, s, f.Node))
	}
	return x
}

func TestDrawn(t *testing.T) { // P20.1, P20.2: items that are likely to match, whole and harmed
	r := rand.New(rand.NewSource(20))
	done, broken := 0, 0
	for range 6000 {
		s := drawSchema(r, 12)
		m := fresh(t, s, api.MaxDepth)
		for range 4 {
			b, err := enc.Encode(drawItem(r, s, 0))
			if err != api.OK || len(b) > 400 { // a key came twice
				continue
			}
			m.Reset()
			check(t, m, s, b)
			if m.Done() {
				done++
			}
			if !m.Live() {
				broken++
			}
			b[r.Intn(len(b))] += byte(1 + r.Intn(3))
			m.Reset()
			check(t, m, s, b)
		}
	}
	if done < 5000 || broken < 2000 {
		t.Errorf("%d done, %d not", done, broken)
	}
}

func TestOtherItems(t *testing.T) { // P20.1, P20.2: a schema held against items that were drawn for others
	r := rand.New(rand.NewSource(21))
	for range 3000 {
		s, other := drawSchema(r, 8), drawSchema(r, 8)
		m := fresh(t, s, api.MaxDepth)
		if b, err := enc.Encode(drawItem(r, other, 0)); err == api.OK {
			check(t, m, s, b)
		}
	}
}

// drawEvent is any event; many are such as an automaton could tell.
func drawEvent(r *rand.Rand, depth int) auto.Event {
	e := auto.Event{Kind: 1 + r.Intn(4), Deep: 1 + r.Intn(min(depth+1, 4)), Byte: byte('a' + r.Intn(2))}
	e.Head = head.Head{Major: r.Intn(8), Arg: uint64(r.Intn(4)), Width: r.Intn(2)}
	switch r.Intn(20) {
	case 0:
		e.Head.Arg = r.Uint64()
	case 1:
		e.Kind = int(r.Uint64())
	case 2:
		e.Deep = []int{math.MinInt, -1, 0, depth, depth + 1, api.MaxDepth, api.MaxDepth + 1, math.MaxInt}[r.Intn(8)]
	case 3:
		e.Head.Major = int(r.Uint64())
	case 4:
		e.Head.Width = int(r.Uint64())
	}
	return e
}

func TestAnyEvents(t *testing.T) { // P20.1, P1: of events that no automaton tells nothing is promised, but that it ends and doesn't panic; Reset undoes them
	r := rand.New(rand.NewSource(22))
	for range 4000 {
		s, depth := drawSchema(r, 8), 1+r.Intn(5)
		m := fresh(t, s, depth)
		before := m.Cap()
		for range 60 {
			e := drawEvent(r, depth)
			if got := m.Event(e); got != m.Live() || m.Done() && !m.Live() || m.Cap() != before {
				t.Fatalf("%s, %v: %v, %v, %v", spell(s), e, got, m.Live(), m.Done())
			}
			if !m.Live() && r.Intn(3) == 0 {
				m.Reset()
			}
		}
		m.Reset()
		b, err := enc.Encode(drawItem(r, s, 0))
		if err != api.OK || len(events(t, b, depth)) < len(b) {
			continue
		}
		check(t, m, s, b)
	}
}

// wide is s in lists with memory behind them, which holds other things.
func wide(s api.Schema) api.Schema {
	nodes := make([]api.Node, len(s.Nodes), len(s.Nodes)+2)
	copy(nodes, s.Nodes)
	_ = append(nodes, api.Node{Kind: 77}, api.Node{Kind: 78})
	for i, n := range nodes {
		l := make([]int, len(n.L), len(n.L)+2)
		copy(l, n.L)
		_ = append(l, 77, 78)
		f := make([]api.Field, len(n.Fields), len(n.Fields)+1)
		copy(f, n.Fields)
		_ = append(f, api.Field{Key: "behind", Node: 77})
		nodes[i].L, nodes[i].Fields = l, f
	}
	return api.Schema{Nodes: nodes}
}

// all is a text of s, and of what lies behind its lists.
func all(s api.Schema) string {
	var b strings.Builder
	for _, n := range s.Nodes[:cap(s.Nodes)] {
		fmt.Fprintln(&b, n, n.L[:cap(n.L)], n.Fields[:cap(n.Fields)])
	}
	return b.String()
}

func TestSchemaIsItsOwn(t *testing.T) { // R4: a schema isn't changed, nor kept: what is written over in it later changes nothing
	r := rand.New(rand.NewSource(23))
	for range 3000 {
		s := drawSchema(r, 8)
		mine := wide(s)
		before := all(mine)
		m := fresh(t, mine, api.MaxDepth)
		b, err := enc.Encode(drawItem(r, s, 0))
		if err != api.OK {
			continue
		}
		check(t, m, s, b)
		if all(mine) != before {
			t.Fatalf("%s was changed: %s", before, all(mine))
		}
		for i, n := range mine.Nodes {
			clear(n.L)
			clear(n.Fields)
			mine.Nodes[i] = api.Node{Kind: api.Int, Lo: 5, Hi: 1}
		}
		m.Reset()
		check(t, m, s, b)
	}
}

func TestMatchersAreApart(t *testing.T) { // R6: two of one schema, told different bytes by turns
	s := parse(t, "record 61:1? 6161:2? / list 0 9 2 / value 626162")
	one, two := fresh(t, s, 9), fresh(t, s, 9)
	a, b := events(t, digits(t, "a2 61 61 81 62 61 62 62 61 61 62 61 62"), 9), events(t, digits(t, "a1 62 61 61 62 61 61"), 9)
	for i, l := range a {
		for _, e := range l {
			if !one.Event(e) {
				t.Fatal(i, e)
			}
		}
		if i < len(b) {
			run(t, two, b[i:i+1])
		}
	}
	if !one.Done() || two.Live() {
		t.Error(one.Done(), two.Live())
	}
}
