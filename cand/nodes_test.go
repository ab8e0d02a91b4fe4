package cand

import (
	"fmt"
	"math"
	"math/rand"
	"slices"
	"strings"
	"testing"

	"ullage/api"
	"ullage/head"
)

func TestExample(t *testing.T) { // P19.2: a choice of Int 0 to 5 and String 1 to 2, and the head 61
	s := of(choiceNode(1, 2), intNode(0, 5), stringNode(1, 2))
	h, _, _ := head.First([]byte{0x61})
	wantSet(t, "Begin", s, []int{0}, Begin(s, Of(0), h), 2)
	wantSet(t, "Open", s, []int{0}, Open(s, Of(0)), 0, 1, 2)
	wantSet(t, "Lift", s, []int{2}, Lift(s, Of(2)), 0, 2)
	h, _, _ = head.First([]byte{0x05})
	wantSet(t, "Begin", s, []int{0}, Begin(s, Of(0), h), 1)
	h, _, _ = head.First([]byte{0x06})
	wantSet(t, "Begin", s, []int{0}, Begin(s, Of(0), h))
}

// mixed has choices in choices, and nodes of other kinds that name choices.
func mixed() api.Schema {
	return of(choiceNode(1, 4), choiceNode(2, 3, 5), listNode(0, 9, 6), tupleNode(6, 7), recordNode(field("a", 6), perhaps("b", 7)), taggedNode(3, 6), choiceNode(8, 9), choiceNode(9), intNode(-1, 1), stringNode(0, 3), choiceNode(11), anyNode())
}

func TestByHand(t *testing.T) { // P19.2: by choices alone, not through a list, tuple, record or tagged
	s := mixed()
	for _, x := range []struct{ asked, open, lift []int }{
		{nil, nil, nil},
		{[]int{0}, []int{0, 1, 2, 3, 4, 5}, []int{0}},
		{[]int{1}, []int{1, 2, 3, 5}, []int{0, 1}},
		{[]int{2}, []int{2}, []int{0, 1, 2}},
		{[]int{3}, []int{3}, []int{0, 1, 3}},
		{[]int{4}, []int{4}, []int{0, 4}},
		{[]int{5}, []int{5}, []int{0, 1, 5}},
		{[]int{6}, []int{6, 8, 9}, []int{6}},
		{[]int{7}, []int{7, 9}, []int{7}},
		{[]int{8}, []int{8}, []int{6, 8}},
		{[]int{9}, []int{9}, []int{6, 7, 9}},
		{[]int{10}, []int{10, 11}, []int{10}},
		{[]int{11}, []int{11}, []int{10, 11}},
		{[]int{0, 7}, []int{0, 1, 2, 3, 4, 5, 7, 9}, []int{0, 7}},
		{[]int{4, 8}, []int{4, 8}, []int{0, 4, 6, 8}},
		{[]int{12, 13, 255}, nil, nil},
		{[]int{2, 12, 100}, []int{2}, []int{0, 1, 2}},
	} {
		wantSet(t, "Open", s, x.asked, Open(s, Of(x.asked...)), x.open...)
		wantSet(t, "Lift", s, x.asked, Lift(s, Of(x.asked...)), x.lift...)
		check(t, s, x.asked)
	}
	for _, x := range []struct {
		asked []int
		h     head.Head
		want  []int
	}{
		{[]int{0}, headOf(4, 2), []int{2, 3}}, {[]int{0}, headOf(4, 3), []int{2}}, {[]int{0}, headOf(4, 10), nil}, {[]int{0}, headOf(5, 1), []int{4}}, {[]int{0}, headOf(5, 3), nil}, {[]int{0}, headOf(6, 3), []int{5}}, {[]int{0}, headOf(6, 4), nil}, {[]int{0}, headOf(0, 1), nil}, {[]int{0}, headOf(3, 3), nil},
		{[]int{1}, headOf(5, 1), nil}, {[]int{6}, headOf(0, 1), []int{8}}, {[]int{6}, headOf(1, 0), []int{8}}, {[]int{6}, headOf(3, 0), []int{9}}, {[]int{7}, headOf(0, 1), nil}, {[]int{7}, headOf(3, 3), []int{9}}, {[]int{7}, headOf(3, 4), nil}, {[]int{10}, headOf(3, 4), []int{11}}, {[]int{6, 7, 10}, headOf(3, 1), []int{9, 11}}, {nil, headOf(3, 1), nil}, {[]int{12, 255}, headOf(3, 1), nil}, {[]int{11}, floatHead(8, 9), []int{11}},
	} {
		wantSet(t, fmt.Sprint("Begin with ", x.h), s, x.asked, Begin(s, Of(x.asked...), x.h), x.want...)
	}
}

// everyKind are a node of each kind at the place in a table, behind which there is another one at least.
func everyKind(place, to int) []api.Node {
	if to <= place {
		return []api.Node{anyNode(), intNode(0, 1)}
	}
	return []api.Node{anyNode(), intNode(0, 1), blobNode(1, 2), stringNode(0, 1), valueNode(textOf("a")), realNode(), listNode(0, 1, to), tupleNode(to), recordNode(perhaps("a", to)), taggedNode(1, to)}
}

// subsets are all lists, but the empty one, of numbers from lo to one below hi.
func subsets(lo, hi int) [][]int {
	var all [][]int
	for bits := 1; bits < 1<<(hi-lo); bits++ {
		var l []int
		for i := range hi - lo {
			if bits>>i&1 == 1 {
				l = append(l, lo+i)
			}
		}
		all = append(all, l)
	}
	return all
}

// products hands on all rows of one of each list.
func products(lists [][]api.Node, row []api.Node, tell func(row []api.Node)) {
	if len(row) == len(lists) {
		tell(slices.Clone(row))
		return
	}
	for _, n := range lists[len(row)] {
		products(lists, append(row, n), tell)
	}
}

// asks are all sets of the numbers below count, some with strangers.
func asks(count int) [][]int {
	l := [][]int{{}, {count}, {255, count + 1}}
	for _, x := range subsets(0, count) {
		l = append(l, x, append(slices.Clone(x), count, 200))
	}
	return l
}

func TestAllChoices(t *testing.T) { // P19.2: all tables of five nodes, each a choice of any others, or of another kind; all sets are asked
	const count = 5
	lists := make([][]api.Node, count)
	for place := range lists {
		for _, l := range subsets(place+1, count) {
			lists[place] = append(lists[place], choiceNode(l...))
		}
		lists[place] = append(lists[place], anyNode())
		if place < count-1 {
			lists[place] = append(lists[place], listNode(0, 1, place+1))
		}
	}
	heads := []head.Head{{}, headOf(4, 1)}
	tables := 0
	products(lists, nil, func(row []api.Node) {
		tables++
		for _, asked := range asks(count) {
			check(t, of(row...), asked, heads...)
		}
	})
	if tables != 17*9*5*3 {
		t.Errorf("%d tables", tables)
	}
}

func TestAllKinds(t *testing.T) { // P19.2: a choice of nodes of all kinds, in all pairs, and a choice of these
	heads := []head.Head{{}, headOf(0, 2), headOf(2, 1), headOf(3, 1), headOf(4, 1), headOf(4, 0), headOf(5, 0), headOf(6, 1), headOf(7, 20), floatHead(2, 0), floatHead(1, 32), headOf(1, 0), headOf(3, 2)}
	for _, a := range everyKind(2, 4) {
		for _, b := range everyKind(3, 5) {
			for _, last := range []api.Node{choiceNode(5), anyNode()} {
				s := of(choiceNode(1), choiceNode(2, 3), a, b, last, stringNode(1, 1))
				for _, asked := range [][]int{{0}, {1}, {2}, {3}, {4}, {5}, {2, 3}, {1, 4}, {0, 5}, {0, 1, 2, 3, 4, 5}} {
					check(t, s, asked, heads...)
				}
			}
		}
	}
}

func TestGreatTables(t *testing.T) { // P19.2: 256 nodes; ways that no one could walk one by one
	all := make([]int, 256)
	for i := range all {
		all[i] = i
	}
	chain, fan, broken, lists := make([]api.Node, 256), make([]api.Node, 256), make([]api.Node, 256), make([]api.Node, 256)
	for i := range 255 {
		chain[i], fan[i], broken[i], lists[i] = choiceNode(i+1), choiceNode(all[i+1:]...), choiceNode(i+1), listNode(0, 5, i+1)
		if i%50 == 49 {
			broken[i] = tupleNode(i + 1)
		}
	}
	for _, node := range []int{0, 1, 62, 63, 64, 65, 127, 128, 191, 192, 200, 254, 255} {
		for _, nodes := range [][]api.Node{chain, fan} {
			s := of(nodes...)
			wantSet(t, "Open", s, []int{node}, Open(s, Of(node)), all[node:]...)
			wantSet(t, "Lift", s, []int{node}, Lift(s, Of(node)), all[:node+1]...)
			wantSet(t, "Begin", s, []int{node}, Begin(s, Of(node), headOf(7, 20)), 255)
			check(t, s, []int{node, 40}, headOf(0, 1))
		}
		s := of(broken...)
		end := min(node/50*50+49, 255)
		wantSet(t, "Open", s, []int{node}, Open(s, Of(node)), all[node:end+1]...)
		wantSet(t, "Lift", s, []int{node}, Lift(s, Of(node)), all[max(0, (node-node%50)):node+1]...)
		check(t, s, []int{node, 120}, headOf(4, 1), headOf(4, 2))
		s = of(lists...)
		wantSet(t, "Open", s, []int{node}, Open(s, Of(node)), node)
		wantSet(t, "Lift", s, []int{node}, Lift(s, Of(node)), node)
		check(t, s, []int{node, 255}, headOf(4, 1), headOf(0, 1))
	}
	every := of(make([]api.Node, 256)...)
	wantSet(t, "Open", every, all, Open(every, Of(all...)), all...)
	wantSet(t, "Lift", every, all, Lift(every, Of(all...)), all...)
	wantSet(t, "Begin", every, all, Begin(every, Of(all...), head.Head{}), all...)
	for _, count := range []int{1, 2, 63, 64, 65, 128, 255} { // what is no node is left out
		s := of(make([]api.Node, count)...)
		wantSet(t, "Open", s, all, Open(s, Of(all...)), all[:count]...)
		wantSet(t, "Lift", s, all, Lift(s, Of(all...)), all[:count]...)
		wantSet(t, "Begin", s, all, Begin(s, Of(all...), head.Head{}), all[:count]...)
		wantSet(t, "Open", s, all[count:], Open(s, Of(all[count:]...)))
		wantSet(t, "Lift", s, all[count:], Lift(s, Of(all[count:]...)))
		wantSet(t, "Begin", s, all[count:], Begin(s, Of(all[count:]...), head.Head{}))
	}
}

func TestLongChoices(t *testing.T) { // P19.2: a node that is named very often
	l := slices.Repeat([]int{2, 1, 2}, 1<<18)
	s := of(choiceNode(l...), choiceNode(slices.Repeat([]int{3}, 1000)...), anyNode(), intNode(0, 0), realNode())
	wantSet(t, "Open", s, []int{0}, Open(s, Of(0)), 0, 1, 2, 3)
	wantSet(t, "Lift", s, []int{3}, Lift(s, Of(3)), 0, 1, 3)
	wantSet(t, "Begin", s, []int{0}, Begin(s, Of(0), head.Head{}), 2, 3)
}

// wrongSchemas aren't well-formed.
func wrongSchemas() []api.Schema {
	wide := make([]api.Node, 257)
	wide[0] = choiceNode(1, 256)
	late := make([]api.Node, 256)
	late[255].Hi = 1
	return []api.Schema{
		{}, {Nodes: []api.Node{}}, {Nodes: make([]api.Node, 3)[:0]}, of(make([]api.Node, 257)...), of(wide...), of(make([]api.Node, 5000)...), of(late...),
		of(api.Node{Kind: -1}), of(anyNode(), api.Node{Kind: 11}), of(choiceNode(1), api.Node{Kind: maxInt}), of(choiceNode(2), api.Node{Kind: minInt}, anyNode()),
		of(api.Node{Lo: 1}), of(anyNode(), api.Node{Kind: api.Real, Hi: 1}), of(choiceNode(1, 2), anyNode(), choiceNode()), of(choiceNode(1), api.Node{Kind: api.List, Hi: 1}), of(choiceNode(1), valueNode(api.Item{Kind: api.Float})), of(choiceNode(1), valueNode(textOf("\xff"))),
		of(choiceNode(1), intNode(1, 0)), of(choiceNode(1), stringNode(-1, 1)), of(taggedNode(-1, 1), anyNode()),
		of(choiceNode(1), recordNode(field("\xff", 2)), anyNode()), of(choiceNode(1), recordNode(field("a", 2), field("a", 2)), anyNode()), of(choiceNode(1), recordNode(field(strings.Repeat("a", 1022), 2)), anyNode()),
		of(choiceNode(0)), of(choiceNode(1), choiceNode(0)), of(choiceNode(1), choiceNode(1)), of(choiceNode(1, 2), anyNode()), of(choiceNode(1, -1), anyNode()), of(choiceNode(1, maxInt), anyNode()), of(choiceNode(1, minInt), anyNode()), of(choiceNode(1, 256), anyNode()), of(anyNode(), choiceNode(0)), of(anyNode(), choiceNode(2)), of(listNode(0, 9, 0)), of(anyNode(), tupleNode(0)), of(anyNode(), anyNode(), recordNode(perhaps("a", 2))), of(anyNode(), taggedNode(0, 300)),
	}
}

func TestWrongSchemas(t *testing.T) { // P19.2: zero answers
	heads := append(allHeads()[:40], headOf(3, 1), headOf(4, 0), headOf(4, 1), headOf(5, 1), headOf(7, 20), floatHead(2, 0))
	all := make([]int, 256)
	for i := range all {
		all[i] = i
	}
	for _, s := range wrongSchemas() {
		if well(s) {
			t.Fatalf("%s is well-formed", spell(s))
		}
		for _, asked := range [][]int{nil, {0}, {1}, {2}, {0, 1}, {0, 1, 2}, {255}, all} {
			check(t, s, asked, heads...)
		}
	}
}

// drawSchema is a schema that is well-formed, mostly of choices.
func drawSchema(r *rand.Rand, count int) api.Schema {
	var s api.Schema
	for place := range count {
		if place == count-1 || r.Intn(4) == 0 {
			s.Nodes = append(s.Nodes, drawAlone(r))
			continue
		}
		to := func() int { return place + 1 + r.Intn(min(count-place-1, 12)) }
		n := choiceNode(to())
		for r.Intn(2) == 0 {
			n.L = append(n.L, to())
		}
		switch r.Intn(9) {
		case 0:
			n.Kind = api.Tuple
		case 1:
			n = listNode(r.Intn(2), 1+r.Intn(2), to())
		case 2:
			n = recordNode(api.Field{Key: "a", Node: to(), Optional: r.Intn(2) == 0}, api.Field{Key: "b", Node: to(), Optional: r.Intn(2) == 0})
		case 3:
			n = taggedNode(r.Intn(3), to())
		}
		s.Nodes = append(s.Nodes, n)
	}
	return s
}

func drawAlone(r *rand.Rand) api.Node {
	lo := r.Intn(3)
	l := []api.Node{anyNode(), realNode(), intNode(lo-2, lo), intNode(lo-2, maxInt), blobNode(lo, lo+1), stringNode(lo, lo+1), tupleNode(), recordNode(), valueNode(uintOf(uint64(lo))), valueNode(nintOf(uint64(lo))), valueNode(textOf("aaa"[:lo])), valueNode(bytesOf("aaa"[:lo])), valueNode(simpleOf(uint64(lo)))}
	return l[r.Intn(len(l))]
}

func TestDrawn(t *testing.T) { // P19.2
	r := rand.New(rand.NewSource(6))
	for range 4000 {
		count := []int{1, 2, 3, 8, 20, 70, 256}[r.Intn(7)]
		s := drawSchema(r, count)
		if r.Intn(5) == 0 {
			place := r.Intn(count)
			s.Nodes[place] = harmed(r, s.Nodes[place])
		}
		kept := fmt.Sprint(s)
		asked := []int{}
		for r.Intn(4) > 0 {
			asked = append(asked, r.Intn(count+2))
		}
		var heads []head.Head
		for range 6 {
			h := headOf(r.Intn(8), uint64(r.Intn(4)))
			if r.Intn(6) == 0 {
				h = head.Head{Major: 7, Width: 1 << r.Intn(4), Arg: uint64(r.Intn(4))}
			}
			if r.Intn(9) == 0 {
				h.Arg = math.MaxUint64
			}
			heads = append(heads, h)
		}
		check(t, s, asked, heads...)
		if fmt.Sprint(s) != kept {
			t.Fatalf("%s became %s", short(kept), spell(s))
		}
	}
}

func TestSetsAreKept(t *testing.T) { // R4: what is asked isn't changed, nor is a table, or what lies behind its lists
	s := mixed()
	kept := fmt.Sprint(s)
	for i := range s.Nodes {
		l := append(slices.Clone(s.Nodes[i].L), 77, 78)
		f := append(slices.Clone(s.Nodes[i].Fields), field("z", 77))
		if len(s.Nodes[i].L) > 0 {
			s.Nodes[i].L = l[:len(l)-2]
		}
		if len(s.Nodes[i].Fields) > 0 {
			s.Nodes[i].Fields = f[:len(f)-1]
		}
		for _, h := range allHeads() {
			Stands(s.Nodes[i], h)
		}
		asked := Of(i, 200)
		Open(s, asked)
		Lift(s, asked)
		Begin(s, asked, headOf(4, 1))
		if asked != Of(i, 200) || !slices.Equal(l[len(l)-2:], []int{77, 78}) || f[len(f)-1] != field("z", 77) || fmt.Sprint(s) != kept {
			t.Fatalf("at %d: %v, %v, %v, %v", i, asked, l, f, s)
		}
	}
}
