package cand

import (
	"fmt"
	"math"
	"math/rand"
	"slices"
	"strings"
	"testing"

	"ullage/api"
	"ullage/denote"
	"ullage/enc"
	"ullage/head"
)

func headOf(major int, arg uint64) head.Head { return head.Head{Major: major, Arg: arg} }

func floatHead(width int, arg uint64) head.Head {
	return head.Head{Major: 7, Width: width, Arg: arg}
}

// wantStands wants Stands to tell ok, whatever the node names.
func wantStands(t *testing.T, n api.Node, h head.Head, ok bool) {
	t.Helper()
	kept := fmt.Sprint(n)
	if len(n.L)+len(n.Fields) > 1000 {
		kept = ""
	}
	if got := Stands(n, h); got != ok {
		t.Errorf("Stands of %s and %v: %v", short(n), h, got)
	}
	if kept != "" && fmt.Sprint(n) != kept {
		t.Errorf("%s became %s", kept, short(n))
	}
}

func TestStandsByHand(t *testing.T) { // P19.3: each kind at both sides of what it asks for
	for _, x := range []struct {
		n   api.Node
		yes []head.Head
		no  []head.Head
	}{
		{anyNode(), []head.Head{{}, {Major: 7, Width: 8, Arg: math.MaxUint64}, {Major: 3, Arg: 1}, {Major: -1}, {Major: 8}, {Major: 99, Width: -4, Arg: 5}}, nil},
		{intNode(0, 9), []head.Head{headOf(0, 0), headOf(0, 9)}, []head.Head{headOf(0, 10), headOf(1, 0), headOf(1, 5), headOf(2, 5), headOf(7, 5), floatHead(2, 5), headOf(6, 5), headOf(8, 5), headOf(-1, 5), headOf(256, 5)}},
		{intNode(-3, 300), []head.Head{headOf(0, 0), headOf(0, 300), headOf(1, 0), headOf(1, 2)}, []head.Head{headOf(0, 301), headOf(1, 3), headOf(0, math.MaxUint64), headOf(1, math.MaxUint64)}},
		{intNode(-5, -2), []head.Head{headOf(1, 1), headOf(1, 4)}, []head.Head{headOf(1, 0), headOf(1, 5), headOf(0, 0), headOf(0, 3), headOf(0, 1<<64-2), headOf(0, 1<<64-5)}},
		{intNode(minInt, maxInt), []head.Head{headOf(0, maxInt), headOf(1, maxInt), {Major: 0, Width: 3, Arg: 1}}, []head.Head{headOf(0, 1<<63), headOf(1, 1<<63), headOf(0, math.MaxUint64), headOf(1, math.MaxUint64), headOf(3, 1)}},
		{intNode(minInt, minInt), []head.Head{headOf(1, maxInt)}, []head.Head{headOf(1, maxInt-1), headOf(1, 1<<63), headOf(0, 1<<63)}},
		{intNode(maxInt, maxInt), []head.Head{headOf(0, maxInt)}, []head.Head{headOf(0, maxInt-1), headOf(0, 1<<63), headOf(1, 1<<63)}},
		{blobNode(2, 3), []head.Head{headOf(2, 2), headOf(2, 3), {Major: 2, Width: 1, Arg: 2}}, []head.Head{headOf(2, 1), headOf(2, 4), headOf(3, 2), headOf(0, 2), headOf(4, 2), headOf(2, 1<<63), headOf(2, math.MaxUint64)}},
		{blobNode(0, maxInt), []head.Head{headOf(2, 0), headOf(2, maxInt)}, []head.Head{headOf(2, 1<<63), headOf(2, math.MaxUint64), headOf(3, 0)}},
		{stringNode(2, 3), []head.Head{headOf(3, 2), headOf(3, 3)}, []head.Head{headOf(3, 1), headOf(3, 4), headOf(2, 2), headOf(4, 2), headOf(3, 1<<63)}},
		{stringNode(0, 0), []head.Head{headOf(3, 0)}, []head.Head{headOf(3, 1), headOf(2, 0), {}}},
		{valueNode(uintOf(0)), []head.Head{{}, {Width: 8}}, []head.Head{headOf(0, 1), headOf(1, 0), headOf(7, 0), headOf(2, 0)}},
		{valueNode(uintOf(1 << 63)), []head.Head{headOf(0, 1<<63)}, []head.Head{headOf(1, 1<<63), headOf(0, 1<<63-1), headOf(0, 0)}},
		{valueNode(nintOf(math.MaxUint64)), []head.Head{headOf(1, math.MaxUint64)}, []head.Head{headOf(0, math.MaxUint64), headOf(1, 0), headOf(1, 1<<64-2)}},
		{valueNode(bytesOf("")), []head.Head{headOf(2, 0)}, []head.Head{headOf(3, 0), headOf(2, 1), {}}},
		{valueNode(bytesOf("\xff\x00")), []head.Head{headOf(2, 2)}, []head.Head{headOf(2, 1), headOf(2, 0), headOf(2, 3), headOf(3, 2)}},
		{valueNode(textOf("ü")), []head.Head{headOf(3, 2)}, []head.Head{headOf(3, 1), headOf(3, 0), headOf(2, 2)}},
		{valueNode(simpleOf(20)), []head.Head{headOf(7, 20), floatHead(1, 20), floatHead(-1, 20), floatHead(minInt, 20)}, []head.Head{headOf(7, 21), floatHead(2, 20), floatHead(3, 20), floatHead(4, 20), floatHead(8, 20), floatHead(maxInt, 20), headOf(0, 20), headOf(6, 20)}},
		{valueNode(simpleOf(255)), []head.Head{headOf(7, 255), floatHead(1, 255)}, []head.Head{floatHead(1, 254), floatHead(2, 255), headOf(0, 255)}},
		{realNode(), []head.Head{floatHead(2, 20), floatHead(4, 0), floatHead(8, math.MaxUint64), floatHead(3, 1), floatHead(maxInt, 1)}, []head.Head{headOf(7, 20), floatHead(1, 255), floatHead(-1, 1), floatHead(minInt, 1), {Width: 2}, {Major: 6, Width: 4}, {Major: 8, Width: 4}, {Major: -1, Width: 4}}},
		{listNode(1, 2, 5), []head.Head{headOf(4, 1), headOf(4, 2)}, []head.Head{headOf(4, 0), headOf(4, 3), headOf(5, 1), headOf(3, 1), headOf(4, math.MaxUint64)}},
		{listNode(0, maxInt, 5), []head.Head{headOf(4, 0), headOf(4, maxInt)}, []head.Head{headOf(4, 1<<63), headOf(5, 0)}},
		{tupleNode(), []head.Head{headOf(4, 0)}, []head.Head{headOf(4, 1), headOf(5, 0), {}}},
		{tupleNode(5, 5, 5), []head.Head{headOf(4, 3)}, []head.Head{headOf(4, 2), headOf(4, 4), headOf(4, 1), headOf(4, 1<<32+3), headOf(5, 3)}},
		{recordNode(), []head.Head{headOf(5, 0)}, []head.Head{headOf(5, 1), headOf(4, 0)}},
		{recordNode(field("a", 8), perhaps("b", 8)), []head.Head{headOf(5, 1), headOf(5, 2)}, []head.Head{headOf(5, 0), headOf(5, 3), headOf(4, 1), headOf(6, 1)}},
		{recordNode(perhaps("a", 8)), []head.Head{headOf(5, 0), headOf(5, 1)}, []head.Head{headOf(5, 2), headOf(5, math.MaxUint64)}},
		{recordNode(field("a", 8)), []head.Head{headOf(5, 1)}, []head.Head{headOf(5, 0), headOf(5, 2)}},
		{taggedNode(32, 6), []head.Head{headOf(6, 32), {Major: 6, Width: 1, Arg: 32}}, []head.Head{headOf(6, 31), headOf(6, 33), headOf(6, 0), headOf(5, 32), headOf(7, 32)}},
		{taggedNode(maxInt, 6), []head.Head{headOf(6, maxInt)}, []head.Head{headOf(6, 1<<63), headOf(6, math.MaxUint64), headOf(6, 1<<63-2)}},
	} {
		for _, h := range x.yes {
			wantStands(t, x.n, h, true)
		}
		for _, h := range x.no {
			wantStands(t, x.n, h, false)
		}
	}
}

// bounds are numbers at which something ends.
var bounds = []int{minInt, minInt + 1, -1 << 32, -256, -25, -2, -1, 0, 1, 2, 23, 24, 255, 256, 1<<32 - 1, 1 << 32, maxInt - 1, maxInt}

// args are the numbers about the bounds, also as -1 less them.
func args() []uint64 {
	var l []uint64
	for _, n := range bounds {
		for _, m := range []int{n - 1, n, n + 1} {
			l = append(l, uint64(m), uint64(-1-m))
		}
	}
	slices.Sort(l)
	return slices.Compact(l)
}

var majors = []int{0, 1, 2, 3, 4, 5, 6, 7, 8, -1, 9, 10, 256, 1 << 32, minInt, maxInt}

// allHeads are heads of all major types, arguments about the bounds and some widths.
func allHeads() []head.Head {
	var l []head.Head
	for _, major := range majors {
		for _, arg := range args() {
			l = append(l, headOf(major, arg))
		}
		for _, width := range []int{1, 2, 3, 4, 8, 9, -1, minInt, maxInt} {
			for _, arg := range []uint64{0, 1, 20, 24, 32, 255, 256, 1 << 63, math.MaxUint64} {
				l = append(l, head.Head{Major: major, Width: width, Arg: arg})
			}
		}
	}
	return l
}

// someNodes may stand, the nodes that they name aside.
func someNodes() []api.Node {
	l := []api.Node{anyNode(), realNode(), tupleNode(), recordNode()}
	for _, lo := range bounds {
		for _, hi := range bounds {
			if lo > hi {
				continue
			}
			l = append(l, intNode(lo, hi))
			if lo >= 0 {
				l = append(l, blobNode(lo, hi), stringNode(lo, hi), listNode(lo, hi, 1))
			}
		}
		if lo >= 0 {
			l = append(l, taggedNode(lo, 1))
		}
		l = append(l, valueNode(uintOf(uint64(lo))), valueNode(nintOf(uint64(lo))))
	}
	for n := range uint64(256) {
		if n < 24 || n >= 32 {
			l = append(l, valueNode(simpleOf(n)))
		}
	}
	for _, count := range []int{1, 2, 3, 22, 23, 24, 25, 255, 256, 257} {
		text := strings.Repeat("a", count)
		l = append(l, valueNode(bytesOf(text)), valueNode(textOf(text)), tupleNode(slices.Repeat([]int{1}, count)...))
		l = append(l, recordOf(count, 0, 1), recordOf(0, count, 1), recordOf(1, count, 1), recordOf(count, 1, 1), recordOf(count, count, 1))
	}
	return append(l, valueNode(bytesOf("")), valueNode(textOf("")))
}

func TestStandsAll(t *testing.T) { // P19.3: each node for each head
	heads := allHeads()
	for _, n := range someNodes() {
		if !mayBeNode(n) {
			t.Fatalf("%s may not stand", short(n))
		}
		yes := 0
		for _, h := range heads {
			want := isFor(n, h)
			if got := Stands(n, h); got != want {
				t.Errorf("Stands of %s and %v: %v", short(n), h, got)
			}
			if want {
				yes++
			}
		}
		if yes == 0 && n.Kind != api.Value {
			t.Errorf("%s stands for none of all heads", short(n))
		}
	}
}

func TestStandsNames(t *testing.T) { // P19.3: the numbers that it names aside
	for _, to := range append(slices.Clone(bounds), 0, 1, 3, 254, 255, 256, 257, 9999, 10000) {
		wantStands(t, listNode(1, 2, to), headOf(4, 1), true)
		wantStands(t, listNode(1, 2, to), headOf(4, 3), false)
		wantStands(t, tupleNode(to, 1, -to), headOf(4, 3), true)
		wantStands(t, tupleNode(to, 1, -to), headOf(4, 2), false)
		wantStands(t, taggedNode(7, to), headOf(6, 7), true)
		wantStands(t, taggedNode(7, to), headOf(6, uint64(to)|8), false)
		wantStands(t, recordNode(field("a", to), perhaps("b", to), field("c", 1)), headOf(5, 2), true)
		wantStands(t, recordNode(field("a", to), perhaps("b", to), field("c", 1)), headOf(5, 1), false)
		for _, h := range allHeads() {
			wantStands(t, choiceNode(to), h, false)
			wantStands(t, choiceNode(1, to), h, false)
		}
	}
	wantStands(t, tupleNode(make([]int, 1<<18)...), headOf(4, 1<<18), true)
	wantStands(t, tupleNode(make([]int, 1<<18)...), headOf(4, 1<<18-1), false)
	wantStands(t, choiceNode(make([]int, 1<<18)...), headOf(4, 1<<18), false)
	wantStands(t, recordOf(1<<15, 1<<15, 0), headOf(5, 1<<15), true)
	wantStands(t, recordOf(1<<15, 1<<15, 0), headOf(5, 1<<16), true)
	wantStands(t, recordOf(1<<15, 1<<15, 0), headOf(5, 1<<15-1), false)
	wantStands(t, recordOf(1<<15, 1<<15, 0), headOf(5, 1<<16+1), false)
}

// aptHeads are heads of which at least one suits any node that may stand, and some that may not.
func aptHeads(n api.Node) []head.Head {
	l := []head.Head{{}, floatHead(2, 0x3c00), floatHead(4, 20), floatHead(8, 1<<60), headOf(7, 20)}
	args := []uint64{0, 1, 2, 3, n.Value.N, uint64(n.Lo), uint64(n.Hi), uint64(-1 - n.Lo), uint64(-1 - n.Hi), uint64(len(n.L)), uint64(len(n.Fields)), uint64(len(n.Value.S)), uint64(len(n.Value.L))}
	for major := -1; major < 12; major++ {
		for _, arg := range args {
			l = append(l, headOf(major, arg))
		}
	}
	return l
}

func TestOtherNodes(t *testing.T) { // P19.3: false of all that may not stand, for all heads
	wrong := []api.Node{
		{Kind: -1}, {Kind: 11}, {Kind: 99}, {Kind: 256}, {Kind: 1 << 32}, {Kind: minInt}, {Kind: maxInt},
		intNode(1, 0), intNode(0, -1), intNode(maxInt, minInt), intNode(6, 5),
		blobNode(-1, 5), blobNode(2, 1), blobNode(minInt, maxInt), blobNode(-3, -2), stringNode(-1, 5), stringNode(2, 1), listNode(-1, 5, 1), listNode(2, 1, 1), taggedNode(-1, 1), taggedNode(minInt, 1),
		{Kind: api.List, Hi: 5}, {Kind: api.List, Hi: 5, L: []int{1, 1}}, {Kind: api.Tagged}, {Kind: api.Tagged, L: []int{1, 2}}, {Kind: api.Choice},
		valueNode(api.Item{Kind: api.Float}), valueNode(api.Item{Kind: api.Array}), valueNode(api.Item{Kind: api.Map}), valueNode(api.Item{Kind: api.Tag, L: []api.Item{{}}}), valueNode(api.Item{Kind: -1}), valueNode(api.Item{Kind: 9}), valueNode(simpleOf(24)), valueNode(simpleOf(31)), valueNode(simpleOf(256)), valueNode(textOf("\xff")), valueNode(textOf("a\xc3")), valueNode(api.Item{Kind: api.Text, N: 1, S: "a"}), valueNode(api.Item{S: "a"}), valueNode(api.Item{Kind: api.Bytes, L: []api.Item{{}}}),
		recordNode(field("\xff", 1)), recordNode(field("a", 1), perhaps("a", 2)), recordNode(field(strings.Repeat("a", 1022), 1)), recordNode(perhaps("b", 1), perhaps("\xed\xa0\x80", 1)),
	}
	for _, n := range wrong {
		if mayBeNode(n) {
			t.Fatalf("%s may stand", short(n))
		}
		for _, h := range append(aptHeads(n), allHeads()...) {
			wantStands(t, n, h, false)
		}
	}
	wantStands(t, recordNode(field(strings.Repeat("a", 1021), 1)), headOf(5, 1), true)
	wantStands(t, recordNode(field("", 1)), headOf(5, 1), true)
	wantStands(t, listNode(5, 5, 1), headOf(4, 5), true)
	wantStands(t, api.Node{Kind: api.Record, L: []int{}, Fields: []api.Field{}}, headOf(5, 0), true) // none is none
}

func TestFieldsThatAreNotTold(t *testing.T) { // P19.3: each kind with some value in each field
	lo, hi := []int{0, -1, 1, 3}, []int{0, -1, 1, 5}
	values := []api.Item{{}, uintOf(1), textOf("a"), simpleOf(20), {L: []api.Item{}}, {L: []api.Item{{}}}, {Kind: api.Float}, textOf("\xff")}
	lists := [][]int{nil, {}, {1}, {0}, {-4, 700}, {1, 1, 1}}
	fields := [][]api.Field{nil, {}, {field("a", 1)}, {perhaps("a", 1), field("b", -9)}, {field("a", 1), field("a", 1)}, {field("\x80", 1)}}
	may := 0
	for kind := -1; kind <= 11; kind++ {
		for _, l := range lists {
			for _, f := range fields {
				for _, x := range values {
					for i := range len(lo) * len(hi) {
						n := api.Node{Kind: kind, Lo: lo[i%len(lo)], Hi: hi[i/len(lo)], Value: x, L: l, Fields: f}
						ok := mayBeNode(n)
						if ok {
							may++
						}
						for _, h := range aptHeads(n) {
							if Stands(n, h) != (ok && isFor(n, h)) {
								t.Fatalf("Stands of %v and %v: %v", n, h, Stands(n, h))
							}
						}
					}
				}
			}
		}
	}
	if may < 300 {
		t.Errorf("only %d may stand", may)
	}
}

func TestItemsAndHeads(t *testing.T) { // P19.3 beside 18: what matches has a head for which its node stands; of kinds that ask for no more than the head, just that
	array := func(l ...api.Item) api.Item { return api.Item{Kind: api.Array, L: l} }
	items := []api.Item{array(), array(uintOf(1)), array(uintOf(1), textOf("a")), array(array(), array(), array()), {Kind: api.Map}, {Kind: api.Map, L: []api.Item{textOf("n0"), uintOf(1)}}, {Kind: api.Map, L: []api.Item{textOf("o0"), uintOf(1), textOf("n0"), uintOf(2)}}, {Kind: api.Tag, N: 1, L: []api.Item{uintOf(1)}}, {Kind: api.Tag, N: maxInt, L: []api.Item{uintOf(1)}}}
	for _, arg := range args() {
		items = append(items, uintOf(arg), nintOf(arg), api.Item{Kind: api.Tag, N: arg, L: []api.Item{{}}})
	}
	for _, f := range []float64{0, math.Copysign(0, -1), 1.5, 0.1, 1e10, 65536, 5.960464477539063e-08, 1.1920928955078125e-06, math.Inf(1), math.MaxFloat64} {
		items = append(items, api.Item{Kind: api.Float, N: math.Float64bits(f)})
	}
	items = append(items, api.Item{Kind: api.Float, N: 0x7ff8000000000000}) // the NaN
	for n := range uint64(256) {
		if n < 24 || n >= 32 {
			items = append(items, simpleOf(n))
		}
	}
	for _, count := range []int{0, 1, 2, 23, 24, 255, 256, 257} {
		text := strings.Repeat("a", count)
		items = append(items, bytesOf(text), textOf(text))
	}
	for _, n := range someNodes() {
		s := of(n, anyNode())
		for _, x := range items {
			b, err := enc.Encode(x)
			h, _, wrong := head.First(b)
			if err != api.OK || wrong != api.OK {
				t.Fatalf("%v: %v, %v", x, err, wrong)
			}
			matches, stands := denote.Matches(s, 0, x), Stands(n, h)
			just := n.Kind != api.Record && (n.Kind != api.Value || n.Value.S == "") // the others ask for what comes behind the head, too
			if matches && !stands || just && stands != matches {
				t.Errorf("%s and %v: matches %v, stands %v", short(n), x, matches, stands)
			}
		}
	}
}

func TestStandsDrawn(t *testing.T) { // P19.3: nodes harmed in any field
	r := rand.New(rand.NewSource(5))
	nodes := someNodes()
	for range 100000 {
		n := nodes[r.Intn(len(nodes))]
		if len(n.L)+len(n.Fields) > 30 {
			continue
		}
		n = harmed(r, n)
		ok := mayBeNode(n)
		heads := aptHeads(n)
		for range 5 {
			h := heads[r.Intn(len(heads))]
			if got := Stands(n, h); got != (ok && isFor(n, h)) {
				t.Fatalf("Stands of %s and %v: %v", short(n), h, got)
			}
		}
	}
}

// harmed is n, changed in one field, or not at all.
func harmed(r *rand.Rand, n api.Node) api.Node {
	n.L, n.Fields = slices.Clone(n.L), slices.Clone(n.Fields)
	small := r.Intn(5) - 2
	switch r.Intn(9) {
	case 0:
		n.Kind = r.Intn(13) - 1
	case 1:
		n.Lo += small
	case 2:
		n.Hi += small
	case 3:
		n.L = append(n.L, small)
	case 4:
		n.Fields = append(n.Fields, api.Field{Key: []string{"n0", "o1", "x", "\xff", ""}[r.Intn(5)], Node: small, Optional: r.Intn(2) == 0})
	case 5:
		n.Value.N += uint64(small)
	case 6:
		n.Value.S += []string{"a", "\x80"}[r.Intn(2)]
	case 7:
		n.Value.Kind = r.Intn(10) - 1
	}
	return n
}
