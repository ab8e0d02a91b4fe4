package live

import (
	"fmt"
	"math"
	"slices"
	"strings"
	"testing"

	"ullage/api"
	"ullage/auto"
	"ullage/head"
)

// wantRow runs b, and looks for the first byte behind which the answer is false.
func wantRow(t *testing.T, what string, m *Matcher, b []byte, at int, done bool) {
	t.Helper()
	answers, gotDone := run(t, m, events(t, b, api.MaxDepth))
	if got := slices.Index(answers, false); len(answers) != len(b) || got != at || gotDone != done {
		t.Errorf("%s: %d of %d bytes, false at %d, %v, want %d, %v", what, len(answers), len(b), got, gotDone, at, done)
	}
}

// keyOf is a text of four bytes; a greater number's is behind.
func keyOf(i int) string { return fmt.Sprintf("%04x", i) }

func TestManyFields(t *testing.T) { // P20.1: a Record of very many Fields, one of which lacks, or isn't one, or whose value is wrong
	const count = 1 << 14
	n := api.Node{Kind: api.Record}
	for i := range count {
		n.Fields = append(n.Fields, api.Field{Key: keyOf(count - 1 - i), Node: 1 + i%2, Optional: i%4 == 3})
	}
	s := api.Schema{Nodes: []api.Node{n, {Kind: api.Int, Hi: 9}, {Kind: api.String}}}
	m := fresh(t, s, 2)
	row := func(lacks int, value func(i int) byte) []byte {
		pairs := count
		var b []byte
		for i := range count {
			if i == lacks {
				pairs--
				continue
			}
			b = append(append(append(b, 0x64), keyOf(i)...), value(i))
		}
		return append(head.Put(api.Map, uint64(pairs)), b...)
	}
	right := func(i int) byte { // the one of the Field count-1-i
		if (count-1-i)%2 == 0 {
			return 5
		}
		return 0x60
	}
	whole := row(-1, right)
	wantRow(t, "all", m, whole, alive, true)
	m.Reset()
	less := row(count-1, right) // the first Field, which may not lack
	wantRow(t, "one less", m, less, len(less)-1, false)
	m.Reset()
	wantRow(t, "one less that may lack", m, row(0, right), alive, true)
	m.Reset()
	wantRow(t, "a wrong value", m, row(-1, func(i int) byte {
		if i == count-2 {
			return 0x80
		}
		return right(i)
	}), len(whole)-7, false)
	m.Reset()
	other := slices.Clone(whole)
	copy(other[len(other)-5:], "zzzz")
	wantRow(t, "another key", m, other, len(other)-2, false)
}

func TestLongTuple(t *testing.T) { // P20.1: each item in its place
	const count = 1 << 15
	n := api.Node{Kind: api.Tuple}
	for i := range count {
		n.L = append(n.L, 1+i%3)
	}
	s := api.Schema{Nodes: []api.Node{n, {Kind: api.Int}, {Kind: api.String}, {Kind: api.Tuple}}}
	b := head.Put(api.Array, count)
	for i := range count {
		b = append(b, []byte{0x00, 0x60, 0x80}[i%3])
	}
	m := fresh(t, s, 2)
	wantRow(t, "all", m, b, alive, true)
	for _, at := range []int{5, 1000, len(b) - 1} {
		m.Reset()
		wrong := slices.Clone(b)
		wrong[at] = 0xf5
		wantRow(t, fmt.Sprint("wrong at ", at), m, wrong, at, false)
	}
}

func TestLongTexts(t *testing.T) { // P20.1: the Value's text, byte by byte, beside another one that differs in its last byte
	const size = 1 << 18
	one := strings.Repeat("ab", size/2)
	two := one[:size-1] + "c"
	for _, kind := range []int{api.Bytes, api.Text} {
		s := api.Schema{Nodes: []api.Node{{Kind: api.Choice, L: []int{1, 2}}, {Kind: api.Value, Value: api.Item{Kind: kind, S: one}}, {Kind: api.Value, Value: api.Item{Kind: kind, S: two}}}}
		m := fresh(t, s, 1)
		begin := head.Put(kind, size)
		for _, x := range []struct {
			text string
			at   int
		}{{one, alive}, {two, alive}, {one[:size-1] + "d", len(begin) + size - 1}, {one[:1000] + "b" + one[1001:], len(begin) + 1000}, {"b" + one[1:], len(begin)}} {
			wantRow(t, x.text[:5], m, append(slices.Clone(begin), x.text...), x.at, x.at == alive)
			m.Reset()
		}
	}
}

func TestWideChoice(t *testing.T) { // P20.1: 256 nodes; each word of the sets
	s := api.Schema{Nodes: []api.Node{{Kind: api.List, Hi: 1 << 20, L: []int{1}}, {Kind: api.Choice}}}
	for i := 2; i < 256; i++ {
		s.Nodes[1].L = append(s.Nodes[1].L, i)
		s.Nodes = append(s.Nodes, api.Node{Kind: api.Value, Value: api.Item{Kind: api.Text, S: keyOf(i)}})
	}
	m := fresh(t, s, 2)
	b := head.Put(api.Array, 255)
	for i := 2; i < 256; i++ {
		b = append(append(b, 0x64), keyOf(i)...)
	}
	wantRow(t, "all", m, append(slices.Clone(b), append([]byte{0x64}, keyOf(2)...)...), alive, true)
	m.Reset()
	wantRow(t, "another one", m, append(slices.Clone(b), append([]byte{0x64}, keyOf(256)...)...), len(b)+2, false)
}

func TestManyWays(t *testing.T) { // P20.1: 255 nodes that stand for one item, and each asks for another one
	s := api.Schema{Nodes: []api.Node{{Kind: api.Choice}}}
	for i := 1; i < 128; i++ {
		s.Nodes[0].L = append(s.Nodes[0].L, i)
		s.Nodes = append(s.Nodes, api.Node{Kind: api.Record, Fields: []api.Field{{Key: "a", Node: 127 + i}, {Key: "b", Node: 255 - i, Optional: true}}})
	}
	for i := 128; i < 255; i++ {
		s.Nodes = append(s.Nodes, api.Node{Kind: api.Int, Lo: i, Hi: i})
	}
	m := fresh(t, s, 2)
	for a := 128; a < 255; a += 7 { // a is node a's, and the Record's is a-127; b is then node 255-(a-127)
		wantRow(t, "a alone", m, []byte{0xa1, 0x61, 'a', 0x18, byte(a)}, alive, true)
		m.Reset()
		wantRow(t, "both", m, []byte{0xa2, 0x61, 'a', 0x18, byte(a), 0x61, 'b', 0x18, byte(255 - (a - 127))}, alive, true)
		m.Reset()
		wantRow(t, "another b", m, []byte{0xa2, 0x61, 'a', 0x18, byte(a), 0x61, 'b', 0x18, byte(255 - (a - 128))}, 8, false)
		m.Reset()
	}
	wantRow(t, "b alone", m, []byte{0xa1, 0x61, 'b', 0x18, 200}, 4, false)
}

func TestLongLists(t *testing.T) { // P20.1: very many items, and a choice that names its nodes very often
	const count = 1 << 16
	s := api.Schema{Nodes: []api.Node{{Kind: api.List, Hi: count, L: []int{1}}, {Kind: api.Choice, L: slices.Repeat([]int{3, 2, 3}, 1<<16)}, {Kind: api.Int, Hi: 5}, {Kind: api.Choice, L: []int{4}}, {Kind: api.Real}}}
	m := fresh(t, s, 2)
	b := append(head.Put(api.Array, count), slices.Repeat([]byte{5}, count-1)...)
	wantRow(t, "all", m, append(slices.Clone(b), 0), alive, true)
	m.Reset()
	wantRow(t, "the last one", m, append(slices.Clone(b), 6), len(b), false)
}

func TestGreatHeads(t *testing.T) { // P20.1: arguments at both sides of what an int holds, and counts that go round twice over
	for _, lines := range []string{"any", "choice 1 2 / list 0 9223372036854775807 3 / any / int 0 1", "list 0 9223372036854775807 1 / int 0 1", "blob 0 9223372036854775807", "string 0 9223372036854775807", "record 61:1? / any", "tagged 9223372036854775807 1 / int 0 1", "tuple 1 1 / any", "choice 1 2 / record 61:3 / any / int 0 0"} {
		s := parse(t, lines)
		m := fresh(t, s, api.MaxDepth)
		for _, major := range []int{0, 1, 2, 3, 4, 5, 6} {
			for _, arg := range []uint64{1 << 31, 1 << 32, 1<<63 - 2, 1<<63 - 1, 1 << 63, 1<<63 + 1, math.MaxUint64 - 1, math.MaxUint64} {
				for _, rest := range []string{"\x61a\x00\x61b\x00", "\x00\x01\x02", "\x01\x61a", "\x81\x01\x82\x01"} {
					b := append(head.Put(major, arg), rest...)
					m.Reset()
					check(t, m, s, b)
				}
			}
		}
	}
}

func TestDeeperThanNamed(t *testing.T) { // P1: items deeper than the depth, of which nothing is promised
	for depth := 1; depth < 5; depth++ {
		m := fresh(t, parse(t, "choice 1 2 / list 0 9 2 / any"), depth)
		for _, l := range events(t, digits(t, "81 81 81 81 a1 61 61 81 81 00"), api.MaxDepth) {
			for _, e := range l {
				if got := m.Event(e); got != m.Live() {
					t.Error(depth, e)
				}
			}
		}
	}
	m := fresh(t, parse(t, "any"), 1)
	if m.Event(auto.Event{Kind: auto.EventKey, Deep: 1}) != m.Live() {
		t.Error("a key that is the outermost item")
	}
}
