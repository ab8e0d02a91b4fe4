package live

import (
	"encoding/hex"
	"fmt"
	"math/big"
	"slices"
	"strings"
	"testing"

	"ullage/api"
	"ullage/auto"
	"ullage/cddl"
	"ullage/denote"
	"ullage/plain"
	"ullage/schema"
)

// What the chapter says, reckoned anew from all bytes so far: the item is laid out as a tree, as far as it goes, and each node is asked of it from above, with no sets.

// piece is an item, as far as its bytes have come.
type piece struct {
	whole, ended bool // its head is; the item has
	major, width int
	arg          uint64
	text         string
	items        []*piece // those that have begun
}

// lay is the item that begins at b[at], as far as b goes, and where it ends; b is one of which no verdict is told.
func lay(b []byte, at int) (*piece, int) {
	p := &piece{major: int(b[at] >> 5)}
	info := int(b[at] & 31)
	p.arg = uint64(info)
	at++
	if info >= 24 {
		p.width, p.arg = 1<<(info-24), 0
		for range p.width {
			if at == len(b) {
				return p, at
			}
			p.arg = p.arg<<8 | uint64(b[at])
			at++
		}
	}
	p.whole = true
	switch p.major {
	case 0, 1, 7:
		p.ended = true
	case 2, 3:
		size := int(min(p.arg, uint64(len(b)-at)))
		p.text = string(b[at : at+size])
		at += size
		p.ended = uint64(size) == p.arg
	default:
		return p, layItems(b, at, p)
	}
	return p, at
}

func layItems(b []byte, at int, p *piece) int {
	count := new(big.Int).SetUint64(p.arg)
	if p.major == 5 {
		count.Add(count, count)
	}
	if p.major == 6 {
		count.SetInt64(1)
	}
	for big.NewInt(int64(len(p.items))).Cmp(count) < 0 {
		if at == len(b) {
			return at
		}
		var y *piece
		y, at = lay(b, at)
		p.items = append(p.items, y)
		if !y.ended {
			return at
		}
	}
	p.ended = true
	return at
}

// within tells whether lo <= p.arg <= hi, of numbers of any size.
func (p *piece) within(lo, hi int) bool {
	n := new(big.Int).SetUint64(p.arg)
	if p.major == 1 {
		n.Sub(big.NewInt(-1), n)
	}
	return n.Cmp(big.NewInt(int64(lo))) >= 0 && n.Cmp(big.NewInt(int64(hi))) <= 0
}

// isStanding tells whether the node stands for p.
func isStanding(s api.Schema, node int, p *piece) bool {
	if !p.whole {
		return true
	}
	n := s.Nodes[node]
	switch n.Kind {
	case api.Any:
		return true
	case api.Int:
		return p.major <= 1 && p.within(n.Lo, n.Hi)
	case api.Blob:
		return p.major == 2 && p.within(n.Lo, n.Hi)
	case api.String:
		return p.major == 3 && p.within(n.Lo, n.Hi)
	case api.Value:
		return isValue(n.Value, p)
	case api.Real:
		return p.major == 7 && p.width >= 2
	case api.List:
		return p.major == 4 && p.within(n.Lo, n.Hi) && !slices.ContainsFunc(p.items, func(y *piece) bool { return !isStanding(s, n.L[0], y) })
	case api.Tuple:
		return p.major == 4 && p.arg == uint64(len(n.L)) && isTuple(s, n, p)
	case api.Record:
		return p.major == 5 && isRecord(s, n, p)
	case api.Tagged:
		return p.major == 6 && p.within(n.Lo, n.Lo) && (len(p.items) == 0 || isStanding(s, n.L[0], p.items[0]))
	}
	return slices.ContainsFunc(n.L, func(to int) bool { return isStanding(s, to, p) })
}

func isValue(x api.Item, p *piece) bool {
	switch x.Kind {
	case api.Bytes, api.Text:
		return p.major == x.Kind && p.arg == uint64(len(x.S)) && strings.HasPrefix(x.S, p.text)
	}
	return p.major == x.Kind && p.arg == x.N && (p.major != 7 || p.width <= 1)
}

func isTuple(s api.Schema, n api.Node, p *piece) bool {
	for i, y := range p.items {
		if !isStanding(s, n.L[i], y) {
			return false
		}
	}
	return true
}

func isRecord(s api.Schema, n api.Node, p *piece) bool {
	needed := 0
	for _, f := range n.Fields {
		if !f.Optional {
			needed++
		}
	}
	if !p.within(needed, len(n.Fields)) {
		return false
	}
	came := map[string]bool{}
	at := -1
	for i, y := range p.items {
		if i%2 == 1 {
			if !isStanding(s, n.Fields[at].Node, y) {
				return false
			}
			continue
		}
		if !y.ended {
			continue
		}
		at = slices.IndexFunc(n.Fields, func(f api.Field) bool { return f.Key == y.text })
		if y.major != 3 || at < 0 {
			return false
		}
		came[y.text] = true
	}
	return !p.ended || !slices.ContainsFunc(n.Fields, func(f api.Field) bool { return !f.Optional && !came[f.Key] })
}

// limits are of that depth, and else the widest ones, as far as that matters to b.
func limits(b []byte, depth int) api.Limits {
	size := max(len(b), 1)
	return api.Limits{Depth: min(depth, size), Key: min(api.MaxKey, size), Size: api.MaxSize}
}

// events are the events of each byte of b, up to the one that is wrong.
func events(t testing.TB, b []byte, depth int) [][]auto.Event {
	a, err := auto.New(limits(b, depth))
	if err != api.OK {
		t.Fatal(depth, err)
	}
	var all [][]auto.Event
	for _, c := range b {
		var l []auto.Event
		if a.Step(c, func(e auto.Event) { l = append(l, e) }) != api.OK {
			break
		}
		all = append(all, l)
	}
	return all
}

// run hands events to m, and tells the answer behind each byte, and whether the item is done.
func run(t testing.TB, m *Matcher, all [][]auto.Event) ([]bool, bool) {
	var answers []bool
	for i, l := range all {
		for _, e := range l {
			if got := m.Event(e); got != m.Live() {
				t.Fatalf("byte %d, %v: Event %v, Live %v", i, e, got, m.Live())
			}
		}
		answers = append(answers, m.Live())
	}
	return answers, m.Done()
}

// want are the answers behind each byte of b, by the reckoning, and whether the item is done.
func want(s api.Schema, b []byte) ([]bool, bool) {
	answers, done := []bool(nil), false
	for i := range b {
		p, _ := lay(b[:i+1], 0)
		stands := isStanding(s, 0, p)
		answers = append(answers, stands)
		done = stands && p.ended
	}
	return answers, done
}

// fresh is New, which has to go well.
func fresh(t testing.TB, s api.Schema, depth int) *Matcher {
	m, err := New(s, depth)
	if m == nil || err != api.OK {
		t.Fatalf("%s, %d: %v, %d", spell(s), depth, m, err)
	}
	return m
}

// check holds a matcher, told nothing, against the reckoning: all bytes up to the first wrong one; and against 18, if these are an item.
func check(t testing.TB, m *Matcher, s api.Schema, b []byte) {
	all := events(t, b, api.MaxDepth)
	b = b[:len(all)]
	if !m.Live() || m.Done() {
		t.Fatalf("%s: Live %v, Done %v ahead of all", spell(s), m.Live(), m.Done())
	}
	got, done := run(t, m, all)
	answers, isDone := want(s, b)
	if !slices.Equal(got, answers) || done != isDone {
		t.Fatalf("%s, bytes %x: %v, %v, want %v, %v", spell(s), b, got, done, answers, isDone)
	}
	if first := slices.Index(answers, false); first >= 0 && slices.Contains(answers[first:], true) {
		t.Fatalf("%s, bytes %x: the reckoning goes back to true: %v", spell(s), b, answers)
	}
	x, v := plain.Decode(b, limits(b, api.MaxDepth))
	if v.Error != api.OK {
		return
	}
	if matches, err := denote.Schema(s, x); err != api.OK || matches != done {
		t.Fatalf("%s, bytes %x: done %v, matches %v, %d", spell(s), b, done, matches, err)
	}
}

// parse is the schema of lines, which are apart by slashes here.
func parse(t testing.TB, lines string) api.Schema {
	s, line, err := cddl.Parse(strings.ReplaceAll(lines, " / ", "\n") + "\n")
	if err != api.OK {
		t.Fatalf("%q: line %d: %d", lines, line, err)
	}
	return s
}

// digits are the bytes of digits, with spaces between.
func digits(t testing.TB, text string) []byte {
	b, err := hex.DecodeString(strings.ReplaceAll(text, " ", ""))
	if err != nil {
		t.Fatal(text, err)
	}
	return b
}

// spell is a text of a schema, not a long one.
func spell(s api.Schema) string {
	if schema.Width(s) > 1 {
		return fmt.Sprint(len(s.Nodes), " nodes")
	}
	text, _ := cddl.Text(s)
	if text == "" {
		text = fmt.Sprint(s)
	}
	return text[:min(len(text), 400)]
}
