package live

import (
	"slices"

	"ullage/api"
	"ullage/cand"
	"ullage/head"
)

// part is what is kept of a node.
type part struct {
	kind   int
	nodes  []int                // of a List, Tuple or Tagged: for its items
	text   string               // of a Value
	fields map[string]api.Field // of a Record, by their Keys
	needed int                  // how many of them aren't Optional
	record int                  // its number among the Records
	open   cand.Set             // the node, and all to which it leads by choices alone
}

// partOf is what is kept of n, but for what hangs on other nodes.
func partOf(n api.Node) part {
	p := part{kind: n.Kind, text: n.Value.S}
	switch n.Kind {
	case api.List, api.Tuple, api.Tagged:
		p.nodes = slices.Clone(n.L)
	case api.Record:
		p.fields = map[string]api.Field{}
	}
	for _, f := range n.Fields {
		p.fields[f.Key] = f
		if !f.Optional {
			p.needed++
		}
	}
	return p
}

// asks is the node that has to stand for the item that is open in the one of l, so that the node stands for that; none, if any may come there.
func (p part) asks(l *level) int {
	switch p.kind {
	case api.List, api.Tagged:
		return p.nodes[0]
	case api.Tuple:
		if place, ok := behind(len(p.nodes), l.left); ok {
			return p.nodes[place]
		}
	case api.Record:
		if l.value {
			return l.came[p.record].asked
		}
	}
	return none
}

// counts tells whether a Record stands for h.
func (p part) counts(h head.Head) bool {
	return h.Major == api.Map && h.Arg >= uint64(p.needed) && h.Arg <= uint64(len(p.fields))
}

// hasNext tells whether a node that stands for a text, of which so many bytes are left, stands for it with the next one.
func (p part) hasNext(left uint64, c byte) bool {
	if p.kind != api.Value {
		return true
	}
	place, ok := behind(len(p.text), left)
	return ok && p.text[place] == c
}

// take takes the next key of a Record that stands for the item of l; false: it is none of a Field.
func (p part) take(l *level, key string) bool {
	f, ok := p.fields[key]
	if !ok {
		return false
	}
	came := &l.came[p.record]
	came.asked = f.Node
	if !f.Optional {
		came.needed++
	}
	return true
}

// full tells whether a node, that stands for the map of l, still does behind its last pair.
func (p part) full(l *level) bool {
	return p.kind != api.Record || l.came[p.record].needed == p.needed
}

// behind is the place of the next one of so many, of which left haven't come; false: there isn't one, as only events that no automaton tells may have it.
func behind(all int, left uint64) (int, bool) {
	if left < 1 || left > uint64(all) {
		return 0, false
	}
	return all - int(left), true
}

// shortened is a schema in which the choices lead to the same nodes as in s, and the others stand for the same heads; but Records, which stand for all. Each head is held against it, and however long s is, it isn't.
func shortened(s api.Schema) api.Schema {
	var short api.Schema
	for _, n := range s.Nodes {
		short.Nodes = append(short.Nodes, shortOf(n))
	}
	return short
}

// shortOf is a short node in the place of n.
func shortOf(n api.Node) api.Node {
	switch n.Kind {
	case api.Value:
		return shortValue(n)
	case api.Tuple:
		if len(n.L) > 1 {
			return api.Node{Kind: api.List, Lo: len(n.L), Hi: len(n.L), L: slices.Clone(n.L[:1])}
		}
	case api.Record:
		return api.Node{Kind: api.Any}
	case api.Choice: // a node may be named very often, but there are few
		n.L = slices.Collect(cand.Of(n.L...).All())
	}
	n.L = slices.Clone(n.L)
	return n
}

// shortValue is a node that stands for the heads for which the Value n does.
func shortValue(n api.Node) api.Node {
	size := len(n.Value.S)
	switch n.Value.Kind {
	case api.Bytes:
		return api.Node{Kind: api.Blob, Lo: size, Hi: size}
	case api.Text:
		return api.Node{Kind: api.String, Lo: size, Hi: size}
	}
	return n
}

// keySize is how many bytes of a key tell which Field's it is, of all Fields: as many as the longest Key has, and 1 more, which none has.
func keySize(s api.Schema) int {
	longest := 0
	for _, n := range s.Nodes {
		for _, f := range n.Fields {
			longest = max(longest, len(f.Key))
		}
	}
	return longest + 1
}
