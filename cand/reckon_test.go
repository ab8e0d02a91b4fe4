package cand

import (
	"fmt"
	"math/big"
	"slices"
	"strings"
	"testing"
	"unicode/utf8"

	"ullage/api"
	"ullage/head"
)

// What the chapter says, reckoned anew: ways of choices one by one, and numbers of any size.

func of(l ...api.Node) api.Schema { return api.Schema{Nodes: l} }

func anyNode() api.Node               { return api.Node{Kind: api.Any} }
func realNode() api.Node              { return api.Node{Kind: api.Real} }
func intNode(lo, hi int) api.Node     { return api.Node{Kind: api.Int, Lo: lo, Hi: hi} }
func blobNode(lo, hi int) api.Node    { return api.Node{Kind: api.Blob, Lo: lo, Hi: hi} }
func stringNode(lo, hi int) api.Node  { return api.Node{Kind: api.String, Lo: lo, Hi: hi} }
func valueNode(x api.Item) api.Node   { return api.Node{Kind: api.Value, Value: x} }
func listNode(lo, hi, n int) api.Node { return api.Node{Kind: api.List, Lo: lo, Hi: hi, L: []int{n}} }
func tupleNode(l ...int) api.Node     { return api.Node{Kind: api.Tuple, L: l} }
func taggedNode(lo, n int) api.Node   { return api.Node{Kind: api.Tagged, Lo: lo, L: []int{n}} }
func choiceNode(l ...int) api.Node    { return api.Node{Kind: api.Choice, L: l} }

func recordNode(l ...api.Field) api.Node   { return api.Node{Kind: api.Record, Fields: l} }
func field(key string, n int) api.Field    { return api.Field{Key: key, Node: n} }
func perhaps(key string, n int) api.Field  { return api.Field{Key: key, Node: n, Optional: true} }
func numberOf(kind int, n uint64) api.Item { return api.Item{Kind: kind, N: n} }
func uintOf(n uint64) api.Item             { return numberOf(api.Uint, n) }
func nintOf(n uint64) api.Item             { return numberOf(api.Nint, n) }
func simpleOf(n uint64) api.Item           { return numberOf(api.Simple, n) }
func textOf(s string) api.Item             { return api.Item{Kind: api.Text, S: s} }
func bytesOf(s string) api.Item            { return api.Item{Kind: api.Bytes, S: s} }

// recordOf is a Record of so many Fields that are needed, and so many that aren't, by turns as far as they go.
func recordOf(needed, others, node int) api.Node {
	n := recordNode()
	for i := range max(needed, others) {
		if i < others {
			n.Fields = append(n.Fields, perhaps(fmt.Sprint("o", i), node))
		}
		if i < needed {
			n.Fields = append(n.Fields, field(fmt.Sprint("n", i), node))
		}
	}
	return n
}

func short(x any) string {
	s := fmt.Sprint(x)
	return s[:min(len(s), 300)]
}

// mayBeNode tells whether n may stand in a well-formed schema, the numbers that it names aside.
func mayBeNode(n api.Node) bool {
	noValue := n.Value.Kind == 0 && n.Value.N == 0 && n.Value.S == "" && len(n.Value.L) == 0
	noBounds, noL, noFields := n.Lo == 0 && n.Hi == 0, len(n.L) == 0, len(n.Fields) == 0
	switch n.Kind {
	case api.Any, api.Real:
		return noValue && noBounds && noL && noFields
	case api.Int:
		return noValue && noL && noFields && n.Lo <= n.Hi
	case api.Blob, api.String:
		return noValue && noL && noFields && 0 <= n.Lo && n.Lo <= n.Hi
	case api.Value:
		return mayBeValue(n.Value) && noBounds && noL && noFields
	case api.List:
		return noValue && noFields && len(n.L) == 1 && 0 <= n.Lo && n.Lo <= n.Hi
	case api.Tuple:
		return noValue && noFields && noBounds
	case api.Record:
		return noValue && noL && noBounds && mayBeFields(n.Fields)
	case api.Tagged:
		return noValue && noFields && len(n.L) == 1 && n.Lo >= 0 && n.Hi == 0
	case api.Choice:
		return noValue && noFields && noBounds && !noL
	}
	return false
}

func mayBeValue(x api.Item) bool {
	switch x.Kind {
	case api.Uint, api.Nint:
		return x.S == "" && len(x.L) == 0
	case api.Simple:
		return x.S == "" && len(x.L) == 0 && (x.N <= 23 || 32 <= x.N && x.N <= 255)
	case api.Bytes:
		return x.N == 0 && len(x.L) == 0
	case api.Text:
		return x.N == 0 && len(x.L) == 0 && utf8.ValidString(x.S)
	}
	return false
}

func mayBeFields(l []api.Field) bool {
	keys := map[string]bool{}
	for _, f := range l {
		if !utf8.ValidString(f.Key) || len(f.Key) > 1021 {
			return false
		}
		keys[f.Key] = true
	}
	return len(keys) == len(l)
}

// isFor tells whether a node that may stand, and is no Choice, stands for a head.
func isFor(n api.Node, h head.Head) bool {
	arg := new(big.Int).SetUint64(h.Arg)
	from := func(lo, hi int) bool {
		return arg.Cmp(big.NewInt(int64(lo))) >= 0 && arg.Cmp(big.NewInt(int64(hi))) <= 0
	}
	switch n.Kind {
	case api.Any:
		return true
	case api.Int:
		if h.Major == 1 {
			arg.Sub(big.NewInt(-1), arg)
		}
		return (h.Major == 0 || h.Major == 1) && from(n.Lo, n.Hi)
	case api.Blob:
		return h.Major == 2 && from(n.Lo, n.Hi)
	case api.String:
		return h.Major == 3 && from(n.Lo, n.Hi)
	case api.List:
		return h.Major == 4 && from(n.Lo, n.Hi)
	case api.Tuple:
		return h.Major == 4 && from(len(n.L), len(n.L))
	case api.Record:
		needed := slices.DeleteFunc(slices.Clone(n.Fields), func(f api.Field) bool { return f.Optional })
		return h.Major == 5 && from(len(needed), len(n.Fields))
	case api.Tagged:
		return h.Major == 6 && from(n.Lo, n.Lo)
	case api.Real:
		return h.Major == 7 && h.Width >= 2
	case api.Value:
		return isValueFor(n.Value, h)
	}
	return false
}

func isValueFor(x api.Item, h head.Head) bool {
	switch x.Kind {
	case api.Uint:
		return h.Major == 0 && h.Arg == x.N
	case api.Nint:
		return h.Major == 1 && h.Arg == x.N
	case api.Bytes:
		return h.Major == 2 && h.Arg == uint64(len(x.S))
	case api.Text:
		return h.Major == 3 && h.Arg == uint64(len(x.S))
	case api.Simple:
		return h.Major == 7 && h.Arg == x.N && h.Width <= 1
	}
	return false
}

// well tells whether s is well-formed.
func well(s api.Schema) bool {
	for i, n := range s.Nodes {
		named := slices.Clone(n.L)
		for _, f := range n.Fields {
			named = append(named, f.Node)
		}
		for _, to := range named {
			if to <= i || to >= len(s.Nodes) {
				return false
			}
		}
		if !mayBeNode(n) {
			return false
		}
	}
	return len(s.Nodes) >= 1 && len(s.Nodes) <= 256
}

// walk adds to came all nodes to which a node leads by choices alone, itself among them.
func walk(s api.Schema, node int, came map[int]bool) {
	if came[node] {
		return
	}
	came[node] = true
	if s.Nodes[node].Kind == api.Choice {
		for _, to := range s.Nodes[node].L {
			walk(s, to, came)
		}
	}
}

// reach are, for each node of a schema that is well-formed, all nodes to which it leads by choices alone, itself among them.
func reach(s api.Schema) []map[int]bool {
	var l []map[int]bool
	for node := range s.Nodes {
		came := map[int]bool{}
		walk(s, node, came)
		l = append(l, came)
	}
	return l
}

// openOf, beginOf and liftOf are what Open, Begin and Lift have to be, told by the numbers.
func openOf(ways []map[int]bool, asked []int) []int {
	all := map[int]bool{}
	for _, node := range asked {
		if node >= 0 && node < len(ways) {
			for to := range ways[node] {
				all[to] = true
			}
		}
	}
	return rising(all)
}

func beginOf(s api.Schema, ways []map[int]bool, asked []int, h head.Head) []int {
	return slices.DeleteFunc(openOf(ways, asked), func(node int) bool {
		return s.Nodes[node].Kind == api.Choice || !isFor(s.Nodes[node], h)
	})
}

func liftOf(s api.Schema, ways []map[int]bool, of []int) []int {
	all := map[int]bool{}
	for node, came := range ways {
		for _, to := range of {
			if node == to || s.Nodes[node].Kind == api.Choice && came[to] {
				all[node] = true
			}
		}
	}
	return rising(all)
}

func rising(all map[int]bool) []int {
	l := []int{}
	for n := range all {
		l = append(l, n)
	}
	slices.Sort(l)
	return l
}

// spell is a text of a schema, not a long one.
func spell(s api.Schema) string {
	var b strings.Builder
	for i, n := range s.Nodes {
		fmt.Fprintf(&b, "%d:%v ", i, n)
	}
	return short(b.String())
}

// wantSet wants a call's answer to be just those numbers.
func wantSet(t *testing.T, call string, s api.Schema, asked []int, got Set, want ...int) {
	t.Helper()
	if got != Of(want...) {
		t.Fatalf("%s of %s and %v: %v, want %v", call, spell(s), asked, slices.Collect(got.All()), want)
	}
}

// check wants what the reckoning tells, of each of the heads.
func check(t *testing.T, s api.Schema, asked []int, heads ...head.Head) {
	t.Helper()
	if !well(s) {
		wantSet(t, "Open", s, asked, Open(s, Of(asked...)))
		wantSet(t, "Lift", s, asked, Lift(s, Of(asked...)))
		for _, h := range heads {
			wantSet(t, fmt.Sprint("Begin with ", h), s, asked, Begin(s, Of(asked...), h))
		}
		return
	}
	ways := reach(s)
	wantSet(t, "Open", s, asked, Open(s, Of(asked...)), openOf(ways, asked)...)
	wantSet(t, "Lift", s, asked, Lift(s, Of(asked...)), liftOf(s, ways, asked)...)
	for _, h := range heads {
		wantSet(t, fmt.Sprint("Begin with ", h), s, asked, Begin(s, Of(asked...), h), beginOf(s, ways, asked, h)...)
	}
}
