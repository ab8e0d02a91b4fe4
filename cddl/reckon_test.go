package cddl

import (
	"encoding/binary"
	"encoding/hex"
	"fmt"
	"math"
	"math/big"
	"regexp"
	"slices"
	"strconv"
	"strings"
	"testing"
	"unicode/utf8"

	"ullage/api"
	"ullage/schema"
)

// What the chapter says, reckoned anew: lines are matched as a whole, numbers have any size, values are laid and read by hand.

func of(l ...api.Node) api.Schema { return api.Schema{Nodes: l} }

func anyNode() api.Node               { return api.Node{Kind: api.Any} }
func realNode() api.Node              { return api.Node{Kind: api.Real} }
func intNode(lo, hi int) api.Node     { return api.Node{Kind: api.Int, Lo: lo, Hi: hi} }
func blobNode(lo, hi int) api.Node    { return api.Node{Kind: api.Blob, Lo: lo, Hi: hi} }
func stringNode(lo, hi int) api.Node  { return api.Node{Kind: api.String, Lo: lo, Hi: hi} }
func valueNode(x api.Item) api.Node   { return api.Node{Kind: api.Value, Value: x} }
func listNode(lo, hi, n int) api.Node { return api.Node{Kind: api.List, Lo: lo, Hi: hi, L: []int{n}} }
func tupleNode(l ...int) api.Node     { return api.Node{Kind: api.Tuple, L: l} }
func taggedNode(lo, n int) api.Node   { return api.Node{Kind: api.Tagged, Lo: lo, L: []int{n}} }
func choiceNode(l ...int) api.Node    { return api.Node{Kind: api.Choice, L: l} }

func recordNode(l ...api.Field) api.Node          { return api.Node{Kind: api.Record, Fields: l} }
func field(key string, n int) api.Field           { return api.Field{Key: key, Node: n} }
func may(key string, n int) api.Field             { return api.Field{Key: key, Node: n, Optional: true} }
func textOf(s string) api.Item                    { return api.Item{Kind: api.Text, S: s} }
func bytesOf(s string) api.Item                   { return api.Item{Kind: api.Bytes, S: s} }
func itemOf(kind int, l ...api.Item) api.Item     { return api.Item{Kind: kind, L: l} }
func numberOf(kind int, n uint64) api.Item        { return api.Item{Kind: kind, N: n} }
func with(n api.Node, f func(*api.Node)) api.Node { f(&n); return n }
func anys(n int) []api.Node                       { return make([]api.Node, n) }

const (
	mostKey = 1021
	minInt  = math.MinInt
	maxInt  = math.MaxInt
	many    = maxInt
)

// rule is what a kind of node has, and the form of its line.
type rule struct {
	kind                  int
	word                  string
	lo, hi, value, fields bool
	least, most           int  // nodes in L
	from0                 bool // Lo
	form                  *regexp.Regexp
}

// form is the form of a line: N a number, O one from 0 to 9,999, H two digits of a byte.
func form(text string) *regexp.Regexp {
	text = strings.NewReplacer("N", "(0|-?[1-9][0-9]*)", "O", "(?:0|[1-9][0-9]{0,3})", "H", "(?:[0-9a-f][0-9a-f])").Replace(text)
	return regexp.MustCompile(`\A` + text + `\z`)
}

var rules = []rule{
	{kind: api.Any, word: "any", form: form(`any`)},
	{kind: api.Int, word: "int", lo: true, hi: true, form: form(`int N N`)},
	{kind: api.Blob, word: "blob", lo: true, hi: true, from0: true, form: form(`blob N N`)},
	{kind: api.String, word: "string", lo: true, hi: true, from0: true, form: form(`string N N`)},
	{kind: api.Value, word: "value", value: true, form: form(`value (H+)`)},
	{kind: api.Real, word: "real", form: form(`real`)},
	{kind: api.List, word: "list", lo: true, hi: true, from0: true, least: 1, most: 1, form: form(`list N N( O)`)},
	{kind: api.Tuple, word: "tuple", most: many, form: form(`tuple((?: O)*)`)},
	{kind: api.Record, word: "record", fields: true, form: form(`record((?: H*:O\??)*)`)},
	{kind: api.Tagged, word: "tagged", lo: true, from0: true, least: 1, most: 1, form: form(`tagged N( O)`)},
	{kind: api.Choice, word: "choice", least: 1, most: many, form: form(`choice((?: O)+)`)},
}

// ruleOf is the rule of a kind, or nil.
func ruleOf(kind int) *rule {
	for i := range rules {
		if rules[i].kind == kind {
			return &rules[i]
		}
	}
	return nil
}

// mayStand tells whether x may be a Value.
func mayStand(x api.Item) bool {
	if len(x.L) > 0 {
		return false
	}
	switch x.Kind {
	case api.Uint, api.Nint:
		return x.S == ""
	case api.Simple:
		return x.S == "" && (x.N <= 23 || 32 <= x.N && x.N <= 255)
	case api.Bytes:
		return x.N == 0
	case api.Text:
		return x.N == 0 && utf8.ValidString(x.S)
	}
	return false
}

// rightKeys tells whether the Fields may stand together.
func rightKeys(fields []api.Field) bool {
	for i, f := range fields {
		if !utf8.ValidString(f.Key) || len(f.Key) > mostKey {
			return false
		}
		for _, g := range fields[:i] {
			if f.Key == g.Key {
				return false
			}
		}
	}
	return true
}

// hasLine tells whether n could stand in some schema, and names only numbers from 0 to 9,999.
func hasLine(n api.Node) bool {
	r := ruleOf(n.Kind)
	if r == nil {
		return false
	}
	for _, to := range names(n) {
		if to < 0 || to > 9999 {
			return false
		}
	}
	switch {
	case !r.lo && n.Lo != 0, !r.hi && n.Hi != 0, !r.fields && len(n.Fields) > 0, !r.value && spellItem(n.Value) != spellItem(api.Item{}), r.value && !mayStand(n.Value):
		return false
	case len(n.L) < r.least || len(n.L) > r.most, r.from0 && n.Lo < 0, r.hi && n.Lo > n.Hi:
		return false
	}
	return rightKeys(n.Fields)
}

// names are the numbers that n names.
func names(n api.Node) []int {
	l := slices.Clone(n.L)
	for _, f := range n.Fields {
		l = append(l, f.Node)
	}
	return l
}

// reckonLine is Line, reckoned anew.
func reckonLine(n api.Node) (string, bool) {
	if !hasLine(n) {
		return "", false
	}
	r := ruleOf(n.Kind)
	line := r.word
	if r.lo {
		line += fmt.Sprintf(" %d", n.Lo)
	}
	if r.hi {
		line += fmt.Sprintf(" %d", n.Hi)
	}
	if r.value {
		line += fmt.Sprintf(" %x", laid(n.Value))
	}
	var b strings.Builder
	for _, to := range n.L {
		fmt.Fprintf(&b, " %d", to)
	}
	for _, f := range n.Fields {
		fmt.Fprintf(&b, " %x:%d", f.Key, f.Node)
		if f.Optional {
			b.WriteString("?")
		}
	}
	return line + b.String(), true
}

// laid is the encoding of an item that may be a Value.
func laid(x api.Item) string {
	arg := x.N
	switch x.Kind {
	case api.Bytes, api.Text:
		arg = uint64(len(x.S))
	}
	major := byte(x.Kind << 5)
	b := []byte{0, 0, 0, 0, 0, 0, 0, 0, 0}
	binary.BigEndian.PutUint64(b[1:], arg)
	switch {
	case arg < 24:
		b = []byte{major | byte(arg)}
	case arg < 1<<8:
		b = append([]byte{major | 24}, b[8:]...)
	case arg < 1<<16:
		b = append([]byte{major | 25}, b[7:]...)
	case arg < 1<<32:
		b = append([]byte{major | 26}, b[5:]...)
	default:
		b[0] = major | 27
	}
	return string(b) + x.S
}

// valueOf is the item that may be a Value, and is laid so; false: there is none.
func valueOf(b string) (api.Item, bool) {
	if b == "" {
		return api.Item{}, false
	}
	x, arg, rest := api.Item{Kind: int(b[0] >> 5)}, uint64(b[0]&31), b[1:]
	if arg > 27 {
		return api.Item{}, false
	}
	if arg >= 24 {
		width := 1 << (arg - 24)
		if len(rest) < width {
			return api.Item{}, false
		}
		arg = 0
		for _, c := range []byte(rest[:width]) {
			arg = arg<<8 | uint64(c)
		}
		rest = rest[width:]
	}
	if x.Kind == api.Bytes || x.Kind == api.Text {
		x.S = rest
	} else {
		x.N = arg
	}
	return x, mayStand(x) && laid(x) == b
}

// reckonNode is Node, reckoned anew.
func reckonNode(line string) (api.Node, api.Errno) {
	for _, r := range rules {
		if line != r.word && !strings.HasPrefix(line, r.word+" ") {
			continue
		}
		n, ok := r.read(line)
		if !ok || !hasLine(n) {
			return api.Node{}, api.ErrForm
		}
		return n, api.OK
	}
	return api.Node{}, api.ErrWord
}

// read is the node of a line of the rule's form.
func (r rule) read(line string) (api.Node, bool) {
	parts := r.form.FindStringSubmatch(line)
	if parts == nil {
		return api.Node{}, false
	}
	n, parts, ok := api.Node{Kind: r.kind}, parts[1:], true
	if r.lo {
		n.Lo, ok = intOf(parts[0])
		parts = parts[1:]
	}
	if r.hi && ok {
		n.Hi, ok = intOf(parts[0])
		parts = parts[1:]
	}
	switch {
	case !ok:
	case r.value:
		n.Value, ok = valueOf(unhex(parts[0]))
	case r.most > 0:
		for _, word := range strings.Fields(parts[0]) {
			to, _ := strconv.Atoi(word)
			n.L = append(n.L, to)
		}
	case r.fields:
		for _, word := range strings.Fields(parts[0]) {
			colon := strings.Index(word, ":")
			f := api.Field{Key: unhex(word[:colon]), Optional: word[len(word)-1] == '?'}
			f.Node, _ = strconv.Atoi(strings.Trim(word[colon:], ":?"))
			n.Fields = append(n.Fields, f)
		}
	}
	return n, ok
}

// intOf is a number of decimal digits; false: no int is so great, or so far below 0.
func intOf(word string) (int, bool) {
	if len(word) > 1000 { // without noughts ahead: far beyond
		return 0, false
	}
	n, ok := new(big.Int).SetString(word, 10)
	if !ok || !n.IsInt64() {
		return 0, false
	}
	return int(n.Int64()), true
}

func unhex(digits string) string {
	b, err := hex.DecodeString(digits)
	if err != nil {
		panic(digits)
	}
	return string(b)
}

// reckonText is Text, reckoned anew.
func reckonText(s api.Schema) (string, api.Errno) {
	if _, err := schema.Check(s); err != api.OK {
		return "", err
	}
	var text strings.Builder
	for _, n := range s.Nodes {
		line, ok := reckonLine(n)
		if !ok {
			panic("well-formed, but no line: " + spellNode(n))
		}
		text.WriteString(line + "\n")
	}
	return text.String(), api.OK
}

// reckonParse is Parse, reckoned anew.
func reckonParse(text string) (api.Schema, int, api.Errno) {
	var s api.Schema
	lines := strings.SplitAfter(text, "\n")
	for i, line := range lines {
		if i == len(lines)-1 {
			if line != "" {
				return api.Schema{}, i + 1, api.ErrTruncated
			}
			break
		}
		n, err := reckonNode(line[:len(line)-1])
		if err != api.OK {
			return api.Schema{}, i + 1, err
		}
		s.Nodes = append(s.Nodes, n)
	}
	if len(s.Nodes) == 0 || len(s.Nodes) > 256 {
		return api.Schema{}, 1, api.ErrLimit
	}
	for i, n := range s.Nodes {
		for _, to := range names(n) {
			if to <= i || to > len(s.Nodes)-1 {
				return api.Schema{}, i + 1, api.ErrRule
			}
		}
	}
	return s, 0, api.OK
}

// spellItem is a text that is the same just for items that are the same.
func spellItem(x api.Item) string {
	var b strings.Builder
	open := []api.Item{x} // and after each its items, so that deep ones are no matter
	for len(open) > 0 {
		y := open[len(open)-1]
		open = open[:len(open)-1]
		fmt.Fprintf(&b, "(%d %x %q %d)", y.Kind, y.N, y.S, len(y.L))
		open = append(open, y.L...)
	}
	return b.String()
}

// spellNode is a text that is the same just for nodes that are the same.
func spellNode(n api.Node) string {
	return fmt.Sprintf("{%d %d %d %s %v %s}", n.Kind, n.Lo, n.Hi, spellItem(n.Value), n.L, spellFields(n.Fields))
}

func spellFields(l []api.Field) string {
	var b strings.Builder
	for _, f := range l {
		fmt.Fprintf(&b, "<%q %d %t>", f.Key, f.Node, f.Optional)
	}
	return b.String()
}

// spell is a text that is the same just for schemas that are the same.
func spell(s api.Schema) string {
	var b strings.Builder
	for _, n := range s.Nodes {
		b.WriteString(spellNode(n))
	}
	return b.String()
}

// noNode is how the zero node is spelt.
var noNode = spellNode(api.Node{})

// short is a text of no more than some hundred bytes.
func short(text string) string {
	return strconv.Itoa(len(text)) + " bytes: " + strconv.Quote(text[:min(len(text), 300)])
}

// checkLine holds Line of n against what is reckoned anew, and Node of its line against n.
func checkLine(t *testing.T, n api.Node) {
	t.Helper()
	wanted, has := reckonLine(n)
	line, ok := Line(n)
	if line != wanted || ok != has {
		t.Fatalf("Line of %s: %s, %v, want %s, %v", short(spellNode(n)), short(line), ok, short(wanted), has)
	}
	if !ok {
		return
	}
	if again, err := Node(line); err != api.OK || spellNode(again) != spellNode(n) {
		t.Fatalf("Node of %s: %s, %v, want %s", short(line), short(spellNode(again)), err, short(spellNode(n)))
	}
}

// wantLine holds Line against an answer that was worked out by hand; an empty one: there is none.
func wantLine(t *testing.T, n api.Node, wanted string) {
	t.Helper()
	if line, ok := reckonLine(n); line != wanted || ok != (wanted != "") {
		t.Fatalf("the test wants %s of %s, but reckons %s", short(wanted), short(spellNode(n)), short(line))
	}
	if line, ok := Line(n); line != wanted || ok != (wanted != "") {
		t.Fatalf("Line of %s: %s, %v, want %s", short(spellNode(n)), short(line), ok, short(wanted))
	}
	checkLine(t, n)
}

// checkNode holds Node of a line against what is reckoned anew, and Line of its node against the line.
func checkNode(t *testing.T, line string) {
	t.Helper()
	wanted, wantedErr := reckonNode(line)
	n, err := Node(line)
	if err != wantedErr || spellNode(n) != spellNode(wanted) {
		t.Fatalf("Node of %s: %s, %v, want %s, %v", short(line), short(spellNode(n)), err, short(spellNode(wanted)), wantedErr)
	}
	if err != api.OK {
		return
	}
	if again, ok := Line(n); !ok || again != line {
		t.Fatalf("Line of Node of %s: %s, %v", short(line), short(again), ok)
	}
}

// wantNode holds Node against an error that was worked out by hand.
func wantNode(t *testing.T, line string, err api.Errno) {
	t.Helper()
	if _, e := reckonNode(line); e != err {
		t.Fatalf("the test wants %v of %s, but reckons %v", err, short(line), e)
	}
	if n, e := Node(line); e != err || e != api.OK && spellNode(n) != noNode {
		t.Fatalf("Node of %s: %s, %v, want %v", short(line), short(spellNode(n)), e, err)
	}
	checkNode(t, line)
}

// checkText holds Text of s against what is reckoned anew, and Parse of its text against s.
func checkText(t *testing.T, s api.Schema) {
	t.Helper()
	wanted, wantedErr := reckonText(s)
	text, err := Text(s)
	if text != wanted || err != wantedErr {
		t.Fatalf("Text of %s: %s, %v, want %s, %v", short(spell(s)), short(text), err, short(wanted), wantedErr)
	}
	if err != api.OK {
		return
	}
	if again, at, err := Parse(text); err != api.OK || at != 0 || spell(again) != spell(s) {
		t.Fatalf("Parse of %s: %s, %d, %v, want %s", short(text), short(spell(again)), at, err, short(spell(s)))
	}
}

// checkParse holds Parse of a text against what is reckoned anew, and Text of its schema against the text: so no two texts have one schema.
func checkParse(t *testing.T, text string) {
	t.Helper()
	wanted, wantedAt, wantedErr := reckonParse(text)
	s, at, err := Parse(text)
	if at != wantedAt || err != wantedErr || spell(s) != spell(wanted) {
		t.Fatalf("Parse of %s: %s, %d, %v, want %s, %d, %v", short(text), short(spell(s)), at, err, short(spell(wanted)), wantedAt, wantedErr)
	}
	if err != api.OK {
		return
	}
	if again, err := Text(s); err != api.OK || again != text {
		t.Fatalf("Text of Parse of %s: %s, %v", short(text), short(again), err)
	}
}

// wantParse holds Parse against a line's number and an error that were worked out by hand.
func wantParse(t *testing.T, text string, at int, err api.Errno) {
	t.Helper()
	if _, n, e := reckonParse(text); n != at || e != err {
		t.Fatalf("the test wants %d, %v of %s, but reckons %d, %v", at, err, short(text), n, e)
	}
	if s, n, e := Parse(text); n != at || e != err || e != api.OK && len(s.Nodes) != 0 {
		t.Fatalf("Parse of %s: %d nodes, %d, %v, want %d, %v", short(text), len(s.Nodes), n, e, at, err)
	}
	checkParse(t, text)
}

// every hands on all rows of up to most of the elements.
func every[T any](elements []T, most int, f func(row []T)) {
	var rows func(row []T)
	rows = func(row []T) {
		f(row)
		if len(row) < most {
			for _, x := range elements {
				rows(append(slices.Clone(row), x))
			}
		}
	}
	rows(nil)
}
