package cddl

import (
	"math"
	"math/rand"
	"slices"
	"strconv"
	"strings"
	"testing"

	"ullage/api"
	"ullage/schema"
)

// lined is a node and its line, worked out by hand.
type lined struct {
	n    api.Node
	line string
}

func rightLines() []lined {
	return []lined{
		{anyNode(), "any"}, {realNode(), "real"}, {api.Node{}, "any"},
		{intNode(0, 0), "int 0 0"}, {intNode(-5, 10), "int -5 10"}, {intNode(-1, -1), "int -1 -1"}, {intNode(9, 10), "int 9 10"}, {intNode(minInt, maxInt), "int -9223372036854775808 9223372036854775807"}, {intNode(-10000, -9999), "int -10000 -9999"},
		{blobNode(0, 0), "blob 0 0"}, {blobNode(1, 2), "blob 1 2"}, {blobNode(9999, 10000), "blob 9999 10000"}, {blobNode(0, maxInt), "blob 0 9223372036854775807"},
		{stringNode(0, 255), "string 0 255"}, {stringNode(7, 7), "string 7 7"}, {stringNode(maxInt, maxInt), "string 9223372036854775807 9223372036854775807"},
		{valueNode(api.Item{}), "value 00"}, {valueNode(numberOf(api.Uint, 24)), "value 1818"}, {valueNode(numberOf(api.Nint, 0)), "value 20"}, {valueNode(bytesOf("")), "value 40"}, {valueNode(bytesOf("\xff\x0a")), "value 42ff0a"}, {valueNode(textOf("abc")), "value 63616263"}, {valueNode(textOf("ü")), "value 62c3bc"}, {valueNode(numberOf(api.Simple, 20)), "value f4"}, {valueNode(numberOf(api.Simple, 255)), "value f8ff"},
		{listNode(0, 5, 3), "list 0 5 3"}, {listNode(0, 0, 0), "list 0 0 0"}, {listNode(10, maxInt, 9999), "list 10 9223372036854775807 9999"},
		{tupleNode(), "tuple"}, {tupleNode(1), "tuple 1"}, {tupleNode(3, 1, 2, 1), "tuple 3 1 2 1"}, {tupleNode(0, 9999, 0), "tuple 0 9999 0"},
		{recordNode(), "record"}, {recordNode(field("a", 1)), "record 61:1"}, {recordNode(field("a", 1), may("b", 1)), "record 61:1 62:1?"}, {recordNode(field("a", 1), may("", 2)), "record 61:1 :2?"}, {recordNode(may("ü", 9999), field("\x00", 0), field("b", 10)), "record c3bc:9999? 00:0 62:10"},
		{taggedNode(32, 4), "tagged 32 4"}, {taggedNode(0, 0), "tagged 0 0"}, {taggedNode(maxInt, 9999), "tagged 9223372036854775807 9999"},
		{choiceNode(1), "choice 1"}, {choiceNode(4, 5, 6, 7), "choice 4 5 6 7"}, {choiceNode(9999, 0), "choice 9999 0"}, {choiceNode(2, 2, 2), "choice 2 2 2"},
	}
}

func TestExample(t *testing.T) { // P17.1, P17.2
	s := of(recordNode(field("a", 1), may("b", 1)), anyNode())
	text := "record 61:1 62:1?\nany\n"
	if u, err := Text(s); u != text || err != api.OK {
		t.Errorf("Text: %q, %v", u, err)
	}
	if again, at, err := Parse(text); at != 0 || err != api.OK || spell(again) != spell(s) {
		t.Errorf("Parse: %s, %d, %v", spell(again), at, err)
	}
	wantLine(t, s.Nodes[0], "record 61:1 62:1?")
	wantLine(t, s.Nodes[1], "any")
	wantNode(t, "record 61:1 62:1?", api.OK)
	wantNode(t, "any", api.OK)
}

func TestRightLines(t *testing.T) { // P17.1, P17.2
	for _, x := range rightLines() {
		wantLine(t, x.n, x.line)
		wantNode(t, x.line, api.OK)
		if n, err := Node(x.line); err != api.OK || spellNode(n) != spellNode(x.n) {
			t.Errorf("Node of %q: %s, %v", x.line, spellNode(n), err)
		}
	}
}

func TestKinds(t *testing.T) { // P17.1
	for _, kind := range []int{-1, -2, -11, -256, minInt, minInt + 1, 11, 12, 21, 22, 255, 256, 257, 266, 1 << 32, 1<<32 + 1, maxInt - 1, maxInt} {
		wantLine(t, api.Node{Kind: kind}, "")
		for _, x := range rightLines() {
			x.n.Kind = kind
			wantLine(t, x.n, "")
		}
	}
	for kind := range 11 {
		for _, x := range rightLines() { // what another kind has
			x.n.Kind = kind
			checkLine(t, x.n)
		}
	}
}

// set is how a field of a node is set to something, and whose field it is.
type set struct {
	is func(r *rule) bool
	to func(n *api.Node)
}

// sets are ways to set a field that should be zero, each alone.
func sets() []set {
	var l []set
	for _, v := range []int{1, -1, 2, 256, 1 << 32, minInt, maxInt} {
		l = append(l, set{func(r *rule) bool { return r.lo }, func(n *api.Node) { n.Lo = v }})
		l = append(l, set{func(r *rule) bool { return r.hi }, func(n *api.Node) { n.Hi = v }})
	}
	for _, x := range []api.Item{{N: 1}, {N: 1 << 63}, {S: "a"}, {S: "\x00"}, {L: []api.Item{{}}}, {Kind: api.Nint}, {Kind: api.Bytes}, {Kind: api.Text}, {Kind: api.Array}, {Kind: api.Float}, {Kind: -1}, {Kind: 9}} {
		l = append(l, set{func(r *rule) bool { return r.value }, func(n *api.Node) { n.Value = x }})
	}
	for _, names := range [][]int{{1}, {0}, {-1}, {2, 1}, {maxInt}} {
		l = append(l, set{func(r *rule) bool { return r.most > 0 }, func(n *api.Node) { n.L = names }})
	}
	for _, fields := range [][]api.Field{{{}}, {field("a", 1)}, {field("", 1)}, {field("a", 0)}, {may("", 0)}, {field("a", 1), field("b", 2)}, {field("\xff", 1)}} {
		l = append(l, set{func(r *rule) bool { return r.fields }, func(n *api.Node) { n.Fields = fields }})
	}
	return l
}

func TestFieldsThatShouldBeZero(t *testing.T) { // P17.1: each alone, and each two
	for _, x := range rightLines() {
		r := ruleOf(x.n.Kind)
		for _, a := range sets() {
			if a.is(r) {
				checkLine(t, with(x.n, a.to))
				continue
			}
			wantLine(t, with(x.n, a.to), "")
			for _, b := range sets() {
				checkLine(t, with(with(x.n, a.to), b.to))
			}
		}
	}
}

// numbers are such as the chapter names, and others that have one digit more, or are one more or less.
var numbers = []int{0, 1, 2, 8, 9, 10, 11, 99, 100, 101, 999, 1000, 9998, 9999, 10000, 10001, 99999, 100000, 1<<31 - 1, 1 << 31, 1<<32 - 1, 1 << 32, 1<<32 + 1, 999999999999999999, 1000000000000000000, maxInt - 1, maxInt, -1, -2, -9, -10, -11, -9999, -10000, -1 << 31, -1 << 32, -999999999999999999, -1000000000000000000, minInt + 1, minInt}

func TestNumbers(t *testing.T) { // P17.1, P17.2: as Lo, as Hi, as numbers that are named
	digits := map[int]string{0: "0", 9: "9", 10: "10", 9999: "9999", 10000: "10000", -1: "-1", -10: "-10", minInt: "-9223372036854775808", maxInt: "9223372036854775807"}
	for n, s := range digits {
		low, high, named := "", "", ""
		if n >= 0 {
			low, high = s+" 9223372036854775807", "0 "+s
		}
		if n >= 0 && n <= 9999 {
			named = s
		}
		wantLine(t, intNode(n, maxInt), "int "+s+" 9223372036854775807")
		wantLine(t, intNode(minInt, n), "int -9223372036854775808 "+s)
		wantLine(t, blobNode(n, maxInt), spaced("blob", low))
		wantLine(t, blobNode(0, n), spaced("blob", high))
		wantLine(t, stringNode(n, maxInt), spaced("string", low))
		wantLine(t, stringNode(0, n), spaced("string", high))
		wantLine(t, listNode(n, maxInt, 1), spaced("list", low, "1"))
		wantLine(t, listNode(0, n, 1), spaced("list", high, "1"))
		wantLine(t, listNode(0, 1, n), spaced("list 0 1", named))
		wantLine(t, taggedNode(1, n), spaced("tagged 1", named))
		wantLine(t, tupleNode(n), spaced("tuple", named))
		wantLine(t, choiceNode(n), spaced("choice", named))
	}
	for _, lo := range numbers {
		checkLine(t, taggedNode(lo, 1))
		for _, hi := range numbers {
			for _, n := range []api.Node{intNode(lo, hi), blobNode(lo, hi), stringNode(lo, hi), listNode(lo, hi, 7)} {
				checkLine(t, n)
			}
			for _, word := range []string{"int", "blob", "string", "list", "tagged", "value", "real", "record", "choice"} {
				checkNode(t, word+" "+strconv.Itoa(lo)+" "+strconv.Itoa(hi))
				checkNode(t, word+" "+strconv.Itoa(lo)+" "+strconv.Itoa(hi)+" 7")
			}
		}
	}
}

// spaced are words with a blank between each two; empty, if one of them is.
func spaced(words ...string) string {
	if slices.Contains(words, "") {
		return ""
	}
	return strings.Join(words, " ")
}

// naming are nodes of each kind that names, which name to, among others that are right.
func naming(to, right int) []api.Node {
	return []api.Node{
		listNode(0, 3, to), taggedNode(2, to), tupleNode(to), tupleNode(right, to), tupleNode(to, right), tupleNode(right, to, right), choiceNode(to), choiceNode(right, to), choiceNode(to, right),
		recordNode(field("a", to)), recordNode(may("a", to)), recordNode(field("b", right), may("a", to)), recordNode(field("b", to), field("a", right)), recordNode(field("c", right), may("b", right), field("a", to)),
	}
}

func TestNumbersThatAreNamed(t *testing.T) { // P17.1, P17.2: 0 to 9,999, whatever table they are behind
	for _, to := range append(numbers, 254, 255, 256, 257, 1024, 4096, 1<<32+5, 1<<32+9999, -9998, minInt+5) {
		for _, right := range []int{0, 1, 255, 256, 9999} {
			for _, n := range naming(to, right) {
				checkLine(t, n)
				if _, ok := Line(n); ok != (to >= 0 && to <= 9999) {
					t.Fatalf("Line of %s: %v", spellNode(n), ok)
				}
			}
		}
		s := strconv.Itoa(to)
		err := api.ErrForm
		if to >= 0 && to <= 9999 {
			err = api.OK
		}
		for _, line := range []string{"list 0 3 " + s, "tagged 2 " + s, "tuple " + s, "tuple 7 " + s, "tuple " + s + " 7", "choice " + s, "choice 7 " + s, "choice " + s + " 7", "record 61:" + s, "record 61:" + s + "?", "record 62:7 61:" + s, "record 62:" + s + "? 61:7", "record :" + s} {
			wantNode(t, line, err)
		}
	}
	all := make([]int, 10000)
	for i := range all {
		all[i] = i
	}
	for _, n := range []api.Node{tupleNode(all...), choiceNode(all...), tupleNode(slices.Repeat([]int{300}, 1000)...)} {
		checkLine(t, n)
		if _, ok := Line(n); !ok {
			t.Error("no line of a node that names very many")
		}
	}
}

func TestKeys(t *testing.T) { // P17.1, P17.2
	a := func(n int) string { return strings.Repeat("a", n) }
	d := func(n int) string { return strings.Repeat("61", n) }
	for _, x := range []struct{ key, digits string }{
		{"", ""}, {"a", "61"}, {"\x00", "00"}, {"\x01", "01"}, {"\x0a", "0a"}, {"\n", "0a"}, {" ", "20"}, {":", "3a"}, {"?", "3f"}, {"\x0f\x10", "0f10"}, {"\x7f", "7f"}, {"ü", "c3bc"}, {"€", "e282ac"}, {"𝄞", "f09d849e"}, {"\U0010ffff", "f48fbfbf"}, {"a:1?", "613a313f"},
		{a(23), d(23)}, {a(24), d(24)}, {a(255), d(255)}, {a(256), d(256)}, {a(1020), d(1020)}, {a(1021), d(1021)}, {strings.Repeat("ü", 510) + "a", strings.Repeat("c3bc", 510) + "61"}, {strings.Repeat("€", 340) + "a", strings.Repeat("e282ac", 340) + "61"},
	} {
		wantLine(t, recordNode(field(x.key, 1)), "record "+x.digits+":1")
		wantLine(t, recordNode(may(x.key, 2)), "record "+x.digits+":2?")
		wantLine(t, recordNode(field("b", 1), may(x.key, 2), field("c", 3)), "record 62:1 "+x.digits+":2? 63:3")
		wantNode(t, "record "+x.digits+":1", api.OK)
		for _, n := range []api.Node{recordNode(field(x.key, 1), field(x.key, 1)), recordNode(field(x.key, 1), may(x.key, 2)), recordNode(may(x.key, 1), field("b", 1), field("c", 1), may(x.key, 3))} {
			wantLine(t, n, "")
		}
		wantNode(t, "record "+x.digits+":1 "+x.digits+":1", api.ErrForm)
		wantNode(t, "record "+x.digits+":1 62:1 "+x.digits+":2?", api.ErrForm)
	}
	for _, x := range []struct{ key, digits string }{
		{a(1022), d(1022)}, {a(1023), d(1023)}, {a(1024), d(1024)}, {a(65536), d(65536)}, {strings.Repeat("ü", 511), strings.Repeat("c3bc", 511)},
		{"\xff", "ff"}, {"\x80", "80"}, {"a\xc3", "61c3"}, {"\xc0\x80", "c080"}, {"\xed\xa0\x80", "eda080"}, {"\xf4\x90\x80\x80", "f4908080"}, {a(1020) + "\xc3", d(1020) + "c3"}, {"a\xffb", "61ff62"},
	} {
		wantLine(t, recordNode(field(x.key, 1)), "")
		wantLine(t, recordNode(field("b", 1), field("c", 2), may(x.key, 3)), "")
		wantNode(t, "record "+x.digits+":1", api.ErrForm)
		wantNode(t, "record 62:1 63:2 "+x.digits+":3?", api.ErrForm)
	}
	every([]string{"", "a", "b", a(1022), a(1021), "\xff"}, 4, func(keys []string) {
		var l []api.Field
		for i, key := range keys {
			l = append(l, api.Field{Key: key, Node: i, Optional: i%2 == 1})
		}
		checkLine(t, recordNode(l...))
	})
}

func TestAllBytesInKeysAndValues(t *testing.T) { // P17.1, P17.2: two digits each
	for c := range 256 {
		b := string([]byte{byte(c)})
		checkLine(t, recordNode(field(b, 1)))
		checkLine(t, recordNode(field("a"+b, 1), may(b+"a", 1)))
		checkLine(t, valueNode(bytesOf(b)))
		checkLine(t, valueNode(textOf(b)))
		digits := string("0123456789abcdef"[c/16]) + string("0123456789abcdef"[c%16])
		wantLine(t, valueNode(bytesOf(b)), "value 41"+digits)
		checkNode(t, "value "+digits)
		checkNode(t, "value 41"+digits)
		checkNode(t, "value 61"+digits)
		checkNode(t, "record "+digits+":1")
		for d := range 256 {
			two := digits + string("0123456789abcdef"[d/16]) + string("0123456789abcdef"[d%16])
			checkNode(t, "value "+two)
			checkNode(t, "value 62"+two)
			checkNode(t, "record "+two+":1")
		}
	}
}

// rightValues are items that may stand as Values; wrongValues are none.
func rightValues() []api.Item {
	l := []api.Item{textOf(""), textOf("a"), textOf("ü€𝄞"), textOf("\x00\n :?"), textOf(strings.Repeat("a", 2000)), bytesOf(""), bytesOf("a"), bytesOf("\xff"), bytesOf("\xc3"), bytesOf(strings.Repeat("\x80", 2000))}
	for _, n := range []int{22, 23, 24, 25, 255, 256, 257, 65535, 65536} {
		l = append(l, textOf(strings.Repeat("t", n)), bytesOf(strings.Repeat("\xfe", n)))
	}
	for _, n := range []uint64{0, 1, 9, 10, 23, 24, 255, 256, 65535, 65536, 1<<32 - 1, 1 << 32, math.MaxInt, 1 << 63, math.MaxUint64 - 1, math.MaxUint64} {
		l = append(l, numberOf(api.Uint, n), numberOf(api.Nint, n))
	}
	for n := range uint64(256) {
		if n < 24 || n >= 32 {
			l = append(l, numberOf(api.Simple, n))
		}
	}
	return l
}

func wrongValues() []api.Item {
	one := api.Item{}
	l := []api.Item{
		itemOf(api.Array), itemOf(api.Array, one), itemOf(api.Map), itemOf(api.Map, one, one), itemOf(api.Tag, one), {Kind: api.Tag, N: 1, L: []api.Item{one}}, itemOf(api.Float), numberOf(api.Float, 0x7ff8000000000000), numberOf(api.Float, 0x3ff8000000000000), numberOf(api.Float, 1), itemOf(api.Tag),
		{Kind: -1}, {Kind: 9}, {Kind: 10}, {Kind: minInt}, {Kind: maxInt}, {Kind: 256}, {Kind: 1 << 32},
		textOf("\xff"), textOf("\xc3"), textOf("a\x80"), textOf("\xed\xa0\x80"), textOf(strings.Repeat("a", 2000) + "\xe2\x82"),
		numberOf(api.Simple, 256), numberOf(api.Simple, 257), numberOf(api.Simple, 1<<32), numberOf(api.Simple, math.MaxUint64),
		{Kind: api.Uint, S: "a"}, {Kind: api.Nint, N: 2, S: "a"}, {Kind: api.Simple, N: 20, S: "a"},
		{Kind: api.Bytes, N: 1}, {Kind: api.Text, N: 1}, {Kind: api.Bytes, N: 1, S: "a"}, {Kind: api.Text, N: 1 << 63, S: "a"},
		deep(64), deep(65), deep(1 << 12),
	}
	for n := uint64(24); n < 32; n++ {
		l = append(l, numberOf(api.Simple, n))
	}
	for _, kind := range []int{api.Uint, api.Nint, api.Bytes, api.Text, api.Simple} {
		l = append(l, itemOf(kind, one), itemOf(kind, one, one), itemOf(kind, deep(70)), itemOf(kind, api.Item{Kind: -1}))
	}
	return l
}

// deep is an array of an array, and so on, so many items deep.
func deep(depth int) api.Item {
	x := api.Item{Kind: api.Array}
	for range depth - 1 {
		x = itemOf(api.Array, x)
	}
	return x
}

func TestValues(t *testing.T) { // P17.1, P17.2
	for _, x := range []struct {
		x      api.Item
		digits string
	}{
		{numberOf(api.Uint, 0), "00"}, {numberOf(api.Uint, 23), "17"}, {numberOf(api.Uint, 24), "1818"}, {numberOf(api.Uint, 255), "18ff"}, {numberOf(api.Uint, 256), "190100"}, {numberOf(api.Uint, 65535), "19ffff"}, {numberOf(api.Uint, 65536), "1a00010000"}, {numberOf(api.Uint, 1<<32-1), "1affffffff"}, {numberOf(api.Uint, 1<<32), "1b0000000100000000"}, {numberOf(api.Uint, math.MaxUint64), "1bffffffffffffffff"},
		{numberOf(api.Nint, 0), "20"}, {numberOf(api.Nint, 23), "37"}, {numberOf(api.Nint, 24), "3818"}, {numberOf(api.Nint, 1<<63), "3b8000000000000000"}, {numberOf(api.Nint, math.MaxUint64), "3bffffffffffffffff"},
		{bytesOf(""), "40"}, {bytesOf("\x00\xff"), "4200ff"}, {bytesOf(strings.Repeat("\x80", 24)), "5818" + strings.Repeat("80", 24)}, {bytesOf(strings.Repeat("\x80", 256)), "590100" + strings.Repeat("80", 256)},
		{textOf(""), "60"}, {textOf("abc"), "63616263"}, {textOf("€"), "63e282ac"}, {textOf("\n "), "620a20"}, {textOf(strings.Repeat("z", 23)), "77" + strings.Repeat("7a", 23)}, {textOf(strings.Repeat("z", 65536)), "7a00010000" + strings.Repeat("7a", 65536)},
		{numberOf(api.Simple, 0), "e0"}, {numberOf(api.Simple, 19), "f3"}, {numberOf(api.Simple, 20), "f4"}, {numberOf(api.Simple, 21), "f5"}, {numberOf(api.Simple, 22), "f6"}, {numberOf(api.Simple, 23), "f7"}, {numberOf(api.Simple, 32), "f820"}, {numberOf(api.Simple, 255), "f8ff"},
	} {
		wantLine(t, valueNode(x.x), "value "+x.digits)
		wantNode(t, "value "+x.digits, api.OK)
		if n, err := Node("value " + x.digits); err != api.OK || spellNode(n) != spellNode(valueNode(x.x)) {
			t.Errorf("Node of the value %s: %s, %v", short(x.digits), short(spellNode(n)), err)
		}
	}
	for _, x := range rightValues() {
		checkLine(t, valueNode(x))
		if _, ok := Line(valueNode(x)); !ok {
			t.Errorf("no line of %s", short(spellItem(x)))
		}
	}
	for _, x := range wrongValues() {
		wantLine(t, valueNode(x), "")
	}
}

func TestHowManyInL(t *testing.T) { // P17.1, P17.2
	for _, n := range []int{0, 1, 2, 3, 255, 256, 257, 1000, 100000} {
		l := slices.Repeat([]int{12}, n)
		words := strings.Repeat(" 12", n)
		for kind := range 11 {
			checkLine(t, api.Node{Kind: kind, L: l})
			checkNode(t, ruleOf(kind).word+words)
			checkNode(t, ruleOf(kind).word+" 3"+words)
			checkNode(t, ruleOf(kind).word+" 3 4"+words)
		}
		wantLine(t, tupleNode(l...), "tuple"+words)
		if n > 0 {
			wantLine(t, choiceNode(l...), "choice"+words)
		}
	}
	wantLine(t, api.Node{Kind: api.Choice}, "")
	wantLine(t, api.Node{Kind: api.List, Lo: 1, Hi: 2}, "")
	wantLine(t, api.Node{Kind: api.List, Lo: 1, Hi: 2, L: []int{1, 2}}, "")
	wantLine(t, api.Node{Kind: api.Tagged, Lo: 1}, "")
	wantLine(t, api.Node{Kind: api.Tagged, Lo: 1, L: []int{1, 2}}, "")
}

func TestListsWithoutElements(t *testing.T) { // P17.1, R3: they are the same thing as nil
	for _, x := range rightLines() {
		n := x.n
		if len(n.L) == 0 {
			n.L = []int{}
			wantLine(t, n, x.line)
			n.L = []int{-7, 7}[:0]
			wantLine(t, n, x.line)
		}
		if len(n.Fields) == 0 {
			n.Fields = []api.Field{}
			wantLine(t, n, x.line)
			n.Fields = []api.Field{{Key: "\xff", Node: -1}}[:0]
			wantLine(t, n, x.line)
		}
		n.Value.L = []api.Item{{Kind: 77}}[:0]
		wantLine(t, n, x.line)
		if text, err := Text(of(n)); len(names(n)) == 0 && (text != x.line+"\n" || err != api.OK) {
			t.Errorf("Text of %s: %q, %v", spellNode(n), text, err)
		}
	}
	wantLine(t, api.Node{Kind: api.Choice, L: []int{1}[:0]}, "")
	wantLine(t, api.Node{Kind: api.List, L: []int{1}[:0]}, "")
}

func TestFieldsInAllWays(t *testing.T) { // P17.1: each field of each kind with each of some values
	some := []int{0, 1, 10, -1, minInt, maxInt}
	values := []api.Item{{}, {N: 1}, {Kind: api.Text, S: "a"}, {Kind: api.Text, S: "\xff"}, {Kind: api.Simple, N: 24}, {Kind: api.Array}, {Kind: api.Bytes, L: []api.Item{{}}}}
	lists := [][]int{nil, {1}, {9999}, {0}, {10000}, {1, 2}, {2, -1}}
	fields := [][]api.Field{nil, {field("a", 2)}, {may("", 1), field("a", 9999)}, {field("a", 2), field("a", 3)}, {field("\xff", 0)}, {field("a", 10000)}, {field(strings.Repeat("a", 1022), 1)}}
	for kind := -1; kind <= 11; kind++ {
		for _, lo := range some {
			for _, hi := range some {
				for _, x := range values {
					for _, l := range lists {
						for _, f := range fields {
							checkLine(t, api.Node{Kind: kind, Lo: lo, Hi: hi, Value: x, L: l, Fields: f})
						}
					}
				}
			}
		}
	}
}

func TestText(t *testing.T) { // P17.1: worked out by hand
	for _, x := range []struct {
		s    api.Schema
		text string
		err  api.Errno
	}{
		{of(anyNode()), "any\n", api.OK}, {of(realNode(), anyNode(), realNode()), "real\nany\nreal\n", api.OK},
		{of(recordNode(field("a", 1), may("", 2)), listNode(0, 5, 3), taggedNode(32, 4), choiceNode(4, 5, 6, 7), tupleNode(), intNode(-5, 10), valueNode(textOf("abc")), blobNode(1, 2), stringNode(0, 255), realNode(), anyNode()), "record 61:1 :2?\nlist 0 5 3\ntagged 32 4\nchoice 4 5 6 7\ntuple\nint -5 10\nvalue 63616263\nblob 1 2\nstring 0 255\nreal\nany\n", api.OK},
		{of(recordNode()), "record\n", api.OK}, {of(tupleNode(1, 1), tupleNode()), "tuple 1 1\ntuple\n", api.OK},
		{api.Schema{}, "", api.ErrLimit}, {of(anys(257)...), "", api.ErrLimit}, {api.Schema{Nodes: anys(3)[:0]}, "", api.ErrLimit},
		{of(api.Node{Kind: 11}), "", api.ErrKind}, {of(anyNode(), api.Node{Kind: -1}), "", api.ErrKind}, {of(api.Node{Lo: 1}), "", api.ErrForm}, {of(valueNode(itemOf(api.Array))), "", api.ErrForm}, {of(choiceNode()), "", api.ErrForm},
		{of(intNode(2, 1)), "", api.ErrRange}, {of(blobNode(-1, 1)), "", api.ErrRange}, {of(recordNode(field("\xff", 1)), anyNode()), "", api.ErrUTF8}, {of(recordNode(field(strings.Repeat("a", 1022), 1)), anyNode()), "", api.ErrKeyLength}, {of(recordNode(field("a", 1), field("a", 1)), anyNode()), "", api.ErrTwice},
		{of(tupleNode(0)), "", api.ErrRule}, {of(tupleNode(1)), "", api.ErrRule}, {of(tupleNode(9999)), "", api.ErrRule}, {of(anyNode(), tupleNode(0)), "", api.ErrRule}, {of(anyNode(), recordNode(field("a", 1)), anyNode()), "", api.ErrRule}, {of(listNode(0, 1, 1), choiceNode(1, 2), anyNode()), "", api.ErrRule},
		{of(anyNode(), intNode(2, 1), api.Node{Kind: 11}), "", api.ErrRange}, {of(tupleNode(10000)), "", api.ErrRule}, {of(tupleNode(-1)), "", api.ErrRule},
	} {
		if text, err := Text(x.s); text != x.text || err != x.err {
			t.Errorf("Text of %s: %s, %v, want %s, %v", short(spell(x.s)), short(text), err, short(x.text), x.err)
		}
		checkText(t, x.s)
	}
}

func TestTextsOfNodesThatHaveLines(t *testing.T) { // P17.1: where they stand decides
	for _, x := range rightLines() {
		if line, ok := Line(x.n); !ok || line != x.line {
			t.Fatalf("Line of %s: %q, %v", spellNode(x.n), line, ok)
		}
		for _, nodes := range []int{1, 2, 4, 8, 256, 257} {
			for _, place := range []int{0, nodes / 2, nodes - 1} {
				l := anys(nodes)
				l[place] = x.n
				checkText(t, of(l...))
				right := nodes < 257
				for _, to := range names(x.n) {
					right = right && to > place && to < nodes
				}
				if text, err := Text(of(l...)); right != (err == api.OK) || right != (text != "") {
					t.Fatalf("Text of %s at %d of %d: %s, %v", spellNode(x.n), place, nodes, short(text), err)
				}
			}
		}
	}
}

func TestHowManyNodes(t *testing.T) { // P17.1, P17.2
	for _, n := range []int{1, 2, 9, 10, 11, 63, 64, 65, 255, 256, 257, 258, 512, 513, 10000, 65537} {
		err := api.OK
		if n > 256 {
			err = api.ErrLimit
		}
		text, e := Text(of(anys(n)...))
		if e != err || e == api.OK && text != strings.Repeat("any\n", n) || e != api.OK && text != "" {
			t.Errorf("Text of %d nodes: %s, %v", n, short(text), e)
		}
		at := 0
		if n > 256 {
			at = 1
		}
		wantParse(t, strings.Repeat("any\n", n), at, err)
		wantParse(t, strings.Repeat("int 0 1\n", n), at, err)
	}
	chain := anys(256)
	for i := range 255 {
		chain[i] = []api.Node{listNode(0, i, i+1), tupleNode(i+1, 255), recordNode(may("a", i+1), field("b", 255)), taggedNode(i, i+1), choiceNode(255, i+1)}[i%5]
	}
	checkText(t, of(chain...))
	if text, err := Text(of(chain...)); err != api.OK || strings.Count(text, "\n") != 256 {
		t.Errorf("Text of a chain of 256: %s, %v", short(text), err)
	}
}

// draw is some node, right or nearly so, for a place in a table of so many nodes.
func draw(r *rand.Rand, place, nodes int) api.Node {
	to := func() int {
		if r.Intn(200) == 0 || place == nodes-1 {
			return r.Intn(nodes+3) - 1
		}
		return place + 1 + r.Intn(nodes-place-1)
	}
	several := func(least int) []int {
		var l []int
		for range least + r.Intn(4) {
			l = append(l, to())
		}
		return l
	}
	n := api.Node{Kind: r.Intn(11)}
	if place == nodes-1 {
		n.Kind = r.Intn(api.List)
	}
	switch n.Kind {
	case api.Int:
		n.Lo = (r.Intn(9) - 4) * int(math.Pow10(r.Intn(12)))
		n.Hi = n.Lo + r.Intn(4)
	case api.Blob, api.String, api.List:
		n.Lo = r.Intn(40)
		n.Hi = n.Lo + r.Intn(4000)
		if n.Kind == api.List {
			n.L = []int{to()}
		}
	case api.Value:
		l := rightValues()
		n.Value = l[r.Intn(len(l))]
		n.Value.S = n.Value.S[:min(len(n.Value.S), 30)]
		if !mayStand(n.Value) {
			n.Value = numberOf(api.Nint, r.Uint64()>>r.Intn(64))
		}
	case api.Tuple:
		n.L = several(0)
	case api.Record:
		for i, to := range several(0) {
			n.Fields = append(n.Fields, api.Field{Key: strings.Repeat("ük", r.Intn(3)) + strings.Repeat(strconv.Itoa(i), r.Intn(10)/3), Node: to, Optional: r.Intn(2) == 0})
		}
	case api.Tagged:
		n.Lo = r.Intn(300)
		n.L = []int{to()}
	case api.Choice:
		n.L = several(1)
	}
	if r.Intn(100) == 0 {
		all := sets()
		all[r.Intn(len(all))].to(&n)
	}
	return n
}

// drawn is a schema of such nodes.
func drawn(r *rand.Rand, nodes int) api.Schema {
	l := make([]api.Node, nodes)
	for i := range l {
		l[i] = draw(r, i, nodes)
	}
	return of(l...)
}

func TestDrawnSchemas(t *testing.T) { // P17.1, P17.2
	r := rand.New(rand.NewSource(171))
	errs := map[api.Errno]int{}
	for i := range 20000 {
		nodes := 1 + r.Intn(12)
		if i%100 == 0 {
			nodes = 1 + r.Intn(300)
		}
		s := drawn(r, nodes)
		checkText(t, s)
		for _, n := range s.Nodes {
			checkLine(t, n)
		}
		_, err := Text(s)
		errs[err]++
		if _, wanted := schema.Check(s); err != wanted {
			t.Fatalf("Text of %s: %v, want %v", short(spell(s)), err, wanted)
		}
	}
	for _, err := range []api.Errno{api.OK, api.ErrForm, api.ErrRange, api.ErrTwice, api.ErrRule, api.ErrLimit} {
		if errs[err] < 10 {
			t.Errorf("%v was drawn %d times", err, errs[err])
		}
	}
}
