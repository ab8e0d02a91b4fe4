package auto

import (
	"encoding/hex"
	"fmt"
	"math"
	"math/rand"
	"slices"
	"strconv"
	"strings"
	"testing"

	"ullage/api"
	"ullage/enc"
	"ullage/head"
	"ullage/item"
	"ullage/limit"
)

func limits(depth, key, size int) api.Limits {
	return api.Limits{Depth: depth, Key: key, Size: size}
}

func at(place int, err api.Errno) api.Verdict { return api.Verdict{Error: err, At: place} }

// The greatest limits, written out, and some that are right and spare memory.
var (
	greatest = limits(64, 1024, 2305843009213693951)
	roomy    = limits(12, 40, 1000)
)

// hx are the bytes of digits, between which blanks may stand.
func hx(digits string) string {
	b, err := hex.DecodeString(strings.ReplaceAll(digits, " ", ""))
	if err != nil {
		panic(digits)
	}
	return string(b)
}

// The encodings of items, laid from their parts' ones.

func headOf(major int, arg uint64) string {
	first := byte(major << 5)
	switch {
	case arg < 24:
		return string([]byte{first | byte(arg)})
	case arg < 1<<8:
		return string([]byte{first | 24, byte(arg)})
	case arg < 1<<16:
		return string([]byte{first | 25, byte(arg >> 8), byte(arg)})
	case arg < 1<<32:
		return string([]byte{first | 26, byte(arg >> 24), byte(arg >> 16), byte(arg >> 8), byte(arg)})
	}
	return string([]byte{first | 27, byte(arg >> 56), byte(arg >> 48), byte(arg >> 40), byte(arg >> 32), byte(arg >> 24), byte(arg >> 16), byte(arg >> 8), byte(arg)})
}

func number(n uint64) string   { return headOf(0, n) }
func blob(s string) string     { return headOf(2, uint64(len(s))) + s }
func text(s string) string     { return headOf(3, uint64(len(s))) + s }
func list(l ...string) string  { return headOf(4, uint64(len(l))) + strings.Join(l, "") }
func pairs(l ...string) string { return headOf(5, uint64(len(l)/2)) + strings.Join(l, "") }
func tag(n uint64, x string) string {
	return headOf(6, n) + x
}

// wrapped is x in so many others, which all have it as their only one, but as a value of a map's key.
func wrapped(x string, about int, by string) string {
	for range about {
		switch by {
		case "array":
			x = list(x)
		case "tag":
			x = tag(1, x)
		case "key":
			x = pairs(x, "\x00")
		case "value":
			x = pairs("\x00", x)
		}
	}
	return x
}

// wraps are the ways in which an item stands in another.
var wraps = []string{"array", "tag", "key", "value"}

// machine is an automaton, one beside it whose events nobody is told, and what the first one told.
type machine struct {
	t      *testing.T
	l      api.Limits
	a, mum *Auto
	cap    int
	b      string
	events []told
}

func newMachine(t *testing.T, l api.Limits) *machine {
	t.Helper()
	a, err := New(l)
	mum, err2 := New(l)
	if a == nil || mum == nil || err != api.OK || err2 != api.OK {
		t.Fatalf("New(%v): %v, %v", l, err, err2)
	}
	m := &machine{t: t, l: l, a: a, mum: mum, cap: a.Cap()}
	// each map that is open has a key that was ended, and there may be one in each but the innermost item
	if m.cap < (l.Depth-1)*l.Key || m.cap > l.Depth*2*l.Key {
		t.Fatalf("New(%v): Cap = %d", l, m.cap)
	}
	return m
}

// step hands a byte to both.
func (m *machine) step(c byte) api.Errno {
	m.t.Helper()
	place := len(m.b)
	m.b += string([]byte{c})
	err := m.a.Step(c, func(e Event) { m.events = append(m.events, told{place, e}) })
	if mum := m.mum.Step(c, nil); mum != err {
		m.t.Fatalf("% .400x, %v: %v, without tell %v", m.b, m.l, err, mum)
	}
	return err
}

// same holds all that may be asked without a change, twice, against what a reading finds.
func (m *machine) same(r *reading) {
	m.t.Helper()
	for _, a := range []*Auto{m.a, m.mum, m.a} {
		if v, done, n := a.Close(), a.Done(), a.Len(); v != r.verdict() || done != r.over || n != r.count() || a.Cap() != m.cap {
			m.t.Fatalf("% .400x, %v: %v, %v, %d, %d; want %v, %v, %d, %d", m.b, m.l, v, done, n, a.Cap(), r.verdict(), r.over, r.count(), m.cap)
		}
	}
}

// show is what a list of events is called.
func show(events []told) string {
	s := fmt.Sprint(events)
	if len(s) > 2000 {
		s = s[:900] + " .. " + s[len(s)-900:]
	}
	return s
}

// check holds all calls, of b byte by byte and of the whole, against a plain reading, and tells the verdict.
func check(t *testing.T, b string, l api.Limits) api.Verdict {
	t.Helper()
	whole := read(b, l)
	m := newMachine(t, l)
	m.same(read("", l))
	for i := range len(b) {
		err, want := m.step(b[i]), api.OK
		if whole.bad && whole.least.At <= i {
			want = whole.least.Error
		}
		if err != want {
			t.Fatalf("% .400x, %v, at %d: %v, want %v", b, l, i, err, want)
		}
		if len(b) < 40 || i == len(b)-1 {
			m.same(read(b[:i+1], l))
		}
	}
	if !slices.Equal(m.events, whole.right()) {
		t.Fatalf("% .400x, %v: told %s\nwant %s", b, l, show(m.events), show(whole.right()))
	}
	if whole.bad {
		m.again(whole)
	}
	if v := Whole([]byte(b), l); v != whole.verdict() {
		t.Fatalf("Whole of % .400x, %v: %v, want %v", b, l, v, whole.verdict())
	}
	return whole.verdict()
}

// again sees to it that a verdict is told whatever comes, and nothing else.
func (m *machine) again(r *reading) {
	m.t.Helper()
	n := len(m.events)
	for _, c := range []byte("\x00\xff\x1c\x5f\xa1a\x80\xc3\x00") {
		if err := m.step(c); err != r.least.Error || len(m.events) != n {
			m.t.Fatalf("% .400x, %v: %v, want %v; %s", m.b, m.l, err, r.least.Error, show(m.events[n:]))
		}
		m.same(r)
	}
}

// row is what is handed, by which limits, and the verdict, worked out by hand.
type row struct {
	digits string
	l      api.Limits
	want   api.Verdict
}

func (r row) check(t *testing.T) {
	t.Helper()
	if v := check(t, hx(r.digits), r.l); v != r.want {
		t.Errorf("%s, %v: %v, want %v", r.digits, r.l, v, r.want)
	}
}

func TestExamples(t *testing.T) { // P14.1, P14.2
	for _, r := range []row{
		{"82 01", roomy, at(2, api.ErrTruncated)}, {"18 17", roomy, at(1, api.ErrDeterminism)}, {"01 01", roomy, at(1, api.ErrSyntax)},
		// those of the whole that speak of bytes alone
		{"82 01 02", roomy, api.Verdict{}}, {"a2 61 62 00 61 61 00", roomy, at(5, api.ErrKeyOrder)}, {"61 c3", roomy, at(1, api.ErrUTF8)}, {"81 81 81 00", limits(3, 40, 99), at(3, api.ErrDepth)},
		{"82 01 0a", roomy, api.Verdict{}}, {"f9 3e 00", roomy, api.Verdict{}}, {"fb 3f f8 00 00 00 00 00 00", roomy, at(8, api.ErrDeterminism)}, {"a2 61 61 02 61 62 01", roomy, api.Verdict{}},
	} {
		r.check(t)
	}
}

func TestKindsOfEvents(t *testing.T) { // the chapter's numbers
	if EventHead != 1 || EventByte != 2 || EventEnd != 3 || EventKey != 4 {
		t.Error(EventHead, EventByte, EventEnd, EventKey)
	}
}

func TestNewRight(t *testing.T) { // P14.1
	for _, depth := range []int{1, 2, 63, 64} {
		for _, key := range []int{1, 2, 1023, 1024} {
			for _, size := range []int{1, 2, 1<<61 - 2, 1<<61 - 1} {
				l := limits(depth, key, size)
				m := newMachine(t, l)
				m.same(read("", l))
				if v := Whole(nil, l); v != at(0, api.ErrTruncated) {
					t.Errorf("%v: %v", l, v)
				}
				if v := Whole([]byte{0}, l); v != (api.Verdict{}) {
					t.Errorf("%v: %v", l, v)
				}
			}
		}
	}
}

func TestNewWrong(t *testing.T) { // P14.1, P14.2, R1, R3
	var all []api.Limits
	for _, n := range []int{0, -1, math.MinInt, math.MinInt + 1, math.MaxInt, 1 << 62, 1 << 61, 1 << 32, -1 << 32, -64} {
		all = append(all, limits(n, 40, 1000), limits(12, n, 1000), limits(n, n, n))
		if n < 1 || n >= 1<<61 {
			all = append(all, limits(12, 40, n))
		}
	}
	all = append(all, limits(65, 40, 1000), limits(12, 1025, 1000), limits(65, 1025, 1<<61), api.Limits{})
	for _, l := range all {
		if a, err := New(l); a != nil || err != api.ErrRange {
			t.Errorf("New(%v): %v, %v", l, a, err)
		}
		for _, b := range []string{"", "\x00", "\x00\x00", "\x1c", strings.Repeat("\x81", 70)} {
			if v := Whole([]byte(b), l); v != at(0, api.ErrRange) {
				t.Errorf("Whole(%q, %v): %v", b, l, v)
			}
		}
	}
}

func TestNewKeepsItsLimits(t *testing.T) { // R4
	l := limits(2, 2, 3)
	a, _ := New(l)
	l = greatest
	for i, want := range []api.Errno{api.OK, api.OK, api.OK, api.ErrSize} {
		if err := a.Step("\x43abc"[i], nil); err != want {
			t.Errorf("%d: %v, want %v", i, err, want)
		}
	}
}

// small are rows whose items are right, of all kinds.
func small() []string {
	return []string{
		"00", "17", "1818", "18ff", "190100", "19ffff", "1a00010000", "1affffffff", "1b0000000100000000", "1bffffffffffffffff",
		"20", "37", "3818", "390100", "3a00010000", "3bffffffffffffffff",
		"40", "4100", "42ffff", "5818" + strings.Repeat("61", 24), "60", "6161", "62c3a9", "63e282ac", "64f09f9880", "65c3a9c3a961", "7818" + strings.Repeat("61", 22) + "c3a9",
		"80", "8100", "83010203", "818180", "9818" + strings.Repeat("00", 24), "82818200018101",
		"a0", "a10000", "a200000100", "a1a0a0", "a1a10000a10000", "a1810081a0", "a2616100616200", "a240004100f6", "a36000616100616200", "b818" + keysTo24(),
		"c000", "c100", "c1c1c100", "d81800", "d9ffff80", "da0001000000", "dbffffffffffffffffa0", "c0a1c000c000",
		"e0", "f4", "f5", "f6", "f7", "f3", "f820", "f8ff", "f90000", "f98000", "f93c00", "f97c00", "f9fc00", "f97e00", "f90001", "f903ff", "f97bff", "fa3dcccccd", "fa7f7fffff", "fa00000001", "fa47800000", "fb3fb999999999999a", "fb7fefffffffffffff", "fb0000000000000001",
	}
}

// keysTo24 are 24 pairs whose keys rise.
func keysTo24() string {
	s := ""
	for i := range 24 {
		s += fmt.Sprintf("%02xf6", i)
	}
	return s
}

func TestRight(t *testing.T) { // P14.1, P14.2
	for _, s := range small() {
		row{s, roomy, api.Verdict{}}.check(t)
		row{s, greatest, api.Verdict{}}.check(t)
	}
}

func TestEachBeginning(t *testing.T) { // P14.1, P14.2
	for _, s := range small() {
		b := hx(s)
		for n := range len(b) {
			if v := check(t, b[:n], roomy); v != at(n, api.ErrTruncated) {
				t.Errorf("% x: %v", b[:n], v)
			}
		}
	}
}

func TestOneMore(t *testing.T) { // P14.1, P14.2
	for _, s := range small() {
		b := hx(s)
		for c := range 256 {
			if v := check(t, b+string([]byte{byte(c)}), roomy); v != at(len(b), api.ErrSyntax) {
				t.Errorf("%s, and %02x: %v", s, c, v)
			}
		}
	}
}

func TestOneTurned(t *testing.T) { // P14.1, P14.2
	for _, s := range small() {
		b := []byte(hx(s))
		for i, c := range b {
			for other := range 256 {
				b[i] = byte(other)
				check(t, string(b), roomy)
			}
			b[i] = c
		}
	}
}

func TestEachErrorAlone(t *testing.T) { // P14.1
	for _, r := range []row{
		// the size: within a head, at an item's first byte, within a text, at its last byte, behind the item
		{"19 01 00", limits(9, 9, 2), at(2, api.ErrSize)}, {"19 01 00", limits(9, 9, 1), at(1, api.ErrSize)}, {"82 00 00", limits(9, 9, 1), at(1, api.ErrSize)}, {"82 00 00", limits(9, 9, 2), at(2, api.ErrSize)}, {"82 00 00", limits(9, 9, 3), api.Verdict{}},
		{"43 61 61 61", limits(9, 9, 1), at(1, api.ErrSize)}, {"43 61 61 61", limits(9, 9, 2), at(2, api.ErrSize)}, {"43 61 61 61", limits(9, 9, 3), at(3, api.ErrSize)}, {"43 61 61 61", limits(9, 9, 4), api.Verdict{}}, {"00 00", limits(9, 9, 1), at(1, api.ErrSize)},
		{"a1 42 61 61 00", limits(9, 9, 3), at(3, api.ErrSize)}, {"a1 42 61 61 00", limits(9, 9, 4), at(4, api.ErrSize)}, {"a1 42 61 61 00", limits(9, 9, 5), api.Verdict{}}, {"c1", limits(9, 9, 1), at(1, api.ErrTruncated)}, {"c1 00", limits(9, 9, 1), at(1, api.ErrSize)},
		// heads that never are, at each kind of place
		{"1c", roomy, at(0, api.ErrSyntax)}, {"fe", roomy, at(0, api.ErrSyntax)}, {"1f", roomy, at(0, api.ErrSyntax)}, {"3f", roomy, at(0, api.ErrSyntax)}, {"df", roomy, at(0, api.ErrSyntax)}, {"ff", roomy, at(0, api.ErrSyntax)}, {"5c", roomy, at(0, api.ErrSyntax)},
		{"82 00 ff", roomy, at(2, api.ErrSyntax)}, {"a1 ff", roomy, at(1, api.ErrSyntax)}, {"a1 00 ff", roomy, at(2, api.ErrSyntax)}, {"c1 ff", roomy, at(1, api.ErrSyntax)}, {"a1 a1 81 3c", roomy, at(3, api.ErrSyntax)}, {"a1 a1 00 3c", roomy, at(3, api.ErrSyntax)},
		{"f8 18", roomy, at(1, api.ErrSyntax)}, {"f8 1f", roomy, at(1, api.ErrSyntax)}, {"f8 00", roomy, at(1, api.ErrSyntax)}, {"f8 20", roomy, api.Verdict{}}, {"82 00 f8 1f", roomy, at(3, api.ErrSyntax)}, {"a1 f8 00", roomy, at(2, api.ErrSyntax)},
		{"00 00", roomy, at(1, api.ErrSyntax)}, {"80 ff", roomy, at(1, api.ErrSyntax)}, {"40 00", roomy, at(1, api.ErrSyntax)}, {"81 00 00", roomy, at(2, api.ErrSyntax)}, {"a1 00 00 00", roomy, at(3, api.ErrSyntax)},
		// the depth: at an item's first byte, be its head whole or not
		{"81 00", limits(1, 9, 99), at(1, api.ErrDepth)}, {"81 19 01 00", limits(1, 9, 99), at(1, api.ErrDepth)}, {"c1 00", limits(1, 9, 99), at(1, api.ErrDepth)}, {"a1 00 00", limits(1, 9, 99), at(1, api.ErrDepth)}, {"81 81 00", limits(2, 9, 99), at(2, api.ErrDepth)},
		{"a1 00 81 00", limits(2, 9, 99), at(3, api.ErrDepth)}, {"a1 81 00 00", limits(2, 9, 99), at(2, api.ErrDepth)}, {"a1 81 00 81 00", limits(3, 9, 99), api.Verdict{}}, {"82 81 80 81 81 00", limits(3, 9, 99), at(5, api.ErrDepth)}, {"80", limits(1, 9, 99), api.Verdict{}}, {"a0", limits(1, 9, 99), api.Verdict{}},
		{"81", limits(1, 9, 99), at(1, api.ErrTruncated)}, {"c1", limits(1, 9, 99), at(1, api.ErrTruncated)}, {"a1", limits(1, 9, 99), at(1, api.ErrTruncated)}, {"81 40", limits(1, 9, 99), at(1, api.ErrDepth)}, {"81 80", limits(1, 9, 99), at(1, api.ErrDepth)},
		// the length of keys: at an item's first byte, within a head, at its last byte, within a text, at its last byte
		{"a1 81 00 00", limits(9, 1, 99), at(2, api.ErrKeyLength)}, {"a1 19 01 00 00", limits(9, 1, 99), at(2, api.ErrKeyLength)}, {"a1 19 01 00 00", limits(9, 2, 99), at(3, api.ErrKeyLength)}, {"a1 19 01 00 00", limits(9, 3, 99), api.Verdict{}}, {"a1 18 18 00", limits(9, 1, 99), at(2, api.ErrKeyLength)},
		{"a1 43 61 61 61 00", limits(9, 1, 99), at(2, api.ErrKeyLength)}, {"a1 43 61 61 61 00", limits(9, 2, 99), at(3, api.ErrKeyLength)}, {"a1 43 61 61 61 00", limits(9, 3, 99), at(4, api.ErrKeyLength)}, {"a1 43 61 61 61 00", limits(9, 4, 99), api.Verdict{}},
		{"a1 63 61 61 61 00", limits(9, 3, 99), at(4, api.ErrKeyLength)}, {"a1 c1 c1 00 00", limits(9, 2, 99), at(3, api.ErrKeyLength)}, {"a2 00 00 18 18 00", limits(9, 1, 99), at(4, api.ErrKeyLength)}, {"a1 00 18 18", limits(9, 1, 99), api.Verdict{}},
		// in a key of a key the outer one is full first; in a value within a key, too; not in a value alone
		{"a1 a1 42 61 61 00 00", limits(9, 4, 99), at(5, api.ErrKeyLength)}, {"a1 a1 42 61 61 00 00", limits(9, 3, 99), at(4, api.ErrKeyLength)}, {"a1 a1 42 61 61 00 00", limits(9, 2, 99), at(3, api.ErrKeyLength)}, {"a1 a1 42 61 61 00 00", limits(9, 5, 99), api.Verdict{}},
		{"a1 00 a1 42 61 61 00", limits(9, 2, 99), at(5, api.ErrKeyLength)}, {"a1 00 a1 42 61 61 00", limits(9, 3, 99), api.Verdict{}}, {"a1 a1 00 42 61 61 00", limits(9, 4, 99), at(5, api.ErrKeyLength)}, {"a1 a1 00 42 61 61 00", limits(9, 5, 99), api.Verdict{}},
		// heads that aren't the shortest, or have no length
		{"18 17", roomy, at(1, api.ErrDeterminism)}, {"18 18", roomy, api.Verdict{}}, {"19 00 ff", roomy, at(2, api.ErrDeterminism)}, {"1a 00 00 ff ff", roomy, at(4, api.ErrDeterminism)}, {"1b 00 00 00 00 ff ff ff ff", roomy, at(8, api.ErrDeterminism)}, {"3b 00 00 00 00 ff ff ff ff", roomy, at(8, api.ErrDeterminism)},
		{"58 01 61", roomy, at(1, api.ErrDeterminism)}, {"78 00", roomy, at(1, api.ErrDeterminism)}, {"98 01 00", roomy, at(1, api.ErrDeterminism)}, {"b8 00", roomy, at(1, api.ErrDeterminism)}, {"d8 17 00", roomy, at(1, api.ErrDeterminism)}, {"82 00 18 00", roomy, at(3, api.ErrDeterminism)},
		{"5f", roomy, at(0, api.ErrDeterminism)}, {"7f", roomy, at(0, api.ErrDeterminism)}, {"9f", roomy, at(0, api.ErrDeterminism)}, {"bf", roomy, at(0, api.ErrDeterminism)}, {"a1 9f", roomy, at(1, api.ErrDeterminism)}, {"a1 a1 5f", roomy, at(2, api.ErrDeterminism)}, {"a1 00 bf", roomy, at(2, api.ErrDeterminism)},
		{"a1 18 17", roomy, at(2, api.ErrDeterminism)}, {"a1 a1 19 00 18", roomy, at(4, api.ErrDeterminism)}, {"fa 3f 80 00 00", roomy, at(4, api.ErrDeterminism)}, {"f9 7e 01", roomy, at(2, api.ErrDeterminism)}, {"f9 fe 00", roomy, at(2, api.ErrDeterminism)}, {"fb 7f f8 00 00 00 00 00 00", roomy, at(8, api.ErrDeterminism)},
		// texts
		{"61 ff", roomy, at(1, api.ErrUTF8)}, {"62 61 ff", roomy, at(2, api.ErrUTF8)}, {"63 61 ff 61", roomy, at(2, api.ErrUTF8)}, {"63 61 c3 61", roomy, at(3, api.ErrUTF8)}, {"62 61 c3", roomy, at(2, api.ErrUTF8)}, {"62 c0 80", roomy, at(1, api.ErrUTF8)}, {"63 ed a0 80", roomy, at(2, api.ErrUTF8)},
		{"a1 61 ff", roomy, at(2, api.ErrUTF8)}, {"a1 a1 62 61 80", roomy, at(4, api.ErrUTF8)}, {"a1 00 61 80", roomy, at(3, api.ErrUTF8)}, {"82 61 c3 41 a9", roomy, at(2, api.ErrUTF8)}, {"82 61 c3 61 a9", roomy, at(2, api.ErrUTF8)}, {"82 41 c3 61 a9", roomy, at(4, api.ErrUTF8)},
		// keys that don't rise, at the end of each kind of key
		{"a2 01 00 00", roomy, at(3, api.ErrKeyOrder)}, {"a2 00 00 00", roomy, at(3, api.ErrKeyOrder)}, {"a2 18 19 00 18 18", roomy, at(5, api.ErrKeyOrder)}, {"a2 42 61 62 00 42 61 61", roomy, at(7, api.ErrKeyOrder)}, {"a2 62 61 62 00 62 61 61", roomy, at(7, api.ErrKeyOrder)}, {"a2 61 61 00 60", roomy, at(4, api.ErrKeyOrder)},
		{"a2 81 01 00 81 00", roomy, at(5, api.ErrKeyOrder)}, {"a2 81 01 00 80", roomy, at(4, api.ErrKeyOrder)}, {"a2 c1 01 00 c1 01", roomy, at(5, api.ErrKeyOrder)}, {"a2 a1 00 01 00 a1 00 00", roomy, at(7, api.ErrKeyOrder)}, {"a2 a0 00 a0", roomy, at(3, api.ErrKeyOrder)}, {"a2 f5 00 f4", roomy, at(3, api.ErrKeyOrder)},
		{"a2 a1 00 81 01 00 a1 00 81 01", roomy, at(9, api.ErrKeyOrder)}, {"a3 00 00 02 00 01", roomy, at(5, api.ErrKeyOrder)}, {"a1 a2 01 00 00", roomy, at(4, api.ErrKeyOrder)}, {"a1 00 a2 01 00 01", roomy, at(5, api.ErrKeyOrder)}, {"a2 f9 3c 00 00 f9 00 00", roomy, at(7, api.ErrKeyOrder)},
		// what looks the same doesn't play a part in another map, or behind an array
		{"82 a1 01 00 a1 00 00", roomy, api.Verdict{}}, {"a2 00 a1 05 00 01 a1 04 00", roomy, api.Verdict{}}, {"a2 a1 05 00 00 a1 06 00 00", roomy, api.Verdict{}}, {"a1 05 a1 04 00", roomy, api.Verdict{}}, {"82 05 04", roomy, api.Verdict{}}, {"a1 05 04", roomy, api.Verdict{}},
	} {
		r.check(t)
	}
}

// several is a byte at which several errors hold, in the list's order.
type several struct {
	digits string
	l      api.Limits
	place  int
	hold   []api.Errno
}

// loosened are limits by which that error isn't, if it is one of limits.
func loosened(l api.Limits, err api.Errno) (api.Limits, bool) {
	switch err {
	case api.ErrSize:
		l.Size = greatest.Size
	case api.ErrDepth:
		l.Depth = greatest.Depth
	case api.ErrKeyLength:
		l.Key = greatest.Key
	default:
		return l, false
	}
	return l, true
}

func (s several) check(t *testing.T) {
	t.Helper()
	b, l := hx(s.digits), s.l
	for _, err := range s.hold {
		if v := check(t, b, l); v != at(s.place, err) {
			t.Errorf("%s, %v: %v, want %v at %d", s.digits, l, v, err, s.place)
		}
		looser, ok := loosened(l, err)
		if !ok {
			return
		}
		l = looser
	}
	if v := check(t, b, l); v.Error != api.OK && v.At <= s.place {
		t.Errorf("%s, %v: %v", s.digits, l, v)
	}
}

func TestSeveralAtOneByte(t *testing.T) { // P14.1, R2
	const size, syntax, depth, long, determinism, utf8, order = api.ErrSize, api.ErrSyntax, api.ErrDepth, api.ErrKeyLength, api.ErrDeterminism, api.ErrUTF8, api.ErrKeyOrder
	type all = []api.Errno
	for _, s := range []several{
		// the size goes ahead of each
		{"00 00", limits(9, 9, 1), 1, all{size, syntax}}, {"81 ff", limits(9, 9, 1), 1, all{size, syntax}}, {"f8 00", limits(9, 9, 1), 1, all{size, syntax}}, {"81 00", limits(1, 9, 1), 1, all{size, depth}}, {"a1 43 61 61 61 00", limits(9, 3, 4), 4, all{size, long}},
		{"18 17", limits(9, 9, 1), 1, all{size, determinism}}, {"81 5f", limits(9, 9, 1), 1, all{size, determinism}}, {"61 c3", limits(9, 9, 1), 1, all{size, utf8}}, {"62 61 ff", limits(9, 9, 2), 2, all{size, utf8}}, {"a2 01 00 00", limits(9, 9, 3), 3, all{size, order}},
		// a head that never is goes ahead of the depth, the length of a key, and the order of keys
		{"81 ff", limits(1, 9, 99), 1, all{syntax}}, {"a1 1c", limits(1, 9, 99), 1, all{syntax}}, {"a1 81 1c", limits(9, 1, 99), 2, all{syntax}}, {"a1 81 1c", limits(2, 1, 99), 2, all{syntax}}, {"a1 81 1c", limits(2, 1, 2), 2, all{size, syntax}}, {"a1 f8 00", limits(9, 1, 99), 2, all{syntax}},
		{"a2 f8 20 00 f8 00", limits(9, 2, 99), 5, all{syntax}}, {"a2 02 00 1c", limits(9, 9, 99), 3, all{syntax}}, {"00 81", limits(1, 1, 99), 1, all{syntax}}, {"a1 a1 00 1c", limits(9, 1, 99), 2, all{long}},
		// the depth goes ahead of the length of a key, of a head that isn't the shortest, and the order of keys
		{"a1 81 00", limits(2, 1, 99), 2, all{depth, long}}, {"a1 81 00", limits(2, 1, 2), 2, all{size, depth, long}}, {"81 5f", limits(1, 9, 99), 1, all{depth, determinism}}, {"a1 81 9f", limits(2, 1, 99), 2, all{depth, long, determinism}}, {"a1 81 9f", limits(2, 1, 2), 2, all{size, depth, long, determinism}},
		{"a2 a0 00 81 00", limits(2, 9, 99), 4, all{depth, order}}, {"a2 a0 00 81 00", limits(2, 1, 99), 4, all{depth, long, order}}, {"a2 a0 00 81 00", limits(2, 1, 4), 4, all{size, depth, long, order}}, {"a1 a1 00", limits(2, 1, 99), 2, all{depth, long}},
		// the length of a key goes ahead of a head that isn't the shortest, a text that isn't right, and the order of keys
		{"a1 18 17", limits(9, 1, 99), 2, all{long, determinism}}, {"a1 19 00 17", limits(9, 2, 99), 3, all{long, determinism}}, {"a1 81 5f", limits(9, 1, 99), 2, all{long, determinism}}, {"a1 61 ff", limits(9, 1, 99), 2, all{long, utf8}}, {"a1 62 61 c3", limits(9, 2, 99), 3, all{long, utf8}},
		{"a2 41 61 00 41 61", limits(9, 2, 99), 5, all{order}}, {"a2 60 00 42 61 62 00", limits(9, 1, 99), 4, all{long}}, {"a2 f6 00 18 18", limits(9, 1, 99), 4, all{long, order}}, {"a2 f6 00 41 61", limits(9, 1, 99), 4, all{long, order}}, {"a2 f6 00 61 61", limits(9, 1, 3), 3, all{size}},
		{"a2 f6 00 61 ff", limits(9, 1, 99), 4, all{long, utf8}}, {"a2 f6 00 18 17", limits(9, 1, 99), 4, all{long, determinism}}, {"a2 f6 00 18 17", limits(9, 1, 4), 4, all{size, long, determinism}}, {"a2 f6 00 c1 00", limits(9, 1, 99), 4, all{long, order}}, {"a2 f6 00 81 80", limits(9, 1, 4), 4, all{size, long, order}},
		// in a key of a key
		{"a1 a1 61 ff", limits(9, 2, 99), 3, all{long, utf8}}, {"a1 a1 18 17", limits(9, 2, 99), 3, all{long, determinism}}, {"a1 a2 01 00 00", limits(9, 3, 99), 4, all{long, order}}, {"a1 a2 01 00 00", limits(9, 3, 4), 4, all{size, long, order}}, {"a1 a2 01 00 81 00", limits(3, 4, 5), 5, all{size, depth, long}},
		// a wrong head or text goes ahead of the order of keys
		{"a2 18 20 00 18 17", limits(9, 9, 99), 5, all{determinism}}, {"a2 f6 00 f9 00 00", limits(9, 9, 99), 5, nil}, {"a2 f6 00 5f", limits(9, 9, 99), 3, all{determinism}}, {"a2 62 61 61 00 61 c3", limits(9, 9, 99), 6, all{utf8}}, {"a2 61 ce b1", limits(9, 9, 99), 2, all{utf8}}, {"a2 f6 00 61 80", limits(9, 9, 99), 4, all{utf8}},
	} {
		s.check(t)
	}
}

func TestTheFirstByteGoesAhead(t *testing.T) { // P14.1: a later error plays no part, be it ahead in the list
	for _, r := range []row{
		{"a2 01 00 00 ff", limits(9, 9, 4), at(3, api.ErrKeyOrder)}, {"61 c3 00", limits(9, 9, 2), at(1, api.ErrUTF8)}, {"18 17 ff", roomy, at(1, api.ErrDeterminism)}, {"a1 18 18 ff", limits(1, 1, 2), at(1, api.ErrDepth)}, {"a1 18 18 ff", limits(2, 1, 3), at(2, api.ErrKeyLength)},
		{"81 1c", limits(9, 9, 2), at(1, api.ErrSyntax)}, {"a2 02 00 01 00 00", limits(9, 9, 5), at(3, api.ErrKeyOrder)}, {"82 1c 61 ff", roomy, at(1, api.ErrSyntax)}, {"62 ff ff", roomy, at(1, api.ErrUTF8)}, {"a1 43 61 61 ff", limits(9, 2, 99), at(3, api.ErrKeyLength)},
	} {
		r.check(t)
	}
}

func TestDepths(t *testing.T) { // P14.1: as deep as Depth, and one deeper
	for depth := 1; depth <= 64; depth++ {
		for _, by := range wraps {
			for _, x := range []string{"\x00", "\x80", "\xa0", "\x61a", "\x19\x01\x00"} {
				b := wrapped(x, depth-1, by)
				l := limits(depth, 1024, 1<<20)
				if v := check(t, b, l); v != (api.Verdict{}) {
					t.Fatalf("%d, %s: %v", depth, by, v)
				}
				deeper, ahead := wrapped(x, depth, by), depth
				if by == "value" {
					ahead = 2*depth - 1 // the innermost map's key, as its maps have two bytes each
				}
				if v := check(t, deeper, l); v != at(ahead, api.ErrDepth) {
					t.Fatalf("%d, %s: % x: %v, want %d", depth, by, deeper, v, ahead)
				}
				// and so do items behind, when others have ended
				if v := check(t, list(b, deeper), limits(min(depth+1, 64), 1024, 1<<20)); depth < 64 && v != at(1+len(b)+ahead, api.ErrDepth) {
					t.Fatalf("%d, %s: %v", depth, by, v)
				}
			}
		}
	}
}

// filled are a Bytes and a Text whose encodings have just so many bytes; none: there are no such ones.
func filled(n int) []string {
	for ahead := 1; ahead <= min(n, 3); ahead++ {
		if s := strings.Repeat("x", n-ahead); len(blob(s)) == n {
			return []string{blob(s), text(s)}
		}
	}
	return nil
}

// one is an encoding of just so many bytes.
func one(n int) string {
	if l := filled(n); l != nil {
		return l[0]
	}
	return tag(1, one(n-1))
}

// keysOf are encodings of just so many bytes, of all kinds.
func keysOf(n int) []string {
	all := append(filled(n), one(n))
	for _, x := range []string{"\x00", "\x80", "\xa0", "\x18\x18", "\x19\x01\x00", "\x1a\x00\x01\x00\x00", "\x1b\x00\x00\x00\x01\x00\x00\x00\x00", "\xf9\x3c\x00"} {
		if len(x) == n {
			all = append(all, x)
		}
	}
	if n >= 2 {
		all = append(all, tag(7, one(n-1)), list(one(n-1)))
	}
	if n >= 3 {
		all = append(all, pairs("\x00", one(n-2)), pairs(one(n-2), "\x00"), list(one(n-2), "\x00"), list("\x00", one(n-2)))
	}
	return all
}

func TestKeyLengths(t *testing.T) { // P14.1: as many bytes as Key, and one more
	for _, n := range []int{1, 2, 3, 4, 5, 6, 23, 24, 25, 26, 27, 255, 256, 257, 258, 259, 260, 1022, 1023, 1024} {
		l := limits(8, n, 1<<20)
		short, long := keysOf(n), keysOf(n+1)
		for _, x := range short {
			if v := check(t, pairs(x, "\x00"), l); v != (api.Verdict{}) {
				t.Fatalf("%d: % .40x: %v", n, x, v)
			}
			if v := check(t, list("\x00", pairs("\xf6", pairs(x, x))), l); v != (api.Verdict{}) {
				t.Fatalf("%d: % .40x: %v", n, x, v)
			}
		}
		for _, x := range long {
			if v := check(t, pairs(x, "\x00"), l); v != at(1+n, api.ErrKeyLength) {
				t.Fatalf("%d: % .40x: %v", n, x, v)
			}
			if v := check(t, list("\x00", pairs("\x00", pairs(x, "\x00"))), l); v != at(5+n, api.ErrKeyLength) {
				t.Fatalf("%d: % .40x: %v", n, x, v)
			}
			if v := check(t, pairs("\x00", x), l); v != (api.Verdict{}) {
				t.Fatalf("a value of %d: % .40x: %v", n+1, x, v)
			}
		}
	}
}

func TestKeysWithinKeys(t *testing.T) { // P14.1
	inner := text("abc") // 4 bytes
	for _, c := range []struct {
		b    string
		most []int // how many bytes each key has, and where it begins
	}{
		{pairs(pairs(inner, "\x00"), "\x00"), []int{6, 1}}, {pairs(pairs("\x00", inner), "\x00"), []int{6, 1}}, {pairs(pairs(pairs(inner, "\x00"), "\x00"), "\x00"), []int{8, 1}}, {pairs(list("\x00", pairs(inner, "\x00")), "\x00"), []int{8, 1}},
		{pairs(tag(9, tag(9, inner)), "\x00"), []int{6, 1}}, {pairs("\x00", pairs(list(inner), "\x00")), []int{5, 3}}, {list("\x00", pairs("\x00", pairs("\x00", pairs(pairs(inner, inner), inner)))), []int{9, 7}}, {pairs(inner, "\x00", pairs(inner, inner), "\x00"), []int{9, 6}},
	} {
		size, begin := c.most[0], c.most[1]
		for most := 1; most <= size+1; most++ {
			v := check(t, c.b, limits(9, most, 99))
			if most >= size && v != (api.Verdict{}) || most < size && (v.Error != api.ErrKeyLength || v.At > begin+most) {
				t.Errorf("% x, with %d: %v", c.b, most, v)
			}
			if most == size-1 && v != at(begin+most, api.ErrKeyLength) {
				t.Errorf("% x, with %d: %v", c.b, most, v)
			}
		}
	}
}

// rising are keys, in their order, of all kinds.
func rising() []string {
	var all []string
	for _, s := range []string{
		"00", "01", "17", "1818", "1819", "18ff", "190100", "1901ff", "190200", "1a00010000", "1b0000000100000000", "1bffffffffffffffff", "20", "37", "3818", "390100",
		"40", "4100", "41ff", "420000", "4200ff", "42ff00", "430000ff", "60", "6100", "6161", "6162", "617f", "626161", "62c3a9", "63616161",
		"80", "8100", "811818", "8140", "8180", "818100", "8181f6", "81a0", "81f6", "820000", "820001", "82018100", "83000000",
		"a0", "a10000", "a10001", "a100a0", "a10100", "a1a000", "a200000100", "a200000101",
		"c000", "c001", "c0c000", "c100", "c1a0", "d81800", "e0", "f4", "f6", "f820", "f8ff", "f90000", "f93c00", "f97e00", "fa3dcccccd", "fb3fb999999999999a",
	} {
		all = append(all, hx(s))
	}
	return all
}

func TestKeysInAllPairs(t *testing.T) { // P14.1: rise, alike, back, at the second one's end
	keys := rising()
	for i, x := range keys {
		for j, y := range keys {
			for _, value := range []string{"\x00", "\xa1\x05\x00", "\x82\x00\x61a"} {
				b, want := pairs(x, value, y, value), api.Verdict{}
				if i >= j {
					want = at(1+len(x)+len(value)+len(y)-1, api.ErrKeyOrder)
				}
				if v := check(t, b, roomy); v != want {
					t.Fatalf("% x: %v, want %v", b, v, want)
				}
			}
		}
	}
}

func TestManyKeys(t *testing.T) { // P14.1
	keys := rising()
	var l []string
	for _, k := range keys {
		l = append(l, k, "\x00")
	}
	if v := check(t, pairs(l...), roomy); v != (api.Verdict{}) {
		t.Fatal(v)
	}
	for i := range keys[1:] { // two that change places
		l[2*i], l[2*i+2] = l[2*i+2], l[2*i]
		want := at(len(headOf(5, uint64(len(keys))))+len(strings.Join(l[:2*i+3], ""))-1, api.ErrKeyOrder)
		if v := check(t, pairs(l...), roomy); v != want {
			t.Fatalf("%d: %v, want %v", i, v, want)
		}
		l[2*i], l[2*i+2] = l[2*i+2], l[2*i]
	}
}

func TestKeysOfManyMaps(t *testing.T) { // P14.1: each map has an order of its own, when others were open between, too
	for deep := 1; deep < 20; deep++ {
		low, high := pairs("\x01", "\x00", "\x02", "\x00"), pairs("\x01", "\x00", "\x01", "\x00")
		good, bad := low, high
		for range deep {
			good, bad = pairs("\x01", good, "\x02", "\x00"), pairs("\x01", good, "\x02", bad)
		}
		l := limits(30, 40, 1<<20)
		if v := check(t, good, l); v != (api.Verdict{}) {
			t.Fatalf("% x: %v", good, v)
		}
		if v := check(t, bad, l); v.Error != api.ErrKeyOrder || v.At != len(bad)-2 {
			t.Fatalf("% x: %v", bad, v)
		}
	}
}

func TestSizes(t *testing.T) { // P14.1: ahead of the item's end, with it, behind it
	for _, s := range small() {
		b := hx(s)
		for size := 1; size <= len(b)+2; size++ {
			want := api.Verdict{}
			if size < len(b) {
				want = at(size, api.ErrSize)
			}
			if v := check(t, b, limits(12, 40, size)); v != want {
				t.Fatalf("%s, size %d: %v", s, size, v)
			}
			want = at(min(size, len(b)), api.ErrSyntax)
			if size <= len(b) {
				want.Error = api.ErrSize
			}
			if v := check(t, b+"\x00", limits(12, 40, size)); v != want {
				t.Fatalf("%s 00, size %d: %v", s, size, v)
			}
		}
	}
}

// signs are first bytes and following ones that UTF-8 tells apart.
const signs = "\x00a\x7f\x80\x8f\x90\x9f\xa0\xbf\xc0\xc1\xc2\xdf\xe0\xe1\xec\xed\xee\xef\xf0\xf1\xf3\xf4\xf5\xff"

func TestTexts(t *testing.T) { // P14.1
	var rows func(s string, n int)
	rows = func(s string, n int) {
		check(t, text(s), limits(1, 1, 99))
		if n == 0 {
			return
		}
		for i := range len(signs) {
			rows(s+signs[i:i+1], n-1)
		}
	}
	rows("", 3)
	for _, s := range []string{"é", "€", "😀", "aé", "€é", "\ud7ff", "\ue000", "\U0010ffff", "\U00010000", "abcdefghijklmnopqrstuvwxyzé"} {
		for n := 1; n <= len(s); n++ {
			b, want := text(s[:n]), api.Verdict{}
			if n < len(s) && s[n] >= 0x80 && s[n] < 0xc0 { // it breaks off within a sign
				want = at(len(b)-1, api.ErrUTF8)
			}
			for _, l := range []api.Limits{limits(1, 1, 99), greatest} {
				if v := check(t, b, l); v != want {
					t.Fatalf("%q: %v, want %v", s[:n], v, want)
				}
			}
			// what one text leaves behind is nothing to the next one, and a Bytes takes all
			check(t, list(text(s), text(s[:n]), text(s)), roomy)
			if v := check(t, list(blob(s[:n]), text(s)), roomy); v != (api.Verdict{}) {
				t.Fatalf("%q: %v", s[:n], v)
			}
		}
	}
}

func TestSecondText(t *testing.T) { // P14.1: a text begins anew behind one that was right
	for _, r := range []row{
		{"82 62 c3 a9 61 a9", roomy, at(5, api.ErrUTF8)}, {"82 62 c3 a9 62 c3 a9", roomy, api.Verdict{}}, {"82 41 c3 62 c3 a9", roomy, api.Verdict{}}, {"83 60 41 ff 60", roomy, api.Verdict{}}, {"a1 62 c3 a9 62 a9 c3", roomy, at(5, api.ErrUTF8)},
	} {
		r.check(t)
	}
}

// short spells an event: h with the major type, the width and the argument of the head, b with the byte, e or k; each with how deep.
func short(e Event) string {
	deep := "/" + strconv.Itoa(e.Deep)
	switch {
	case e.Kind == EventHead && e.Byte == 0:
		return fmt.Sprintf("h%d.%d.%d", e.Head.Major, e.Head.Width, e.Head.Arg) + deep
	case e.Kind == EventByte && e.Head == (head.Head{}):
		return fmt.Sprintf("b%02x", e.Byte) + deep
	case e == Event{Kind: EventEnd, Deep: e.Deep}:
		return "e" + deep
	case e == Event{Kind: EventKey, Deep: e.Deep}:
		return "k" + deep
	}
	return fmt.Sprint(e)
}

// spelt are the events of each byte, the bytes set apart by a stroke.
func spelt(t *testing.T, b string, l api.Limits) string {
	t.Helper()
	a, _ := New(l)
	var all []string
	for i := range len(b) {
		var of []string
		if err := a.Step(b[i], func(e Event) { of = append(of, short(e)) }); err != api.OK {
			of = append(of, "wrong")
		}
		all = append(all, strings.Join(of, " "))
	}
	return strings.Join(all, " | ")
}

func TestEvents(t *testing.T) { // P14.1
	for _, c := range []struct{ digits, want string }{
		{"00", "h0.0.0/1 e/1"}, {"17", "h0.0.23/1 e/1"}, {"18 18", " | h0.1.24/1 e/1"}, {"19 01 00", " |  | h0.2.256/1 e/1"}, {"1b ff ff ff ff ff ff ff ff", " |  |  |  |  |  |  |  | h0.8.18446744073709551615/1 e/1"}, {"37", "h1.0.23/1 e/1"},
		{"40", "h2.0.0/1 e/1"}, {"60", "h3.0.0/1 e/1"}, {"41 00", "h2.0.1/1 | b00/1 e/1"}, {"43 61 ff 62", "h2.0.3/1 | b61/1 | bff/1 | b62/1 e/1"}, {"62 c3 a9", "h3.0.2/1 | bc3/1 | ba9/1 e/1"},
		{"80", "h4.0.0/1 e/1"}, {"a0", "h5.0.0/1 e/1"}, {"81 00", "h4.0.1/1 | h0.0.0/2 e/2 e/1"}, {"82 80 a0", "h4.0.2/1 | h4.0.0/2 e/2 | h5.0.0/2 e/2 e/1"}, {"82 41 61 00", "h4.0.2/1 | h2.0.1/2 | b61/2 e/2 | h0.0.0/2 e/2 e/1"},
		{"c5 01", "h6.0.5/1 | h0.0.1/2 e/2 e/1"}, {"d8 20 60", " | h6.1.32/1 | h3.0.0/2 e/2 e/1"}, {"c1 c2 c3 40", "h6.0.1/1 | h6.0.2/2 | h6.0.3/3 | h2.0.0/4 e/4 e/3 e/2 e/1"}, {"f6", "h7.0.22/1 e/1"}, {"f8 20", " | h7.1.32/1 e/1"}, {"f9 3c 00", " |  | h7.2.15360/1 e/1"}, {"fa 3d cc cc cd", " |  |  |  | h7.4.1036831949/1 e/1"},
		{"a1 00 01", "h5.0.1/1 | h0.0.0/2 k/2 | h0.0.1/2 e/2 e/1"}, {"a2 00 01 02 03", "h5.0.2/1 | h0.0.0/2 k/2 | h0.0.1/2 e/2 | h0.0.2/2 k/2 | h0.0.3/2 e/2 e/1"}, {"a1 61 61 61 62", "h5.0.1/1 | h3.0.1/2 | b61/2 k/2 | h3.0.1/2 | b62/2 e/2 e/1"}, {"a1 60 60", "h5.0.1/1 | h3.0.0/2 k/2 | h3.0.0/2 e/2 e/1"},
		{"a1 81 00 80", "h5.0.1/1 | h4.0.1/2 | h0.0.0/3 e/3 k/2 | h4.0.0/2 e/2 e/1"}, {"a1 c1 c1 40 a0", "h5.0.1/1 | h6.0.1/2 | h6.0.1/3 | h2.0.0/4 e/4 e/3 k/2 | h5.0.0/2 e/2 e/1"}, {"a1 a1 a0 a0 a0", "h5.0.1/1 | h5.0.1/2 | h5.0.0/3 k/3 | h5.0.0/3 e/3 k/2 | h5.0.0/2 e/2 e/1"},
		{"a1 a1 00 81 01 02", "h5.0.1/1 | h5.0.1/2 | h0.0.0/3 k/3 | h4.0.1/3 | h0.0.1/4 e/4 e/3 k/2 | h0.0.2/2 e/2 e/1"}, {"81 a1 81 41 61 c1 00", "h4.0.1/1 | h5.0.1/2 | h4.0.1/3 | h2.0.1/4 | b61/4 e/4 k/3 | h6.0.1/3 | h0.0.0/4 e/4 e/3 e/2 e/1"}, {"a1 00 a1 00 a1 00 00", "h5.0.1/1 | h0.0.0/2 k/2 | h5.0.1/2 | h0.0.0/3 k/3 | h5.0.1/3 | h0.0.0/4 k/4 | h0.0.0/4 e/4 e/3 e/2 e/1"},
		{"a1 00 82 a1 01 02 03", "h5.0.1/1 | h0.0.0/2 k/2 | h4.0.2/2 | h5.0.1/3 | h0.0.1/4 k/4 | h0.0.2/4 e/4 e/3 | h0.0.3/3 e/3 e/2 e/1"}, {"5b ff ff ff ff ff ff ff ff 61", " |  |  |  |  |  |  |  | h2.8.18446744073709551615/1 | b61/1"}, {"9b ff ff ff ff ff ff ff ff 61 62", " |  |  |  |  |  |  |  | h4.8.18446744073709551615/1 | h3.0.1/2 | b62/2 e/2"}, {"bb ff ff ff ff ff ff ff ff 01 02", " |  |  |  |  |  |  |  | h5.8.18446744073709551615/1 | h0.0.1/2 k/2 | h0.0.2/2 e/2"},
		// none with a verdict, or behind it
		{"00 00 00", "h0.0.0/1 e/1 | wrong | wrong"}, {"82 18 17 00", "h4.0.2/1 |  | wrong | wrong"}, {"a2 01 00 00 00", "h5.0.2/1 | h0.0.1/2 k/2 | h0.0.0/2 e/2 | wrong | wrong"}, {"62 61 c3", "h3.0.2/1 | b61/1 | wrong"}, {"61 ff 00", "h3.0.1/1 | wrong | wrong"}, {"a2 81 01 00 81 00 00", "h5.0.2/1 | h4.0.1/2 | h0.0.1/3 e/3 k/2 | h0.0.0/2 e/2 | h4.0.1/2 | wrong | wrong"},
	} {
		if got := spelt(t, hx(c.digits), roomy); got != c.want {
			t.Errorf("%s: %s\nwant %s", c.digits, got, c.want)
		}
		check(t, hx(c.digits), roomy)
	}
}

func TestManyEndsAtOneByte(t *testing.T) { // P14.1
	for _, by := range []string{"array", "tag", "value"} {
		for _, x := range []string{"\x00", "\x61a", "\xa0"} {
			b := wrapped(x, 63, by)
			var last []Event
			a, _ := New(greatest)
			for i := range len(b) {
				last = nil
				if err := a.Step(b[i], func(e Event) { last = append(last, e) }); err != api.OK {
					t.Fatalf("%s: %v", by, err)
				}
			}
			if len(last) != 65 || last[0].Deep != 64 {
				t.Fatalf("%s: %v", by, last)
			}
			for i, e := range last[1:] {
				if want := (Event{Kind: EventEnd, Deep: 64 - i}); e != want {
					t.Fatalf("%s: %v, want %v", by, e, want)
				}
			}
			if !a.Done() {
				t.Fatal(by)
			}
		}
	}
}

func TestDoneAtEachByte(t *testing.T) { // P14.1
	a, _ := New(roomy)
	for i, c := range []byte(hx("a1 81 00 61 61")) {
		if a.Done() || a.Close() != at(i, api.ErrTruncated) || a.Len() != i {
			t.Fatal(i, a.Done(), a.Close(), a.Len())
		}
		if err := a.Step(c, nil); err != api.OK {
			t.Fatal(i, err)
		}
	}
	if !a.Done() || a.Close() != (api.Verdict{}) || a.Len() != 5 {
		t.Fatal(a.Done(), a.Close(), a.Len())
	}
	for range 3 {
		if err := a.Step(0, nil); err != api.ErrSyntax || a.Done() || a.Close() != at(5, api.ErrSyntax) || a.Len() != 6 {
			t.Fatal(err, a.Done(), a.Close(), a.Len())
		}
	}
}

func TestCloseChangesNothing(t *testing.T) { // P14.1, R6: bytes may come behind it
	a, _ := New(roomy)
	for i, c := range []byte(hx("82 61 61 a1 18 20 00")) {
		for range 3 {
			if v := a.Close(); v != at(i, api.ErrTruncated) {
				t.Fatal(i, v)
			}
		}
		if err := a.Step(c, nil); err != api.OK {
			t.Fatal(i, err)
		}
	}
	if v := a.Close(); v != (api.Verdict{}) || !a.Done() {
		t.Fatal(v)
	}
}

func TestCaps(t *testing.T) { // P14.1
	for depth := 1; depth <= 64; depth++ {
		for _, key := range []int{1, 2, 7, 100, 1023, 1024} {
			newMachine(t, limits(depth, key, 5))
		}
	}
}

func TestNil(t *testing.T) { // P14.1
	var a *Auto
	for range 2 {
		for c := range 256 {
			if err := a.Step(byte(c), nil); err != api.ErrArg {
				t.Fatal(err)
			}
			if err := a.Step(byte(c), func(e Event) { t.Fatal(e) }); err != api.ErrArg {
				t.Fatal(err)
			}
		}
		if v := a.Close(); v != at(0, api.ErrArg) || a.Done() || a.Len() != 0 || a.Cap() != 0 {
			t.Fatal(v, a.Done(), a.Len(), a.Cap())
		}
	}
}

// some are limits, most of them narrow.
func some() []api.Limits {
	return []api.Limits{limits(1, 1, 1), limits(1, 1, 2), limits(1, 1, 9), limits(2, 1, 9), limits(2, 2, 3), limits(3, 1, 9), limits(3, 2, 4), limits(3, 3, 9), limits(4, 2, 9), limits(9, 9, 99)}
}

func TestAllShortRows(t *testing.T) { // P14.1, P14.2
	for _, l := range some() {
		check(t, "", l)
		for a := range 256 {
			check(t, string([]byte{byte(a)}), l)
			for b := range 256 {
				check(t, string([]byte{byte(a), byte(b)}), l)
			}
		}
	}
}

// checkRows checks each row of n bytes of those few behind the first ones.
func checkRows(t *testing.T, first, few string, n int, l api.Limits) {
	t.Helper()
	if n == 0 {
		check(t, first, l)
		return
	}
	for i := range len(few) {
		checkRows(t, first+few[i:i+1], few, n-1, l)
	}
}

func TestAllRowsOfFewBytes(t *testing.T) { // P14.1, P14.2
	for _, l := range []api.Limits{limits(2, 1, 4), limits(3, 1, 9), limits(3, 2, 9)} {
		checkRows(t, "", "\x00\x01\x18\x1c\x41\x5f\x61\xc3\x80\x81\x82\xa0\xa1\xa2\xc1\xf8\xf6", 4, l)
	}
}

func TestAllRowsBehindAMap(t *testing.T) { // P14.1, P14.2
	for _, l := range []api.Limits{limits(3, 2, 6), limits(4, 3, 99)} {
		for _, first := range []string{"\xa2\x01\x00", "\xa1\xa2", "\xa2\x81\x01\x00"} {
			checkRows(t, first, "\x00\x01\x18\x61c\x80\x81\xa0\xa1\xa2\xc1", 4, l)
		}
	}
}

// drawn is an encoding, of items at most so deep, whose keys mostly rise.
func drawn(r *rand.Rand, deep int) string {
	n := r.Uint64() >> r.Intn(64)
	kind := r.Intn(9)
	if deep <= 1 && kind >= 4 && kind <= 6 {
		kind = r.Intn(4)
	}
	switch kind {
	case 0, 1:
		return headOf(kind, n)
	case 2:
		return blob(strings.Repeat("\xff\x00", r.Intn(5)))
	case 3:
		return text(strings.Repeat([]string{"a", "é", "€", "😀b"}[r.Intn(4)], r.Intn(5)))
	case 4:
		return list(drawnList(r, deep-1, r.Intn(4))...)
	case 5:
		return drawnMap(r, deep)
	case 6:
		return tag(n, drawn(r, deep-1))
	case 7:
		return []string{"\xe0", "\xf4", "\xf5", "\xf6", "\xf8\x20", "\xf8\xff"}[r.Intn(6)]
	}
	return []string{"\xf9\x3c\x00", "\xf9\x7e\x00", "\xf9\xfc\x00", "\xfa\x3d\xcc\xcc\xcd", "\xfb\x3f\xb9\x99\x99\x99\x99\x99\x9a"}[r.Intn(5)]
}

func drawnList(r *rand.Rand, deep, n int) []string {
	var l []string
	for range n {
		l = append(l, drawn(r, deep))
	}
	return l
}

func drawnMap(r *rand.Rand, deep int) string {
	keys := drawnList(r, deep-1, r.Intn(5))
	if r.Intn(20) > 0 {
		slices.Sort(keys)
		keys = slices.Compact(keys)
	}
	var l []string
	for _, k := range keys {
		l = append(l, k, drawn(r, deep-1))
	}
	return pairs(l...)
}

// harmed is b with some bytes changed, cut out, put in, or twice.
func harmed(r *rand.Rand, b string) string {
	for range r.Intn(3) {
		if len(b) == 0 {
			return b
		}
		i := r.Intn(len(b))
		j := min(len(b), i+r.Intn(4))
		switch r.Intn(4) {
		case 0:
			b = b[:i] + string([]byte{byte(r.Intn(256))}) + b[i+1:]
		case 1:
			b = b[:i] + b[j:]
		case 2:
			b = b[:i] + string([]byte{byte(r.Intn(256))}) + b[i:]
		case 3:
			b = b[:j] + b[i:]
		}
	}
	return b
}

// near are limits that b nearly needs, by what a reading tells.
func near(r *rand.Rand, b string) api.Limits {
	return limits(1+r.Intn(7), 1+r.Intn(12), max(1, len(b)+r.Intn(4)-1))
}

func TestDrawn(t *testing.T) { // P14.1, P14.2
	r := rand.New(rand.NewSource(42))
	count := map[api.Errno]int{}
	for i := range 60_000 {
		b := drawn(r, 1+i%6)
		if i%2 == 0 {
			b = harmed(r, b)
		}
		l := roomy
		if i%3 > 0 {
			l = near(r, b)
		}
		count[check(t, b, l).Error]++
	}
	for err := api.OK; err <= api.ErrTruncated; err++ {
		if count[err] < 100 && err != api.ErrSchema {
			t.Errorf("only %d of %v", count[err], err)
		}
	}
}

func TestDrawnBytes(t *testing.T) { // P14.2
	r := rand.New(rand.NewSource(14))
	for range 60_000 {
		b := make([]byte, r.Intn(12))
		r.Read(b)
		check(t, string(b), roomy)
	}
}

// itemOf is the item that b begins with, be it encoded as it may; false: there is none. With it comes what is behind.
func itemOf(b string, deep int) (x api.Item, rest string, ok bool) {
	if b == "" || deep > 64 {
		return
	}
	h, n, _ := readHead(b)
	if h == nil || n > len(b) {
		return
	}
	b = b[n:]
	items := uint64(0)
	switch x.Kind = h.Major; h.Major {
	case 0, 1:
		x.N = h.Arg
	case 2, 3:
		if h.Arg > uint64(len(b)) {
			return
		}
		x.S, b = b[:h.Arg], b[h.Arg:]
	case 4:
		items = h.Arg
	case 5:
		items = 2 * min(h.Arg, uint64(len(b)+1))
	case 6:
		x.N, items = h.Arg, 1
	case 7:
		x.N = h.Arg
		if h.Width > 1 {
			x = api.Item{Kind: api.Float, N: doubleOf(*h)}
		}
	}
	for range items {
		y, left, ok := itemOf(b, deep+1)
		if !ok {
			return x, "", false
		}
		x.L, b = append(x.L, y), left
	}
	return x, b, true
}

// doubleOf are the bits of a float's value as a double, of the one NaN if it is one.
func doubleOf(h head.Head) uint64 {
	v := math.Float64frombits(h.Arg)
	switch h.Width {
	case 2:
		v = halfValue(h.Arg)
	case 4:
		v = float64(math.Float32frombits(uint32(h.Arg)))
	}
	if math.IsNaN(v) {
		return 0x7ff8000000000000
	}
	return math.Float64bits(v)
}

// isEncoding tells whether b is the encoding of an item that fits the limits, by chapters 9 and 11.
func isEncoding(b string, l api.Limits) bool {
	x, rest, ok := itemOf(b, 1)
	if !ok || rest != "" || limit.Fits(x, l) != api.OK {
		return false
	}
	p, err := enc.Encode(x)
	return err == api.OK && string(p) == b
}

func TestJustTheEncodings(t *testing.T) { // P14.2
	r := rand.New(rand.NewSource(2))
	right := 0
	for i := range 60_000 {
		b := drawn(r, 1+i%6)
		if i%3 > 0 {
			b = harmed(r, b)
		}
		l := roomy
		if i%4 == 0 {
			l = near(r, b)
		}
		is := isEncoding(b, l)
		if is {
			right++
		}
		if v := Whole([]byte(b), l); (v == api.Verdict{}) != is {
			t.Fatalf("% x, %v: %v, want %v", b, l, v, is)
		}
	}
	if right < 20_000 || right > 40_000 {
		t.Errorf("%d are right", right)
	}
}

func TestJustTheEncodingsOfShortRows(t *testing.T) { // P14.2
	for _, l := range some() {
		for a := range 256 {
			for b := range 256 {
				row := []byte{byte(a), byte(b)}
				for n := range 3 {
					if v := Whole(row[:n], l); (v == api.Verdict{}) != isEncoding(string(row[:n]), l) {
						t.Fatalf("% x, %v: %v", row[:n], l, v)
					}
				}
			}
		}
	}
}

// items are some that may be, whose encodings are as their keys stand, or aren't.
func items() []api.Item {
	number := func(n uint64) api.Item { return api.Item{N: n} }
	word := func(s string) api.Item { return api.Item{Kind: api.Text, S: s} }
	of := func(kind int, l ...api.Item) api.Item { return api.Item{Kind: kind, L: l} }
	deep := number(24)
	for i := range 62 {
		deep = of([]int{api.Array, api.Tag}[i%2], deep)
	}
	return []api.Item{
		number(0), number(1 << 40), word(""), word("é"), of(api.Array), of(api.Map), of(api.Array, number(1), word("a"), of(api.Map)), of(api.Map, word("b"), number(1), word("a"), number(2)), of(api.Map, of(api.Map, word("bb"), of(api.Array), number(7), number(7)), word("x"), of(api.Array, word("abc")), of(api.Tag, word("y"))),
		deep, of(api.Array, deep), of(api.Map, number(5), deep), of(api.Map, word(strings.Repeat("k", 1021)), number(0)), of(api.Map, number(9), of(api.Map, of(api.Array, word("long enough")), word("long"))), {Kind: api.Float, N: math.Float64bits(1.5)}, {Kind: api.Float, N: math.Float64bits(0.1)}, {Kind: api.Simple, N: 22}, {Kind: api.Nint, N: math.MaxUint64},
	}
}

func TestWholeOfItems(t *testing.T) { // P14.2: the encoding of each item that fits, with the least limits, and with less
	for i, x := range items() {
		b, err := enc.Encode(x)
		needed, ok := limit.Needed(x)
		if err != api.OK || !ok || item.Check(x) != api.OK {
			t.Fatal(i, err, ok)
		}
		for _, l := range []api.Limits{needed, greatest, {Depth: needed.Depth - 1, Key: needed.Key, Size: needed.Size}, {Depth: needed.Depth, Key: needed.Key - 1, Size: needed.Size}, {Depth: needed.Depth, Key: needed.Key, Size: needed.Size - 1}} {
			fits := limit.Fits(x, l)
			v := Whole(b, l)
			if (v == api.Verdict{}) != (fits == api.OK) || v.Error != fits {
				t.Errorf("%d, %v: %v, but Fits tells %v", i, l, v, fits)
			}
		}
	}
}

func TestLong(t *testing.T) { // P14.1, P14.2: as much as the document promises anything of
	const n = 1 << 16
	var keys, values strings.Builder
	for i := range uint64(n) {
		keys.WriteString(number(i) + "\x61a")
		values.WriteString(number(i))
	}
	wide := headOf(5, n) + keys.String()
	for i, b := range []string{
		text(strings.Repeat("é", 1<<19-10)), blob(strings.Repeat("\xff", 1<<20-10)), headOf(4, n) + values.String(), wide, wrapped(wide, 63-1, "array"), list(text(strings.Repeat("€", n)), wide),
	} {
		for _, c := range []struct {
			b    string
			want api.Verdict
		}{{b, api.Verdict{}}, {b[:len(b)-1], at(len(b)-1, api.ErrTruncated)}, {b + "\x00", at(len(b), api.ErrSyntax)}, {b[:len(b)/2] + "\x1c" + b[len(b)/2+1:], read(b[:len(b)/2]+"\x1c"+b[len(b)/2+1:], greatest).verdict()}} {
			if v := Whole([]byte(c.b), greatest); v != c.want {
				t.Errorf("%d: %v, want %v", i, v, c.want)
			}
		}
		r, m := read(b, greatest), newMachine(t, greatest)
		got := 0
		events := r.right()
		for j := range len(b) {
			m.a.Step(b[j], func(e Event) {
				if got >= len(events) || (events[got] != told{j, e}) {
					t.Fatalf("%d, at %d: %v", i, j, e)
				}
				got++
			})
		}
		if got != len(events) || !m.a.Done() || m.a.Len() != len(b) || m.a.Cap() != m.cap {
			t.Errorf("%d: %d events of %d, %v, %d", i, got, len(events), m.a.Done(), m.a.Len())
		}
	}
}

func TestGreatArguments(t *testing.T) { // P14.1: what will never come whole goes on
	for _, first := range []string{"5b", "7b", "9b", "bb"} {
		for _, arg := range []string{"ffffffffffffffff", "8000000000000000", "7fffffffffffffff", "0000000100000000"} {
			b := hx(first + arg)
			for i := range 300 {
				b += string([]byte{0x18, byte(i/2%100 + 24)})[i%2 : i%2+1]
			}
			if first == "bb" { // its keys don't rise without end
				b = b[:9] + hx("00 01 01 01 02 01 03 01 18 18 01 18 19 01")
			}
			if v := check(t, b, roomy); v != at(len(b), api.ErrTruncated) {
				t.Errorf("%s%s: %v", first, arg, v)
			}
		}
	}
}

func TestNoMemoryBehindNew(t *testing.T) { // P14.1, R1
	b := []byte(hx("a3 61 61 82 01 a1 41 00 c1 80 61 62 f9 3c 00 a1 63 e2 82 ac a1 00 00 a1 00 81 a0") + "\x00\x00\xff")
	for _, l := range []api.Limits{roomy, greatest, limits(64, 1, 1<<20), limits(2, 1024, 1<<20)} {
		const runs = 100
		var all []*Auto
		for range runs + 2 {
			a, _ := New(l)
			all = append(all, a)
		}
		n, i := 0, 0
		tell := func(Event) { n++ }
		if made := testing.AllocsPerRun(runs, func() {
			a := all[i]
			i++
			for _, c := range b {
				a.Step(c, tell)
				a.Close()
				a.Done()
				a.Len()
				a.Cap()
			}
		}); made != 0 {
			t.Errorf("%v: %v made anew", l, made)
		}
		if n == 0 {
			t.Error("nothing was told")
		}
	}
}

func TestNothingIsChanged(t *testing.T) { // R4
	for _, s := range small() {
		want := []byte(hx(s))
		memory := append(slices.Clone(want), 0xff, 0xff)
		if v := Whole(memory[:len(want)], roomy); v != (api.Verdict{}) {
			t.Fatalf("%s: %v", s, v)
		}
		if !slices.Equal(memory[:len(want)], want) || memory[len(want)] != 0xff || memory[len(want)+1] != 0xff {
			t.Fatalf("%s was changed", s)
		}
	}
}

func TestEventsMayBeWrittenOver(t *testing.T) { // R4: an event is whoever's it was told to
	b := hx("a2 61 61 81 01 61 62 c1 00")
	a, _ := New(roomy)
	var got []told
	for i := range len(b) {
		err := a.Step(b[i], func(e Event) {
			got = append(got, told{i, e})
			e.Head, e.Deep, e.Kind, e.Byte = head.Head{Major: 9, Width: 9, Arg: 9}, -1, 99, 99
		})
		if err != api.OK {
			t.Fatal(i, err)
		}
	}
	if want := read(b, roomy).right(); !slices.Equal(got, want) || !a.Done() {
		t.Fatalf("%s, want %s", show(got), show(want))
	}
}

func TestSideBySide(t *testing.T) { // R4, R6
	rows := []string{hx("a2 61 61 00 61 62 00"), hx("a2 61 62 00 61 61 00"), hx("62 c3 a9"), hx("82 62 c3 a9 61 a9"), hx("a1 a1 19 01 00 80 81 00"), hx("18 17")}
	var all []*machine
	for range 3 {
		for range rows {
			all = append(all, newMachine(t, limits(4, 6, 8)))
		}
	}
	for i := range 9 {
		for j, m := range all {
			if b := rows[j%len(rows)]; i < len(b) {
				m.step(b[i])
				m.same(read(b[:i+1], m.l))
			}
		}
	}
	for j, m := range all {
		if want := read(rows[j%len(rows)], m.l).right(); !slices.Equal(m.events, want) {
			t.Errorf("%d: %s, want %s", j, show(m.events), show(want))
		}
	}
}

func TestTellMayAsk(t *testing.T) { // R6: what tell asks changes nothing
	b := hx("a2 61 61 81 01 61 62 c1 00 00")
	a, _ := New(roomy)
	var got []told
	for i := range len(b) {
		a.Step(b[i], func(e Event) {
			got = append(got, told{i, e})
			a.Close()
			a.Done()
			a.Len()
			a.Cap()
		})
	}
	if want := read(b, roomy).right(); !slices.Equal(got, want) || a.Close() != at(9, api.ErrSyntax) {
		t.Fatalf("%s, want %s; %v", show(got), show(want), a.Close())
	}
}

func TestKeysThatAreAlikeOnceSorted(t *testing.T) { // P14.1: such an item may be by chapter 8, but its keys don't rise by chapter 10
	number := func(n uint64) api.Item { return api.Item{N: n} }
	key := func(l ...api.Item) api.Item { return api.Item{Kind: api.Map, L: l} }
	x := key(key(number(1), number(0), number(2), number(0)), number(3), key(number(2), number(0), number(1), number(0)), number(4))
	b, err := enc.Encode(x)
	if err != api.OK {
		t.Fatal(err)
	}
	if v := check(t, string(b), roomy); v != at(11, api.ErrKeyOrder) {
		t.Errorf("% x: %v", b, v)
	}
}
