package order

import (
	"bytes"
	"math"
	"slices"
	"strings"
	"testing"

	"ullage/api"
)

// isAhead works out Ahead from the words, byte by byte.
func isAhead(a, b string) bool {
	for i := range len(a) {
		if i >= len(b) {
			return false
		}
		if a[i] != b[i] {
			return a[i] < b[i]
		}
	}
	return len(a) < len(b)
}

// texts are all those of at most so many of these bytes.
func texts(most int, of string) []string {
	all, from := []string{""}, 0
	for range most {
		to := len(all)
		for _, s := range all[from:to] {
			for i := range len(of) {
				all = append(all, s+of[i:i+1])
			}
		}
		from = to
	}
	return all
}

// model is what the chapter says of a Keys, with all keys that were ended kept as texts.
type model struct {
	most  int
	ended []string
	key   string
}

func newModel(most int) *model {
	if most < 0 {
		most = 0
	}
	if most > 1024 {
		most = 1024
	}
	return &model{most: most}
}

func (m *model) put(c byte) bool {
	if len(m.key) == m.most {
		return false
	}
	m.key += string([]byte{c})
	return true
}

func (m *model) end() bool {
	rises := len(m.ended) == 0 || isAhead(m.ended[len(m.ended)-1], m.key)
	m.ended = append(m.ended, m.key)
	m.key = ""
	return rises
}

func (m *model) reset() { m.ended, m.key = nil, "" }

// pair is a Keys beside its model, and what its Cap was at New.
type pair struct {
	k   *Keys
	m   *model
	cap int
}

func newPair(t *testing.T, most int) *pair {
	t.Helper()
	p := &pair{New(most), newModel(most), 0}
	p.cap = p.k.Cap()
	p.same(t, "New")
	return p
}

// same holds what may be asked without a change against the model.
func (p *pair) same(t *testing.T, where string) {
	t.Helper()
	if got := p.k.Len(); got != len(p.m.key) {
		t.Fatalf("%s: Len = %d, want %d (most %d, ended %q, key %q)", where, got, len(p.m.key), p.m.most, p.m.ended, p.m.key)
	}
	if got := p.k.Cap(); got != p.cap || got < 0 || got > 2*p.m.most {
		t.Fatalf("%s: Cap = %d, at New %d, most %d", where, got, p.cap, p.m.most)
	}
}

func (p *pair) put(t *testing.T, c byte) {
	t.Helper()
	if got, want := p.k.Byte(c), p.m.put(c); got != want {
		t.Fatalf("Byte(%q) = %v (most %d, ended %q, key %q)", c, got, p.m.most, p.m.ended, p.m.key)
	}
	p.same(t, "Byte")
}

func (p *pair) end(t *testing.T) {
	t.Helper()
	key := p.m.key
	if got, want := p.k.End(), p.m.end(); got != want {
		t.Fatalf("End of %q = %v (most %d, ended %q)", key, got, p.m.most, p.m.ended)
	}
	p.same(t, "End")
}

func (p *pair) reset(t *testing.T) {
	t.Helper()
	p.k.Reset()
	p.m.reset()
	p.same(t, "Reset")
}

func (p *pair) write(t *testing.T, s string) {
	t.Helper()
	for i := range len(s) {
		p.put(t, s[i])
	}
}

// ends hands k a key, and tells what End answers.
func ends(k *Keys, s string) bool {
	for i := range len(s) {
		k.Byte(s[i])
	}
	return k.End()
}

// mosts are numbers at both sides of the bounds of New, and far from them.
var mosts = []int{math.MinInt, math.MinInt + 1, -1 << 32, -1024, -2, -1, 0, 1, 2, 3, 63, 64, 65, 255, 256, 257, 1022, 1023, 1024, 1025, 1026, 2047, 2048, 4096, 1 << 20, 1 << 31, 1 << 32, math.MaxInt - 1, math.MaxInt}

func TestExample(t *testing.T) { // P10.2
	k := New(api.MaxKey)
	for i, c := range []struct {
		key  string
		want bool
	}{{"a", true}, {"b", true}, {"a", false}} {
		if got := ends(k, c.key); got != c.want {
			t.Errorf("End of key %d, %q = %v", i, c.key, got)
		}
	}
}

func TestAheadKnown(t *testing.T) { // P10.1
	long := strings.Repeat("k", 1024)
	for _, c := range []struct {
		a, b  string
		ahead bool
	}{
		{"", "", false}, {"", "a", true}, {"a", "", false}, {"", "\x00", true}, {"\x00", "", false},
		{"a", "a", false}, {"a", "b", true}, {"b", "a", false},
		{"abc", "bbc", true}, {"bbc", "abc", false}, // the first byte
		{"abc", "abd", true}, {"abd", "abc", false}, // the last one
		{"abc", "abc", false},
		{"a", "aa", true}, {"aa", "a", false}, {"ab", "abc", true}, {"abc", "ab", false}, // one begins the other
		{"a", "a\x00", true}, {"a\x00", "a", false},
		{"b", "aa", false}, {"aa", "b", true}, // shorter isn't ahead, but for what it begins
		{"a\xff", "b", true}, {"b", "a\xff", false},
		{"\x7f", "\x80", true}, {"\x80", "\x7f", false}, {"\x00", "\xff", true}, {"\xff", "\x00", false}, // bytes have no sign
		{"\x61\x61", "\x02", false}, {"\x02", "\x61\x61", true},
		{"az", "ba", true}, {"ba", "az", false}, // a byte further on plays no part
		{long, long, false}, {long, long + "k", true}, {long + "k", long, false}, {long[1:], long, true}, {"j" + long, long, true},
	} {
		if got := Ahead([]byte(c.a), []byte(c.b)); got != c.ahead {
			t.Errorf("Ahead(%.20q, %.20q) = %v", c.a, c.b, got)
		}
	}
}

func TestAheadNil(t *testing.T) { // P10.1, R3
	for _, none := range [][]byte{nil, {}} {
		for _, other := range [][]byte{nil, {}} {
			if Ahead(none, other) {
				t.Errorf("Ahead(%#v, %#v)", none, other)
			}
		}
		for _, some := range [][]byte{{0}, {255}, []byte("ab")} {
			if !Ahead(none, some) || Ahead(some, none) {
				t.Errorf("Ahead of %#v and %q", none, some)
			}
		}
	}
}

func TestAheadPairs(t *testing.T) { // P10.1
	all := texts(4, "\x00a\x80\xff")
	for _, a := range all {
		for _, b := range all {
			if got := Ahead([]byte(a), []byte(b)); got != isAhead(a, b) || got != (a < b) {
				t.Fatalf("Ahead(%q, %q) = %v", a, b, got)
			}
		}
	}
	for a := range 256 {
		for b := range 256 {
			for _, s := range []string{"", "x", "ullage"} {
				if got := Ahead([]byte{byte(a)}, []byte{byte(b)}); got != (a < b) {
					t.Fatalf("Ahead of %d, %d = %v", a, b, got)
				}
				if got := Ahead(append([]byte(s), byte(a), 'z'), append([]byte(s), byte(b), 'a')); got != (a < b) && a != b {
					t.Fatalf("Ahead of %d, %d behind %q = %v", a, b, s, got)
				}
			}
		}
	}
}

func TestAheadLong(t *testing.T) { // P10.1
	same := bytes.Repeat([]byte{7}, 1100)
	for at := range same {
		more := slices.Clone(same)
		more[at] = 8
		more = more[:max(at+1, 1100-3*at)] // shorter or not
		if !Ahead(same, more) || Ahead(more, same) {
			t.Fatal("they differ at", at)
		}
		if begins := same[:at]; !Ahead(begins, same) || Ahead(same, begins) || Ahead(begins, begins) {
			t.Fatal("one begins the other, of", at)
		}
	}
	a, b := bytes.Repeat([]byte{1}, 1<<20), bytes.Repeat([]byte{1}, 1<<20)
	if Ahead(a, b) {
		t.Fatal("Ahead of a long one and itself")
	}
	if b[len(b)-1] = 2; !Ahead(a, b) || Ahead(b, a) {
		t.Fatal("Ahead of long ones that differ in the last byte")
	}
}

func TestAheadMemory(t *testing.T) { // R4, R6
	for _, c := range [][2]string{{"ab", "ac"}, {"ab", "ab"}, {"ab", "abc"}, {"", "a"}, {"b", "aa"}} {
		var got []bool
		for _, behind := range []string{"", "\x00\x00\x00\x00", "\xff\xff\xff\xff", "czx"} {
			a, b := []byte(c[0]+behind), []byte(c[1]+"\x01\x02")
			got = append(got, Ahead(a[:len(c[0])], b[:len(c[1])]), Ahead(a[:len(c[0])], b[:len(c[1])]))
			if string(a) != c[0]+behind || string(b) != c[1]+"\x01\x02" {
				t.Fatalf("Ahead(%q, %q) wrote to what it was handed: %q, %q", c[0], c[1], a, b)
			}
		}
		for _, x := range got {
			if x != isAhead(c[0], c[1]) {
				t.Fatalf("Ahead(%q, %q), with other bytes behind: %v", c[0], c[1], got)
			}
		}
	}
	whole := []byte("aab")
	if Ahead(whole, whole) || !Ahead(whole[:1], whole) || !Ahead(whole[:2], whole[1:]) || Ahead(whole[2:], whole) {
		t.Fatal("Ahead of pieces of one memory")
	}
}

func TestNew(t *testing.T) { // P10.2, R1
	for _, most := range mosts {
		p := newPair(t, most)
		fit := 0
		for range 3000 {
			if p.k.Byte('k') {
				fit++
			}
		}
		if fit != p.m.most {
			t.Errorf("New(%d): %d bytes fit, want %d", most, fit, p.m.most)
		}
		if most >= 0 && most <= api.MaxKey && fit != most {
			t.Errorf("New(%d): %d bytes fit", most, fit)
		}
		if q := newPair(t, most); !q.k.End() || q.k.End() {
			t.Errorf("New(%d): End of a first key without bytes, or of a second one", most)
		}
	}
}

func TestFull(t *testing.T) { // P10.2
	for _, most := range []int{0, 1, 2, 3, 8, 1023, 1024} {
		key := strings.Repeat("k", most)
		for _, behind := range []string{"", "a", "kkk", "\xff\x00z"} {
			p := newPair(t, most)
			p.write(t, key+behind) // the bytes behind tell false
			if p.k.Len() != most {
				t.Fatalf("Len = %d, most %d", p.k.Len(), most)
			}
			p.end(t)
			p.write(t, key+"\xff") // no more than that key again
			p.end(t)
			if most == 0 {
				continue
			}
			p.write(t, key[1:]) // one byte less
			p.end(t)
			p.write(t, key[1:]+"l")
			p.end(t)
			p.write(t, key+"m")
			p.end(t)
		}
	}
}

func TestFullGoesOn(t *testing.T) { // P10.2
	k := New(2)
	if !ends(k, "ab") {
		t.Fatal("the first key")
	}
	k.Byte('a')
	k.Byte('b')
	for range 3 {
		if k.Byte('z') || k.Len() != 2 {
			t.Fatal("a third byte")
		}
	}
	if k.End() {
		t.Fatal("ab came behind ab: the byte that told false counted")
	}
	if !ends(k, "b") || ends(k, "abz") || !ends(k, "ac") {
		t.Fatal("keys behind a full one")
	}
}

func TestEnd(t *testing.T) { // P10.2
	for _, c := range []struct {
		keys []string
		want string // of each End: r, it rises, or f
	}{
		{[]string{"a", "b", "c"}, "rrr"},
		{[]string{"a", "a"}, "rf"},
		{[]string{"a", "a", "a", "b"}, "rffr"},
		{[]string{"c", "b", "a"}, "rff"},
		{[]string{"a", "aa", "aaa"}, "rrr"},
		{[]string{"aaa", "aa", "a", ""}, "rfff"},
		{[]string{"", "", "", "a", ""}, "rffrf"},
		{[]string{"", "\x00", "\x00\x00", "\x01"}, "rrrr"},
		{[]string{"a", "", "a"}, "rfr"},
		{[]string{"z", "b", "c"}, "rfr"}, // c comes behind b, which was ended last
		{[]string{"b", "a", "b", "a", "b"}, "rfrfr"},
		{[]string{"b", "a", "a", "b", "b"}, "rffrf"},
		{[]string{"a\xff", "b", "a\xff", "b"}, "rrfr"},
		{[]string{"\x7f", "\x80", "\xff", "\x00"}, "rrrf"},
		{[]string{"aa", "b", "ab", "abc", "b", "aaaa"}, "rrfrrf"},
		{[]string{"\x61\x61", "\x61\x62", "\x62\x61", "\x0a"}, "rrrf"},
		{[]string{"longer than all others", "m", "longer", "longer still"}, "rrfr"},
	} {
		k, p, got := New(api.MaxKey), newPair(t, api.MaxKey), ""
		for _, key := range c.keys {
			if ends(k, key) {
				got += "r"
			} else {
				got += "f"
			}
			p.write(t, key)
			p.end(t)
		}
		if got != c.want {
			t.Errorf("the keys %q: %s, want %s", c.keys, got, c.want)
		}
	}
}

func TestKeysOfThree(t *testing.T) { // P10.2
	all := texts(2, "\x00b\xff")
	for _, a := range all {
		for _, b := range all {
			for _, c := range all {
				k := New(2)
				if got := [3]bool{ends(k, a), ends(k, b), ends(k, c)}; got != [3]bool{true, isAhead(a, b), isAhead(b, c)} {
					t.Fatalf("the keys %q, %q, %q: %v", a, b, c, got)
				}
			}
		}
	}
}

func TestManyKeys(t *testing.T) { // P10.2
	k := New(3)
	for n := range 1 << 16 {
		key := string([]byte{byte(n >> 8), byte(n)})
		if !ends(k, key) || k.Len() != 0 {
			t.Fatalf("key %d", n)
		}
		switch n % 4 { // keys that don't rise change which of the lists is ahead
		case 1:
			if ends(k, key) {
				t.Fatalf("key %d again", n)
			}
		case 2:
			if ends(k, key[:1]) || !ends(k, key) || !ends(k, key+"\x00") || ends(k, key) {
				t.Fatalf("keys about key %d", n)
			}
		}
	}
	for n := 1<<16 - 1; n > 0; n-- {
		if ends(k, string([]byte{byte(n >> 8), byte(n)})) {
			t.Fatalf("key %d, falling", n)
		}
	}
}

func TestLongKeysInARow(t *testing.T) { // P10.2
	p := newPair(t, 1024)
	for n := range 40 { // long and short ones by turns in each of the lists
		length := []int{1024, 0, 1, 1023, 512, 1024, 3}[n%7]
		p.write(t, strings.Repeat(string([]byte{byte('a' + n%5)}), length))
		p.end(t)
	}
}

func TestReset(t *testing.T) { // P10.2
	for _, before := range [][]string{nil, {"z"}, {"z", "y"}, {"z", "y", "z"}, {""}, {"", ""}} {
		for _, begun := range []string{"", "b", "zz", "zzzz"} {
			for _, times := range []int{1, 2, 3} {
				p := newPair(t, 3)
				for _, key := range before {
					p.write(t, key)
					p.end(t)
				}
				p.write(t, begun)
				for range times {
					p.reset(t)
				}
				if p.k.Len() != 0 {
					t.Fatal("Len behind Reset:", p.k.Len())
				}
				for _, key := range []string{"", "", "a", "abcd", "abc", "zzz", "y"} { // the first one rises, though nothing is less
					p.write(t, key)
					p.end(t)
				}
			}
		}
	}
}

func TestResetBetween(t *testing.T) { // P10.2
	k := New(4)
	ends(k, "b")
	k.Byte('a')
	k.Reset()
	if k.Len() != 0 || !k.End() { // no byte of the key that was begun, and none ahead
		t.Fatal("Reset in the middle of a key")
	}
	if !ends(k, "a") || ends(k, "a") {
		t.Fatal("keys behind Reset")
	}
	k.Reset()
	if !ends(k, "a") || ends(k, "a") {
		t.Fatal("Reset behind an End")
	}
}

func TestAllCalls(t *testing.T) { // P10.2
	const calls = "ab.!" // bytes, End, Reset
	for most := range 4 {
		var walk func(done string)
		walk = func(done string) {
			p := newPair(t, most)
			for i := range len(done) {
				switch done[i] {
				case '.':
					p.end(t)
				case '!':
					p.reset(t)
				default:
					p.put(t, done[i])
				}
			}
			if len(done) < 7 {
				for i := range len(calls) {
					walk(done + calls[i:i+1])
				}
			}
		}
		walk("")
	}
}

func TestMadeCalls(t *testing.T) { // P10.2
	x := uint32(10)
	next := func(n int) int {
		x = x*1664525 + 1013904223
		return int(x>>8) % n
	}
	for _, most := range []int{0, 1, 2, 5, 100, 1024, 5000} {
		p := newPair(t, most)
		for range 3000 {
			switch next(40) {
			case 0:
				p.reset(t)
			case 1, 2, 3, 4, 5, 6, 7, 8:
				p.end(t)
			case 9:
				for range next(30) {
					p.put(t, byte(next(256)))
				}
			default:
				p.put(t, "\x00a\xff"[next(3)])
			}
		}
	}
}

func TestCap(t *testing.T) { // P10.2
	for _, most := range mosts {
		if a, b := New(most).Cap(), New(most).Cap(); a != b {
			t.Errorf("Cap of two made for %d: %d, %d", most, a, b)
		}
	}
	k := New(api.MaxKey)
	key := strings.Repeat("k", api.MaxKey+1)
	if n := testing.AllocsPerRun(20, func() { // what Cap tells is all there is
		ends(k, key)
		ends(k, key)
		ends(k, "l")
		k.Reset()
	}); n != 0 {
		t.Error("memory was made behind New:", n)
	}
}

func TestHoldsWhatCapTells(t *testing.T) { // P10.2
	for _, most := range mosts {
		k := New(most)
		held := 0
		for _, key := range k.keys {
			held += cap(key)
		}
		if k.Cap() != held {
			t.Errorf("New(%d): Cap = %d, but %d bytes are held", most, k.Cap(), held)
		}
	}
}

func TestSideBySide(t *testing.T) { // P10.2
	a, b, c := newPair(t, 3), newPair(t, 3), newPair(t, 1)
	for i, key := range []string{"a", "b", "ab", "", "abc", "b", "bb", "bbbb", "a"} {
		for j := range max(len(key), 2) {
			if j < len(key) {
				a.put(t, key[j])
				c.put(t, key[j])
			}
			b.put(t, byte('z'-i))
		}
		a.end(t)
		if i%2 == 0 {
			b.end(t)
		}
		if i%3 == 2 {
			c.reset(t)
		}
		c.end(t)
	}
	a.reset(t)
	b.end(t)
	c.end(t)
}

func TestSame(t *testing.T) { // R6
	for range 3 {
		a, b := New(2), New(2)
		for _, key := range []string{"b", "a", "a", "abc", "", "\xff"} {
			if ends(a, key) != ends(b, key) || a.Len() != b.Len() || a.Cap() != b.Cap() {
				t.Fatal("two Keys differ behind", key)
			}
		}
	}
}

func TestNil(t *testing.T) { // P10.2, P1
	var k *Keys
	for range 2 {
		if k.Byte('a') || k.Byte(0) || k.End() || k.Len() != 0 || k.Cap() != 0 {
			t.Fatal("a nil *Keys")
		}
		k.Reset()
	}
}
