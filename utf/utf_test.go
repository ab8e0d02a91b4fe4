package utf

import (
	"strings"
	"testing"
	"unicode/utf8"
)

// rows are those of the chapter's table: the bounds of a sign's first byte, and of each one behind it.
var rows = [][][2]byte{
	{{0x00, 0x7f}},
	{{0xc2, 0xdf}, {0x80, 0xbf}},
	{{0xe0, 0xe0}, {0xa0, 0xbf}, {0x80, 0xbf}},
	{{0xe1, 0xec}, {0x80, 0xbf}, {0x80, 0xbf}},
	{{0xee, 0xef}, {0x80, 0xbf}, {0x80, 0xbf}},
	{{0xed, 0xed}, {0x80, 0x9f}, {0x80, 0xbf}},
	{{0xf0, 0xf0}, {0x90, 0xbf}, {0x80, 0xbf}, {0x80, 0xbf}},
	{{0xf1, 0xf3}, {0x80, 0xbf}, {0x80, 0xbf}, {0x80, 0xbf}},
	{{0xf4, 0xf4}, {0x80, 0x8f}, {0x80, 0xbf}, {0x80, 0xbf}},
}

// edges are the bytes at both sides of every bound of the table, and some others.
var edges = []byte{
	0x00, 0x01, 'a', 0x7e, 0x7f, 0x80, 0x81, 0x8e, 0x8f, 0x90, 0x91, 0x9e, 0x9f, 0xa0, 0xa1, 0xbe, 0xbf,
	0xc0, 0xc1, 0xc2, 0xc3, 0xde, 0xdf, 0xe0, 0xe1, 0xec, 0xed, 0xee, 0xef, 0xf0, 0xf1, 0xf3, 0xf4, 0xf5, 0xf8, 0xfc, 0xfe, 0xff,
}

// beginsSign tells whether s, which isn't empty, is what a sign begins with, and whether it is the whole of one.
func beginsSign(s string) (begins, whole bool) {
	for _, row := range rows {
		if len(s) > len(row) {
			continue
		}
		fits := true
		for i := range len(s) {
			fits = fits && s[i] >= row[i][0] && s[i] <= row[i][1]
		}
		if fits {
			return true, len(s) == len(row)
		}
	}
	return false, false
}

// want is what First and Valid answer of s, sign by sign.
func want(s string) (first int, valid bool) {
	from := 0
	for i := range len(s) {
		begins, whole := beginsSign(s[from : i+1])
		if !begins {
			return i, false
		}
		if whole {
			from = i + 1
		}
	}
	return -1, from == len(s)
}

// check holds Valid, First and a Walk against want, of s and of all that it begins with.
func check(t *testing.T, s string) {
	t.Helper()
	first, valid := want(s)
	if valid != utf8.ValidString(s) {
		t.Fatalf("the test's own table is wrong of %q", s)
	}
	if got := Valid(s); got != valid {
		t.Fatalf("Valid(%q) = %v", s, got)
	}
	if got := First(s); got != first {
		t.Fatalf("First(%q) = %d, want %d", s, got, first)
	}
	var w Walk
	for i := range len(s) {
		if got, right := w.Step(s[i]), first < 0 || i < first; got != right {
			t.Fatalf("Step of byte %d of %q = %v", i, s, got)
		}
	}
	if w.Done() != valid {
		t.Fatalf("Done behind %q = %v", s, w.Done())
	}
}

func TestKnown(t *testing.T) { // P4.1, P4.2
	for _, c := range []struct {
		s     string
		first int
		valid bool
	}{
		{"a\xed\xa0", 2, false}, // the chapter's example
		{"", -1, true},
		{"a", -1, true},
		{"\x00\x7f", -1, true},
		{"ullage", -1, true},
		{"h\xc3\xa9 \xe2\x82\xac \xf0\x9f\x98\x80 z", -1, true},
		{"\xef\xbb\xbfa", -1, true}, // what marks the order of bytes is a sign like others
		{"\xef\xbf\xbd", -1, true},  // so is the one that stands for wrong bytes
		{"\xef\xbf\xbe\xef\xbf\xbf", -1, true},
		{"\xf4\x8f\xbf\xbf", -1, true}, // the last sign of all
		{"\xf4\x90\x80\x80", 1, false}, // one behind it
		{"\xc3", -1, false},
		{"a\xc3", -1, false},
		{"\xe2\x82", -1, false},
		{"\xf0\x9f\x98", -1, false},
		{"\x80", 0, false},
		{"\xc3\xa9\x80", 2, false}, // a following byte too many
		{"\xc0\x80", 0, false},     // 0 in two bytes
		{"\xe0\x80\x80", 1, false}, // in three
		{"\xf0\x80\x80\x80", 1, false},
		{"\xed\xa0\x80\xed\xb0\x80", 1, false}, // a pair of UTF-16
		{"\xf8\x88\x80\x80\x80", 0, false},
		{"a\xffb", 1, false},
		{"ab\xe2\x82a", 4, false},
		{"\xe2\x82\xe2\x82\xac", 2, false},
		{"\xc3\xff\xff", 1, false}, // the first one, not the last
	} {
		if got := First(c.s); got != c.first {
			t.Errorf("First(%q) = %d, want %d", c.s, got, c.first)
		}
		if got := Valid(c.s); got != c.valid {
			t.Errorf("Valid(%q) = %v", c.s, got)
		}
		check(t, c.s)
	}
}

func TestRowsAtTheirBounds(t *testing.T) { // P4.1, P4.2
	for _, row := range rows {
		for _, low := range []int{0, 1} {
			sign := make([]byte, len(row))
			for i := range row {
				sign[i] = row[i][low]
			}
			if s := string(sign); !Valid(s) || First(s) != -1 {
				t.Errorf("%q is no sign", s)
			}
			for i, bound := range row {
				for _, c := range []byte{bound[0] - 1, bound[0], bound[1], bound[1] + 1} { // these go round at 0, which is as good
					old := sign[i]
					sign[i] = c
					for _, rest := range []string{"", "a", "\x80", "\xc3\xa9", "\xff"} {
						check(t, string(sign)+rest)
						check(t, "z"+string(sign[:i+1])+rest)
					}
					sign[i] = old
				}
			}
		}
	}
}

func TestTwoBytes(t *testing.T) { // P4.1, P4.2
	for c := range 256 {
		check(t, string([]byte{byte(c)}))
		for d := range 256 {
			for _, rest := range []string{"", "\x7f", "\x80", "\xbf", "\xc0", "\x80\xbf", "\xbf\x80\x80"} {
				check(t, string([]byte{byte(c), byte(d)})+rest)
				check(t, "a"+string([]byte{byte(c), byte(d)})+rest)
			}
		}
	}
}

func TestEdgesBehindOneAnother(t *testing.T) { // P4.1, P4.2
	for _, c := range edges {
		for _, d := range edges {
			for _, e := range edges {
				check(t, string([]byte{c, d, e}))
				if c < 0xc0 || d < 0x80 || d > 0xbf {
					continue
				}
				for _, f := range edges {
					check(t, string([]byte{c, d, e, f}))
					check(t, string([]byte{c, d, e, f, 0x80}))
				}
			}
		}
	}
}

func TestEverySign(t *testing.T) { // P4.1, P4.2
	var w Walk
	for r := range rune(utf8.MaxRune + 1) {
		if r >= 0xd800 && r <= 0xdfff {
			continue // halves of pairs aren't signs
		}
		s := string(r)
		if !Valid(s) || First(s) != -1 {
			t.Fatalf("%x is no sign", r)
		}
		for i := range len(s) {
			if !w.Step(s[i]) || w.Done() != (i == len(s)-1) {
				t.Fatalf("byte %d of the sign %x", i, r)
			}
		}
	}
}

func TestEndsWithinASign(t *testing.T) { // P4.1, P4.2
	for _, before := range []string{"", "a", "\xc3\xa9", "\xf0\x9f\x98\x80"} {
		for _, sign := range []string{"\xc2\x80", "\xdf\xbf", "\xe0\xa0\x80", "\xed\x9f\xbf", "\xef\xbf\xbf", "\xf0\x90\x80\x80", "\xf3\xbf\xbf\xbf", "\xf4\x8f\xbf\xbf"} {
			for n := 1; n < len(sign); n++ {
				s := before + sign[:n]
				if Valid(s) || First(s) != -1 {
					t.Errorf("%q: %v, %d", s, Valid(s), First(s))
				}
				if First(s+"a") != len(s) || First(s+sign) != len(s) {
					t.Errorf("%q and a new sign: %d, %d", s, First(s+"a"), First(s+sign))
				}
				check(t, s)
			}
		}
	}
}

func TestFalseStaysFalse(t *testing.T) { // P4.1
	for _, s := range []string{"\x80", "\xc1", "\xff", "a\xbf", "\xc3a", "\xe0\x9f", "\xe2\x82a", "\xed\xa0", "\xf0\x8f", "\xf4\x90", "\xf1\x80\x80\xc0"} {
		var w Walk
		for i := range len(s) {
			if w.Step(s[i]) != (i < len(s)-1) {
				t.Fatalf("byte %d of %q", i, s)
			}
		}
		for c := range 256 {
			if w.Step(byte(c)) || w.Done() {
				t.Fatalf("%q, and more up to %x: taken again", s, c)
			}
		}
		for _, c := range []byte("a\x80\xac\xe2\x82\xac a") { // what would go on with the sign, and what would be one
			if w.Step(c) || w.Done() {
				t.Fatalf("%q, and more: taken again", s)
			}
		}
		w.Reset()
		whole(t, &w)
	}
}

// whole sees to it that w stands ahead of all: it takes a text, and no bytes that go on with a sign.
func whole(t *testing.T, w *Walk) {
	t.Helper()
	if !w.Done() {
		t.Fatal("nothing so far isn't a text")
	}
	for _, c := range []byte{0x80, 0xbf} {
		ahead := *w
		if ahead.Step(c) {
			t.Fatalf("%x goes on with a sign ahead of all", c)
		}
	}
	for i, c := range []byte("a\xe2\x82\xac") {
		if !w.Step(c) || w.Done() != (i == 0 || i == 3) {
			t.Fatalf("byte %d of a text", i)
		}
	}
}

func TestReset(t *testing.T) { // P4.1
	for _, s := range []string{"", "a", "\xc3", "\xe0", "\xe0\xa0", "\xe2\x82\xac", "\xed", "\xf0", "\xf0\x9f", "\xf0\x9f\x98", "\xf4", "\xff", "\xf4\x90"} {
		var w Walk
		for i := range len(s) {
			w.Step(s[i])
		}
		w.Reset()
		whole(t, &w)
		w.Reset()
		w.Reset()
		whole(t, &w)
	}
}

func TestNilWalk(t *testing.T) { // P4.1, P1
	var w *Walk
	for c := range 256 {
		if w.Step(byte(c)) || w.Done() {
			t.Fatalf("a nil *Walk takes %x", c)
		}
		w.Reset()
		if w.Done() || w != nil {
			t.Fatal("a nil *Walk is reset")
		}
	}
}

func TestZeroWalk(t *testing.T) { // P4.1
	whole(t, new(Walk))
	whole(t, &Walk{})
	for c := range 256 {
		var w Walk
		begins, done := beginsSign(string([]byte{byte(c)}))
		if w.Step(byte(c)) != begins || w.Done() != done {
			t.Errorf("%x as the first byte", c)
		}
	}
}

func TestDoneChangesNothing(t *testing.T) { // P4.1, R6
	s := "a\xe2\x82\xac\xf0\x9f\x98\x80\xffa"
	var asked, silent Walk
	for i := range len(s) {
		for range 3 {
			asked.Done()
		}
		if asked.Step(s[i]) != silent.Step(s[i]) || asked.Done() != silent.Done() {
			t.Fatalf("byte %d", i)
		}
	}
	if Valid(s) != Valid(s) || First(s) != First(s) || First(s) != 8 {
		t.Errorf("of one text: %v, %d", Valid(s), First(s))
	}
}

func TestWalksApart(t *testing.T) { // P4.1, R6
	var one, other Walk
	one.Step(0xe2)
	whole(t, &other)
	if !one.Step(0x82) || one.Done() || !one.Step(0xac) || !one.Done() {
		t.Error("a walk hangs on another one")
	}
	one.Step(0xff)
	if !other.Step('a') || !other.Done() || one.Done() {
		t.Error("a wrong walk tells of another one")
	}
}

func TestLongTexts(t *testing.T) { // P4.1, P4.2
	const n = 1 << 20
	for _, sign := range []string{"a", "\xc3\xa9", "\xf0\x9f\x98\x80"} {
		s := strings.Repeat(sign, n/len(sign))
		if !Valid(s) || First(s) != -1 {
			t.Errorf("many %q: %v, %d", sign, Valid(s), First(s))
		}
		if Valid(s+"\xff") || First(s+"\xff") != n {
			t.Errorf("many %q and ff: %v, %d", sign, Valid(s+"\xff"), First(s+"\xff"))
		}
		if Valid(s+"\xe2\x82") || First(s+"\xe2\x82") != -1 {
			t.Errorf("many %q and half a sign: %v, %d", sign, Valid(s+"\xe2\x82"), First(s+"\xe2\x82"))
		}
	}
}
