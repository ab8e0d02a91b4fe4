package hex

import (
	"fmt"
	"math"
	"slices"
	"strings"
	"testing"
)

// samples are lists of bytes of several lengths, with all kinds of halves.
var samples = [][]byte{
	nil, {}, {0}, {0x0f}, {0xf0}, {0xff}, {1, 2, 3}, {0, 0, 0, 0}, {0x09, 0x0a, 0x90, 0xa0, 0x9a, 0xa9},
	{0xde, 0xad, 0xbe, 0xef}, {0x01, 0x23, 0x45, 0x67, 0x89, 0xab, 0xcd, 0xef}, []byte("ullage"), slices.Repeat([]byte{0x7f, 0x80}, 100),
}

// want is the digits of b, as the library's own printing has them.
func want(b []byte) string {
	s := ""
	for _, c := range b {
		s += fmt.Sprintf("%02x", c)
	}
	return s
}

// wrong sees to it that Take answers nothing but false.
func wrong(t *testing.T, s string) {
	t.Helper()
	if b, ok := Take(s); ok || len(b) != 0 {
		t.Errorf("Take(%q) = %x, %v", s, b, ok)
	}
}

// right sees to it that s are the digits of b, either way.
func right(t *testing.T, b []byte, s string) {
	t.Helper()
	if got := Put(b); got != s {
		t.Errorf("Put(%v) = %q, want %q", b, got, s)
	}
	if got, ok := Take(s); !ok || !slices.Equal(got, b) {
		t.Errorf("Take(%q) = %v, %v, want %v", s, got, ok, b)
	}
}

func isDigit(c byte) bool { return c >= '0' && c <= '9' || c >= 'a' && c <= 'f' }

func TestKnown(t *testing.T) { // P5.1
	right(t, nil, "")
	right(t, []byte{}, "")
	right(t, []byte{0}, "00")
	right(t, []byte{1}, "01")
	right(t, []byte{0x10}, "10")
	right(t, []byte{0x9a}, "9a") // the last of one row of digits, and the first of the other
	right(t, []byte{0xa9}, "a9")
	right(t, []byte{255}, "ff")
	right(t, []byte{0, 255, 0}, "00ff00")
	right(t, []byte{0x01, 0x23, 0x45, 0x67, 0x89, 0xab, 0xcd, 0xef}, "0123456789abcdef")
	right(t, []byte{0xfe, 0xdc, 0xba, 0x98, 0x76, 0x54, 0x32, 0x10}, "fedcba9876543210")
	for _, b := range samples {
		right(t, b, want(b))
	}
}

func TestEveryByte(t *testing.T) { // P5.1
	var all []byte
	for c := range 256 {
		b := byte(c)
		all = append(all, b)
		right(t, []byte{b}, want([]byte{b}))
		right(t, []byte{0, b, 255}, "00"+want([]byte{b})+"ff")
		right(t, []byte{b, ^b, b}, want([]byte{b, ^b, b}))
	}
	right(t, all, want(all))
}

func TestEveryTwoSigns(t *testing.T) { // P5.1
	taken := map[byte]string{}
	for c := range 256 {
		for d := range 256 {
			s := string([]byte{byte(c), byte(d)})
			if !isDigit(s[0]) || !isDigit(s[1]) {
				wrong(t, s)
				continue
			}
			b, ok := Take(s)
			if !ok || len(b) != 1 || Put(b) != s || taken[b[0]] != "" {
				t.Fatalf("Take(%q) = %x, %v", s, b, ok)
			}
			taken[b[0]] = s
		}
	}
	if len(taken) != 256 {
		t.Errorf("%d bytes have digits", len(taken))
	}
}

func TestOddLengths(t *testing.T) { // P5.1
	digitsOfMany := want(slices.Repeat([]byte{0x12, 0x9a, 0xf0}, 20))
	for n := 1; n < len(digitsOfMany); n += 2 {
		wrong(t, digitsOfMany[:n])
		wrong(t, digitsOfMany[n:])
	}
	for c := range 256 {
		wrong(t, string([]byte{byte(c)}))
		wrong(t, "00"+string([]byte{byte(c)}))
		wrong(t, string([]byte{byte(c)})+"ff")
	}
}

func TestOneWrongSign(t *testing.T) { // P5.1
	for _, good := range []string{"00", "9f", "0a1b", "deadbeef", "0123456789abcdef", strings.Repeat("5c", 40)} {
		for at := range len(good) {
			for c := range 256 {
				s := []byte(good)
				s[at] = byte(c)
				if isDigit(byte(c)) {
					if b, ok := Take(string(s)); !ok || Put(b) != string(s) {
						t.Fatalf("Take(%q) = %x, %v", s, b, ok)
					}
					continue
				}
				wrong(t, string(s)) // capitals, /, :, ` and g, the signs just beside the digits, among them
			}
		}
	}
}

func TestWrongTexts(t *testing.T) { // P5.1
	for _, s := range []string{
		"0A", "A0", "FF", "0F", "f0F0", "DEADBEEF", // capitals
		"/0", "0/", ":0", "0:", "`0", "0`", "g0", "0g", "@0", "0@", "G0", "0G", // the signs just beside
		" 00", "00 ", " 0", "0 ", "00 ff", "00\n", "00\n\n", "\t0", "0\x00", "\x000", // blanks, ends of lines, 0
		"0x", "0x00", "x0", "-1", "+1", "0.", "..", "00..", "0102..3", "0102..", "..30", "_0", "0_", // what numbers and Show have
		"\xc3\xa9", "\xef\xbc\x90\xef\xbc\x90", "\xd9\xa0", "\xff\xff", "00\xff\xff", // other signs, other digits, no signs at all
	} {
		wrong(t, s)
	}
}

func TestShowKnown(t *testing.T) { // P5.1
	for _, c := range []struct {
		b    []byte
		most int
		want string
	}{
		{[]byte{1, 2, 3}, 2, "0102..3"}, // the chapter's example
		{[]byte{1, 2, 3}, 3, "010203"},
		{[]byte{1, 2, 3}, 4, "010203"},
		{[]byte{1, 2, 3}, 1000, "010203"},
		{[]byte{1, 2, 3}, math.MaxInt, "010203"},
		{[]byte{1, 2, 3}, 1, "01..3"},
		{[]byte{1, 2, 3}, 0, "..3"},
		{[]byte{1, 2, 3}, -1, "..3"},
		{[]byte{1, 2, 3}, -3, "..3"},
		{[]byte{1, 2, 3}, math.MinInt, "..3"},
		{[]byte{255}, 1, "ff"},
		{[]byte{255}, 0, "..1"},
		{nil, 0, ""},
		{nil, 1, ""},
		{nil, math.MaxInt, ""},
		{[]byte{}, 0, ""},
		{[]byte{}, 1, ""},
		{nil, -1, "..0"}, // no bytes are more than -1
		{[]byte{}, -1, "..0"},
		{nil, math.MinInt, "..0"},
		{make([]byte, 9), 1, "00..9"},
		{make([]byte, 10), 1, "00..10"}, // how many, in decimal digits
		{make([]byte, 16), 1, "00..16"},
		{make([]byte, 255), 0, "..255"},
		{make([]byte, 1000), 2, "0000..1000"},
	} {
		if got := Show(c.b, c.most); got != c.want {
			t.Errorf("Show(%x, %d) = %q, want %q", c.b, c.most, got, c.want)
		}
	}
}

func TestShowAtEachMost(t *testing.T) { // P5.1
	for _, b := range samples {
		n := len(b)
		for most := -2; most <= n+2; most++ {
			right := want(b)
			if n > most {
				right = fmt.Sprintf("%s..%d", want(b[:max(most, 0)]), n)
			}
			if got := Show(b, most); got != right {
				t.Errorf("Show(%x, %d) = %q, want %q", b, most, got, right)
			}
		}
		for _, most := range []int{n + 1<<20, 1 << 31, 1 << 62, math.MaxInt - 1, math.MaxInt} {
			if got := Show(b, most); got != want(b) {
				t.Errorf("Show(%x, %d) = %q", b, most, got)
			}
		}
		for _, most := range []int{-n - 1, -1 << 20, -1 << 31, -1 << 62, math.MinInt + 1, math.MinInt} {
			if got := Show(b, most); got != fmt.Sprintf("..%d", n) {
				t.Errorf("Show(%x, %d) = %q", b, most, got)
			}
		}
	}
}

func TestMemory(t *testing.T) { // P5.1, R4, R6
	behind := []byte{1, 2, 3, 0xaa, 0xbb, 0xcc}
	kept := slices.Clone(behind)
	b := behind[:3]
	put, short, long, negative := Put(b), Show(b, 2), Show(b, 5), Show(b, -1)
	if put != "010203" || short != "0102..3" || long != "010203" || negative != "..3" {
		t.Errorf("what lies behind the list is told: %q, %q, %q, %q", put, short, long, negative)
	}
	if !slices.Equal(behind, kept) {
		t.Errorf("what was handed in is changed: %x", behind)
	}
	clear(behind)
	if put != "010203" || short != "0102..3" || long != "010203" || negative != "..3" {
		t.Error("an answer hangs on bytes that are written over")
	}
	first, _ := Take("0a1bff")
	second, _ := Take("0a1bff")
	clear(first[:cap(first)])
	third, ok := Take("0a1bff")
	if want := []byte{0x0a, 0x1b, 0xff}; !slices.Equal(second, want) || !slices.Equal(third, want) || !ok {
		t.Errorf("an answer changes when another one is written over: %x, %x", second, third)
	}
}

func TestLong(t *testing.T) { // P5.1
	const n = 1 << 20
	b := slices.Repeat([]byte{0x3e, 0x81}, n/2)
	s := strings.Repeat("3e81", n/2)
	if Put(b) != s || Show(b, n) != s || Show(b, n+1) != s {
		t.Error("digits of many bytes")
	}
	if Show(b, n-1) != s[:len(s)-2]+"..1048576" || Show(b, 1) != "3e..1048576" {
		t.Error("many bytes that are cut")
	}
	if got, ok := Take(s); !ok || !slices.Equal(got, b) {
		t.Error("bytes of many digits")
	}
	wrong(t, s+"0")
	wrong(t, s+"0G")
	wrong(t, "G"+s[1:])
	wrong(t, s[:len(s)-1]+"G")
}
