package sha

import (
	"bytes"
	"crypto/sha256"
	"encoding/hex"
	"math"
	"math/big"
	"slices"
	"testing"
)

// lengths are both sides of where a block ends, and of where the text's end needs a block more.
var lengths = []int{
	0, 1, 2, 3, 31, 32, 54, 55, 56, 57, 62, 63, 64, 65, 66, 100, 118, 119, 120, 121, 126, 127, 128, 129, 130,
	183, 184, 191, 192, 193, 255, 256, 257, 511, 512, 513, 1000, 4095, 4096, 4097, 65535, 65536, 65537,
}

// text has n bytes of all values, in an order that doesn't come again with the blocks.
func text(n int) []byte {
	b := make([]byte, n)
	for i := range b {
		b[i] = byte(i*i + 13*i + i>>8)
	}
	return b
}

func want(b []byte) []byte {
	sum := sha256.Sum256(b)
	return sum[:]
}

func check(t *testing.T, d *Digest, handed []byte) {
	t.Helper()
	if got := d.Sum(); !bytes.Equal(got, want(handed)) {
		t.Fatalf("Sum of %d bytes handed = %x, want %x", len(handed), got, want(handed))
	}
	if got := d.Len(); got != uint64(len(handed)) {
		t.Fatalf("Len of %d bytes handed = %d", len(handed), got)
	}
}

func TestKnown(t *testing.T) { // P2.1
	for _, c := range []struct {
		text []byte
		want string
	}{
		{[]byte("abc"), "ba7816bf8f01cfea414140de5dae2223b00361a396177a9cb410ff61f20015ad"}, // the chapter's example
		{nil, "e3b0c44298fc1c149afbf4c8996fb92427ae41e4649b934ca495991b7852b855"},
		{[]byte{}, "e3b0c44298fc1c149afbf4c8996fb92427ae41e4649b934ca495991b7852b855"},
		{[]byte("abcdbcdecdefdefgefghfghighijhijkijkljklmklmnlmnomnopnopq"), "248d6a61d20638b8e5c026930c3e6039a33ce45964ff2167f6ecedd419db06c1"},
		{[]byte("abcdefghbcdefghicdefghijdefghijkefghijklfghijklmghijklmnhijklmnoijklmnopjklmnopqklmnopqrlmnopqrsmnopqrstnopqrstu"), "cf5b16a778af8380036ce59e7b0492370b249b11e8f07a51afac45037afee9d1"},
		{bytes.Repeat([]byte("a"), 1000000), "cdc76e5c9914fb9281a1c7e284d73e67f1809a48a497200e046d39ccc7112cd0"},
	} {
		if got := hex.EncodeToString(Sum(c.text)); got != c.want {
			t.Errorf("Sum of %d bytes = %s, want %s", len(c.text), got, c.want)
		}
	}
}

// behindPoint is the first 32 bits behind the point of the root of p of that degree.
func behindPoint(p, degree int64) uint32 {
	scaled := new(big.Int).Lsh(big.NewInt(p), uint(32*degree))
	low, high := big.NewInt(0), new(big.Int).Lsh(big.NewInt(p), 32)
	for low.Cmp(high) < 0 { // the greatest number whose power isn't above scaled
		mid := new(big.Int).Add(low, high)
		mid.Add(mid, big.NewInt(1)).Rsh(mid, 1)
		if new(big.Int).Exp(mid, big.NewInt(degree), nil).Cmp(scaled) <= 0 {
			low = mid
		} else {
			high = mid.Sub(mid, big.NewInt(1))
		}
	}
	return uint32(low.Uint64())
}

func TestNumbersOfThePrimes(t *testing.T) { // P2.1
	n := 0
	for p := int64(2); n < len(roots); p++ {
		if !big.NewInt(p).ProbablyPrime(0) {
			continue
		}
		if got := behindPoint(p, 3); roots[n] != got {
			t.Errorf("k(%d) = %#x, want %#x", n, roots[n], got)
		}
		if n < len(start) && start[n] != behindPoint(p, 2) {
			t.Errorf("number %d of the first state = %#x, want %#x", n, start[n], behindPoint(p, 2))
		}
		n++
	}
}

func TestLengths(t *testing.T) { // P2.1
	all := text(65537)
	for _, n := range lengths {
		b := all[:n]
		if got := Sum(b); !bytes.Equal(got, want(b)) {
			t.Errorf("Sum of %d bytes = %x, want %x", n, got, want(b))
		}
		d := New()
		d.Write(b)
		check(t, d, b)
	}
	for n := range 400 {
		for _, c := range []byte{0, 128, 255} { // bytes that look like a text's end, too
			b := bytes.Repeat([]byte{c}, n)
			if !bytes.Equal(Sum(b), want(b)) {
				t.Errorf("Sum of %d bytes %d is wrong", n, c)
			}
		}
	}
}

func TestPieces(t *testing.T) { // P2.1
	b := text(700)
	for piece := 1; piece <= 200; piece++ {
		asked, silent := New(), New()
		for from := 0; from < len(b); from += piece {
			to := min(from+piece, len(b))
			check(t, asked, b[:from])
			asked.Write(b[from:to])
			silent.Write(b[from:to])
			check(t, asked, b[:to])
			check(t, asked, b[:to]) // what was asked changes nothing
		}
		check(t, silent, b)
	}
}

func TestTwoPieces(t *testing.T) { // P2.1
	b := text(200)
	for first := range len(b) + 1 {
		for _, n := range []int{first, first + 1, 55, 56, 63, 64, 65, 119, 120, 127, 128, 129, 200} {
			if n < first || n > len(b) {
				continue
			}
			d := New()
			d.Write(b[:first])
			d.Sum()
			d.Write(b[first:n])
			check(t, d, b[:n])
		}
	}
}

func TestPiecesOfMixedLengths(t *testing.T) { // P2.1
	b := text(20000)
	d := New()
	at := 0
	for i := 0; at < len(b); i++ {
		to := min(at+lengths[(i*17)%len(lengths)]%3000, len(b))
		d.Write(b[at:to])
		at = to
		if i%3 == 0 {
			check(t, d, b[:at])
		}
	}
	check(t, d, b)
}

func TestNothingHanded(t *testing.T) { // P2.1
	d := New()
	check(t, d, nil)
	d.Write(nil)
	d.Write([]byte{})
	check(t, d, nil)
	d.Write([]byte("abc"))
	d.Write(nil)
	d.Write([]byte{})
	check(t, d, []byte("abc"))
}

func TestNilDigest(t *testing.T) { // P2.1, P1
	var d *Digest
	for _, b := range [][]byte{nil, {}, {1}, text(64), text(1000)} {
		d.Write(b)
		if len(d.Sum()) != 0 || d.Len() != 0 || d != nil {
			t.Fatalf("a nil *Digest that was handed %d bytes: %x, %d", len(b), d.Sum(), d.Len())
		}
	}
	check(t, New(), nil)
}

func TestZeroDigest(t *testing.T) { // P2.1
	for _, n := range lengths {
		b := text(n)
		var d Digest
		check(t, &d, nil)
		d.Write(b)
		check(t, &d, b)
		d.Write(b)
		check(t, &d, slices.Concat(b, b))
	}
}

func TestLenOfMany(t *testing.T) { // P2.1
	for _, c := range []struct{ before, want uint64 }{
		{1<<32 - 1, 1<<32 + 2}, {1<<61 - 2, 1<<61 + 1}, {1<<63 - 3, 1 << 63},
		{math.MaxUint64 - 3, math.MaxUint64}, {math.MaxUint64 - 2, 0}, {math.MaxUint64 - 1, 1}, // it goes round at 2^64
	} {
		d := Digest{length: c.before} // so many bytes can't be handed in a test
		d.Write([]byte{1, 2, 3})
		if d.Len() != c.want {
			t.Errorf("Len of %d bytes and 3 more = %d, want %d", c.before, d.Len(), c.want)
		}
	}
}

func TestEndOfText(t *testing.T) { // P2.1
	for _, n := range []uint64{0, 1, 54, 55, 56, 63, 64, 1 << 29, 1<<32 - 1, 1 << 40, 1<<61 - 1} {
		b := end(n)
		zeros := len(b) - 1 - lengthSize
		if zeros < 0 || zeros >= blockSize || (n+uint64(len(b)))%blockSize != 0 {
			t.Fatalf("a text of %d bytes has %d behind it", n, len(b))
		}
		length := new(big.Int).Lsh(new(big.Int).SetUint64(n), 3).FillBytes(make([]byte, lengthSize))
		if !bytes.Equal(b, slices.Concat([]byte{128}, make([]byte, zeros), length)) {
			t.Errorf("a text of %d bytes has %x behind it", n, b)
		}
	}
}

func TestMixedBytesAreNotKept(t *testing.T) {
	for _, n := range lengths {
		d := New()
		d.Write(bytes.Repeat([]byte{0xff}, n))
		if rest := d.block[n%blockSize:]; !bytes.Equal(rest, make([]byte, len(rest))) {
			t.Errorf("of %d bytes some are kept behind their block: %x", n, rest)
		}
	}
}

func TestDigestsApart(t *testing.T) { // P2.1, R6
	b := text(300)
	one, other := New(), New()
	for i := range b {
		one.Write(b[i : i+1])
		check(t, other, b[:0])
	}
	check(t, one, b)
	other.Write(b[100:])
	check(t, other, b[100:])
	check(t, one, b)
	check(t, New(), nil)
}

func TestWrittenOverWhenHanded(t *testing.T) { // R4
	b := text(300)
	for piece := 1; piece <= 130; piece++ {
		d := New()
		buffer := make([]byte, piece)
		for from := 0; from < len(b); from += piece {
			n := copy(buffer, b[from:])
			d.Write(buffer[:n])
			for i := range buffer {
				buffer[i] = 0xee
			}
			check(t, d, b[:from+n])
		}
	}
}

func TestHandedInIsLeftAlone(t *testing.T) { // R4
	all := text(300)
	kept := slices.Clone(all)
	for n := range all {
		b := all[:n] // with bytes of others behind its length
		d := New()
		d.Write(b)
		check(t, d, slices.Clone(b))
		if !bytes.Equal(Sum(b), want(slices.Clone(b))) {
			t.Errorf("what lies behind %d bytes is read", n)
		}
		if !bytes.Equal(all, kept) {
			t.Fatalf("%d bytes that were handed in are changed, or what lies behind them", n)
		}
	}
}

func TestAnswersAreNewMemory(t *testing.T) { // R4
	for _, n := range lengths {
		b := text(n)
		d := New()
		d.Write(b)
		for _, sum := range []func() []byte{d.Sum, func() []byte { return Sum(b) }} {
			first, second := sum(), sum()
			clear(first[:cap(first)])
			if !bytes.Equal(second, want(b)) || !bytes.Equal(sum(), want(b)) {
				t.Fatalf("%d bytes: an answer changes when another one is written over", n)
			}
			if !bytes.Equal(b, text(n)) {
				t.Fatalf("%d bytes change when an answer is written over", n)
			}
		}
		d.Write(b)
		check(t, d, slices.Concat(b, b))
	}
}

func TestItsOwnSumHanded(t *testing.T) { // P2.1
	d := New()
	var handed []byte
	for range 20 {
		sum := d.Sum()
		d.Write(sum)
		handed = append(handed, sum...)
		check(t, d, handed)
	}
}
