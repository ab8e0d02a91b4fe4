package blake

import (
	"bytes"
	"encoding/binary"
	"encoding/hex"
	"math"
	"math/big"
	mathbits "math/bits"
	"slices"
	"testing"
)

// known are digests of text(n) that another program worked out: both sides of a block's end, and more.
var known = []struct {
	n    int
	want string
}{
	{0, "0e5751c026e543b2e8ab2eb06099daa1d1e5df47778f7787faab45cdf12fe3a8"}, // the chapter's example
	{1, "03170a2e7597b7b7e3d84c05391d139a62b157e78786d8c082f29dcf4c111314"},
	{2, "7b9bf6fae4481ce40f81012ee6e8dcae328ef3d928df69a57083425349b6d254"},
	{3, "562b38f70885760c5b4f39a795ae82d0b30af3beb471757ef014fb813961351c"},
	{8, "a7e135e71ee4036ae8c50c574a13aa9b0842940dc9eb6f4a6e9805cad7d4ae75"},
	{64, "16786cebac4a2d3b55ed2db1ee749bc7016e26650e182c06a37f18b068d0d0f8"},
	{126, "6294162580e5059d97b1787cc467108bd0f3b1b8dfdac3ee0dec876aefbe9ffa"},
	{127, "bb01de0495731b0c3664d9930cba441250dd791f83a546a30a4b8d174cb62470"},
	{128, "0af1647abb3ed560bbf446bbd37e38f37fa18708584dd0504ea0a58a783bde04"},
	{129, "c3327051eb37abb205c95736e77d97b3da55aed5037976a3ab1f049102bbd4c6"},
	{130, "83ed37337684cd9cd53ca6fd25900e57bd5494aff0fe31a7b06003cafbafae52"},
	{255, "f1f5ed8cd43f9b5d843a988123dcdc710977c0b45460ad634fda92ac3b075a8b"},
	{256, "14527dfde69443bdb3ad7920f988412c4ce99c403047edca5a31f58cf321ee9f"},
	{257, "88338dd940f140ca03aea159a21661fd9ad4c1061f097949d25f6862d2dd9d7f"},
	{383, "55ae5cd37589a8645cb367833d7422489a30f742a730b63cb7585e4e6300e6cc"},
	{384, "3434f8aeec0cf7763d39045d6ac284c8ee67e0a6a8e7773c6f679c928094433a"},
	{385, "d0d5655b1a1f0d8a48eec633722c85a8cb9a4aad2c899d7c267a7e4f8bf7896f"},
	{511, "7cd458276b35d1de268644daefe4a7bebfda2d199b71cc3b92b7e2be20aa85f6"},
	{512, "a296abe9cd6a5d23554a2303ba676677c66bf699d2083557abb42cca9ac1b0f3"},
	{513, "c5cb8f12e28a1d4239ac7b1e5ffac4986a196ebd92d9eda3819a30a38f67c625"},
	{1000, "b4f37b7e2a76e6a37eb64b7f4a4ac2aedc7a07e2321f5da36fa754f599200deb"},
	{1024, "064b78c95fdcfd96bfb00ccbf023ed7617146714ddc7865cab0f39b38df05eeb"},
	{4096, "98ea90ac511ed5819eeb930a42ce208f915596921e2c797e2e862e3125cbf186"},
	{4097, "5c2d03b9a06cb9fd7e1359f778366aec1accbe0d2bcfbb41a03ee6a6336454bb"},
	{65535, "99bdc33a1eac78676fa14bebb1a5f6aca038128bf92c419995d3d1e0f0d1c378"},
	{65536, "65b29bafdc5106f7066c57748b556cd73bce1d1a4aaaebbd7331fbdc4400ebe6"},
	{65537, "992c82796efbddfa9767132ce318e8ca91dd50ecbc1b10a4b284e653829896c2"},
	{1 << 20, "b846626b02deee81c44684ac32d570c91fd1a1495adb840df3920d3c62a4bf51"},
}

// text has n bytes of all values, in an order that doesn't come again with the blocks.
func text(n int) []byte {
	b := make([]byte, n)
	for i := range b {
		b[i] = byte(i*i + 13*i + i>>8)
	}
	return b
}

// sigma has the rows of the chapter's table as hex digits.
var sigma = []string{
	"0123456789abcdef", "ea489fd61c02b753", "b8c052fdae367194", "7931dcbe265a40f8", "905724afe1bc683d",
	"2c6a0b834d75fe19", "c51fed4a0763928b", "db7ec13950f4862a", "6fe9b308c2d714a5", "a2847615fb9e3cd0",
}

func mixed(v []uint64, a, b, c, d int, x, y uint64) {
	for _, z := range []struct {
		add        uint64
		down, left int
	}{{x, 32, 40}, {y, 16, 1}} {
		v[a] += v[b] + z.add
		v[d] = mathbits.RotateLeft64(v[d]^v[a], z.down)
		if z.down == 16 {
			v[d] = mathbits.RotateLeft64(v[d], 32) // to the right by 16 is to the left by 48
		}
		v[c] += v[d]
		v[b] = mathbits.RotateLeft64(v[b]^v[c], z.left)
	}
}

// want is the BLAKE2b-256 of b, of the whole at once.
func want(b []byte) []byte {
	first := make([]uint64, 8)
	for i, p := range []int64{2, 3, 5, 7, 11, 13, 17, 19} {
		first[i] = behindPoint(p)
	}
	state := slices.Clone(first)
	state[0] ^= 0x01010020
	filled := slices.Concat(b, make([]byte, (128-len(b)%128)%128))
	if len(filled) == 0 {
		filled = make([]byte, 128)
	}
	for at := 0; at < len(filled); at += 128 {
		v := slices.Concat(state, first)
		v[12] ^= uint64(min(at+128, len(b)))
		if at+128 == len(filled) {
			v[14] ^= math.MaxUint64
		}
		for r := range 12 {
			var m [16]uint64
			for i, digit := range sigma[r%10] {
				k := bytes.IndexRune([]byte("0123456789abcdef"), digit)
				m[i] = binary.LittleEndian.Uint64(filled[at+8*k:])
			}
			for i := range 4 {
				mixed(v, i, 4+i, 8+i, 12+i, m[2*i], m[2*i+1])
			}
			for i := range 4 {
				mixed(v, i, 4+(i+1)%4, 8+(i+2)%4, 12+(i+3)%4, m[8+2*i], m[9+2*i])
			}
		}
		for i := range state {
			state[i] ^= v[i] ^ v[i+8]
		}
	}
	var sum []byte
	for _, x := range state[:4] {
		sum = binary.LittleEndian.AppendUint64(sum, x)
	}
	return sum
}

// behindPoint is the first 64 bits behind the point of the square root of p.
func behindPoint(p int64) uint64 {
	scaled := new(big.Int).Lsh(big.NewInt(p), 128)
	return new(big.Int).And(scaled.Sqrt(scaled), new(big.Int).SetUint64(math.MaxUint64)).Uint64()
}

func check(t *testing.T, d *Digest, handed []byte) {
	t.Helper()
	if got := d.Sum(); !bytes.Equal(got, want(handed)) {
		t.Fatalf("Sum of %d bytes handed = %x, want %x", len(handed), got, want(handed))
	}
	if got := d.Len(); got != uint64(len(handed)) {
		t.Fatalf("Len of %d bytes handed = %d", len(handed), got)
	}
}

func TestKnown(t *testing.T) { // P3.1
	for _, c := range known {
		if got := hex.EncodeToString(Sum(text(c.n))); got != c.want {
			t.Errorf("Sum of %d bytes = %s, want %s", c.n, got, c.want)
		}
	}
	for _, c := range []struct {
		text []byte
		want string
	}{
		{nil, "0e5751c026e543b2e8ab2eb06099daa1d1e5df47778f7787faab45cdf12fe3a8"},
		{[]byte{}, "0e5751c026e543b2e8ab2eb06099daa1d1e5df47778f7787faab45cdf12fe3a8"},
		{[]byte("abc"), "bddd813c634239723171ef3fee98579b94964e3bb1cb3e427262c8c068d52319"},
		{[]byte("The quick brown fox jumps over the lazy dog"), "01718cec35cd3d796dd00020e0bfecb473ad23457d063b75eff29c0ffa2e58a9"},
		{bytes.Repeat([]byte("a"), 1000000), "0741850f36cba4259628355d1073e24ddb9ca0e1bfac36fd39ae5dc2101e23a4"},
		{make([]byte, 128), "378d0caaaa3855f1b38693c1d6ef004fd118691c95c959d4efa950d6d6fcf7c1"}, // as long as what fills up a block
		{make([]byte, 129), "baadfb64c3bd2cd187b54accc5e61a0720ed86bf48c28017873536cf9015d1b8"},
		{bytes.Repeat([]byte{0xff}, 256), "60fbef4f6e56bfe286fc89ead86213e80a02272d255491e6b7cea4ee94fc1e69"},
	} {
		if got := hex.EncodeToString(Sum(c.text)); got != c.want {
			t.Errorf("Sum of %d bytes = %s, want %s", len(c.text), got, c.want)
		}
	}
}

func TestManyLengths(t *testing.T) { // P3.1
	all := text(1100)
	var sums []byte
	for n := range len(all) + 1 {
		got := Sum(all[:n])
		if !bytes.Equal(got, want(all[:n])) {
			t.Fatalf("Sum of %d bytes = %x, want %x", n, got, want(all[:n]))
		}
		sums = append(sums, got...)
	}
	// worked out by another program, of all these digests behind one another
	const of = "d20947095870704f295929f7111990d8de61210b63b31bd0f7c2cc3b190d06c5"
	if got := hex.EncodeToString(Sum(sums)); got != of {
		t.Errorf("Sum of the sums = %s, want %s", got, of)
	}
	for n := range 400 {
		for _, c := range []byte{0, 1, 128, 255} { // bytes that look like what fills up a block, too
			b := bytes.Repeat([]byte{c}, n)
			if !bytes.Equal(Sum(b), want(b)) {
				t.Errorf("Sum of %d bytes %d is wrong", n, c)
			}
		}
	}
}

func TestNumbersOfThePrimes(t *testing.T) { // P3.1
	for i, p := range []int64{2, 3, 5, 7, 11, 13, 17, 19} {
		if iv[i] != behindPoint(p) {
			t.Errorf("number %d of iv = %#x, want %#x", i, iv[i], behindPoint(p))
		}
	}
}

func TestTable(t *testing.T) { // P3.1
	for r, row := range table {
		for i, p := range row {
			if digit := "0123456789abcdef"[p]; sigma[r][i] != digit {
				t.Errorf("row %d, p%d = %c, want %c", r, i, digit, sigma[r][i])
			}
		}
	}
}

func TestPieces(t *testing.T) { // P3.1
	b := text(700)
	wants := make([][]byte, len(b)+1)
	for n := range wants {
		wants[n] = want(b[:n])
	}
	same := func(d *Digest, n int) {
		t.Helper()
		if !bytes.Equal(d.Sum(), wants[n]) || d.Len() != uint64(n) {
			t.Fatalf("%d bytes handed: %x, %d", n, d.Sum(), d.Len())
		}
	}
	for piece := 1; piece <= 300; piece++ {
		asked, silent := New(), New()
		for from := 0; from < len(b); from += piece {
			to := min(from+piece, len(b))
			same(asked, from)
			asked.Write(b[from:to])
			silent.Write(b[from:to])
			same(asked, to)
			same(asked, to) // what was asked changes nothing
		}
		same(silent, len(b))
	}
}

func TestTwoPieces(t *testing.T) { // P3.1
	b := text(400)
	for first := range len(b) + 1 {
		for _, n := range []int{first, first + 1, 127, 128, 129, 255, 256, 257, 383, 384, 385, 400} {
			if n < first || n > len(b) {
				continue
			}
			d := New()
			d.Write(b[:first])
			d.Sum()
			d.Write(b[first:n])
			check(t, d, b[:n])
		}
	}
}

func TestPiecesOfMixedLengths(t *testing.T) { // P3.1
	b := text(30000)
	d := New()
	at := 0
	for i := 0; at < len(b); i++ {
		to := min(at+known[(i*17)%len(known)].n%3000, len(b))
		d.Write(b[at:to])
		at = to
		if i%3 == 0 {
			check(t, d, b[:at])
		}
	}
	check(t, d, b)
}

func TestNothingHanded(t *testing.T) { // P3.1
	for _, n := range []int{0, 3, 127, 128, 129, 256} {
		d := New()
		d.Write(text(n))
		for range 3 {
			d.Write(nil)
			check(t, d, text(n))
			d.Write([]byte{})
			check(t, d, text(n))
		}
		d.Write([]byte("abc"))
		check(t, d, append(text(n), "abc"...))
	}
}

func TestNilDigest(t *testing.T) { // P3.1, P1
	var d *Digest
	for _, b := range [][]byte{nil, {}, {1}, text(128), text(1000)} {
		d.Write(b)
		if len(d.Sum()) != 0 || d.Len() != 0 || d != nil {
			t.Fatalf("a nil *Digest that was handed %d bytes: %x, %d", len(b), d.Sum(), d.Len())
		}
	}
	check(t, New(), nil)
}

func TestZeroDigest(t *testing.T) { // P3.1
	for _, c := range known {
		b := text(min(c.n, 5000))
		var d Digest
		check(t, &d, nil)
		d.Write(b)
		check(t, &d, b)
		d.Write(b)
		check(t, &d, slices.Concat(b, b))
	}
}

func TestLenOfMany(t *testing.T) { // P3.1
	for _, c := range []struct{ before, want uint64 }{
		{1<<32 - 1, 1<<32 + 2}, {1<<61 - 2, 1<<61 + 1}, {1<<63 - 3, 1 << 63},
		{math.MaxUint64 - 3, math.MaxUint64}, {math.MaxUint64 - 2, 0}, {math.MaxUint64 - 1, 1}, // it goes round at 2^64
	} {
		d := Digest{length: c.before} // so many bytes can't be handed in a test
		d.Write([]byte{1, 2, 3})
		if d.Len() != c.want {
			t.Errorf("Len of %d bytes and 3 more = %d, want %d", c.before, d.Len(), c.want)
		}
	}
}

func TestBegin(t *testing.T) { // P3.1
	for _, n := range []uint64{0, 1, 128, 1<<32 - 1, 1 << 32, 1 << 40, 1<<63 + 5, math.MaxUint64} {
		d := Digest{length: n}
		more, last := d.begin(false), d.begin(true)
		if more[12] != iv[4]^n || last[12] != iv[4]^n {
			t.Errorf("of %d bytes v(12) begins as %#x or %#x", n, more[12], last[12])
		}
		if more[14] != iv[6] || last[14] != iv[6]^math.MaxUint64 {
			t.Errorf("of %d bytes v(14) begins as %#x or %#x", n, more[14], last[14])
		}
		more[14] = last[14]
		if more != last {
			t.Errorf("of %d bytes the last block begins as %x, another one as %x", n, last, more)
		}
	}
}

func TestMixedBytesAreNotKept(t *testing.T) {
	for n := range 600 {
		d := New()
		d.Write(bytes.Repeat([]byte{0xff}, n))
		held := (n+blockSize-1)%blockSize + 1 // a full block waits for what comes behind it
		if n == 0 {
			held = 0
		}
		if rest := d.block[held:]; d.held != held || !bytes.Equal(rest, make([]byte, len(rest))) {
			t.Errorf("of %d bytes %d are held, and behind them %x", n, d.held, rest)
		}
	}
}

func TestDigestsApart(t *testing.T) { // P3.1, R6
	b := text(300)
	one, other := New(), New()
	for i := range b {
		one.Write(b[i : i+1])
		check(t, other, b[:0])
	}
	check(t, one, b)
	other.Write(b[100:])
	check(t, other, b[100:])
	check(t, one, b)
	check(t, New(), nil)
}

func TestWrittenOverWhenHanded(t *testing.T) { // R4
	b := text(400)
	for piece := 1; piece <= 260; piece++ {
		d := New()
		buffer := make([]byte, piece)
		for from := 0; from < len(b); from += piece {
			n := copy(buffer, b[from:])
			d.Write(buffer[:n])
			for i := range buffer {
				buffer[i] = 0xee
			}
			check(t, d, b[:from+n])
		}
	}
}

func TestHandedInIsLeftAlone(t *testing.T) { // R4
	all := text(400)
	kept := slices.Clone(all)
	for n := range all {
		b := all[:n] // with bytes of others behind its length
		d := New()
		d.Write(b)
		check(t, d, slices.Clone(b))
		if !bytes.Equal(Sum(b), want(slices.Clone(b))) {
			t.Errorf("what lies behind %d bytes is read", n)
		}
		if !bytes.Equal(all, kept) {
			t.Fatalf("%d bytes that were handed in are changed, or what lies behind them", n)
		}
	}
}

func TestAnswersAreNewMemory(t *testing.T) { // R4
	for _, n := range []int{0, 1, 127, 128, 129, 255, 256, 257, 1000} {
		b := text(n)
		d := New()
		d.Write(b)
		for _, sum := range []func() []byte{d.Sum, func() []byte { return Sum(b) }} {
			first, second := sum(), sum()
			clear(first[:cap(first)])
			if !bytes.Equal(second, want(b)) || !bytes.Equal(sum(), want(b)) {
				t.Fatalf("%d bytes: an answer changes when another one is written over", n)
			}
			if !bytes.Equal(b, text(n)) {
				t.Fatalf("%d bytes change when an answer is written over", n)
			}
		}
		d.Write(b)
		check(t, d, slices.Concat(b, b))
	}
}

func TestItsOwnSumHanded(t *testing.T) { // P3.1
	d := New()
	var handed []byte
	for range 20 {
		sum := d.Sum()
		d.Write(sum)
		handed = append(handed, sum...)
		check(t, d, handed)
	}
}
