package auto

import (
	"math"
	"unicode/utf8"

	"ullage/api"
	"ullage/head"
)

// told is an event, and the place of its byte.
type told struct {
	at int
	e  Event
}

// reading is what a plain reading finds, that looks at all of the bytes at once and goes into items by calls of itself.
type reading struct {
	b      string
	l      api.Limits
	bad    bool // some byte is wrong
	least  api.Verdict
	events []told
	over   bool // the item ended
}

// read reads the item that b is, by limits that are right.
func read(b string, l api.Limits) *reading {
	r := &reading{b: b, l: l}
	if len(b) > l.Size {
		r.wrong(l.Size, api.ErrSize)
	}
	end, ok := r.item(0, 1, EventEnd)
	if ok && end < len(b) {
		r.wrong(end, api.ErrSyntax)
	}
	r.over = ok && !r.bad
	return r
}

// wrong notes what holds at a byte: of all of these the verdict is the first one, at the first place.
func (r *reading) wrong(at int, err api.Errno) {
	if !r.bad || at < r.least.At || at == r.least.At && err < r.least.Error {
		r.bad, r.least = true, api.Verdict{Error: err, At: at}
	}
}

// tell notes an event, whether or not a verdict is told at its byte.
func (r *reading) tell(at int, e Event) { r.events = append(r.events, told{at, e}) }

// verdict is what Whole tells.
func (r *reading) verdict() api.Verdict {
	if !r.bad && !r.over {
		return api.Verdict{Error: api.ErrTruncated, At: len(r.b)}
	}
	return r.least
}

// count is how many bytes were handed, up to the verdict's one.
func (r *reading) count() int {
	if r.bad {
		return r.least.At + 1
	}
	return len(r.b)
}

// right are the events of the bytes ahead of the verdict's one.
func (r *reading) right() []told {
	var all []told
	for _, e := range r.events {
		if !r.bad || e.at < r.least.At {
			all = append(all, e)
		}
	}
	return all
}

// item reads the item at a place, that stands so deep, and tells where it ends, and that it does; else up to where it was read, the wrong byte among it.
func (r *reading) item(at, deep, kind int) (int, bool) {
	if at == len(r.b) {
		return at, false
	}
	if deep > r.l.Depth {
		r.wrong(at, api.ErrDepth)
	}
	h, end, err := readHead(r.b[at:])
	end += at
	if err != api.OK {
		r.wrong(end-1, err)
	}
	if h == nil || err != api.OK || deep > r.l.Depth {
		return end, false
	}
	r.tell(end-1, Event{Kind: EventHead, Head: *h, Deep: deep})
	ok := true
	switch h.Major {
	case 2, 3:
		end, ok = r.text(end, deep, *h)
	case 4:
		end, ok = r.items(end, deep, h.Arg)
	case 5:
		end, ok = r.pairs(end, deep, h.Arg)
	case 6:
		end, ok = r.item(end, deep+1, EventEnd)
	}
	if !ok {
		return end, false
	}
	r.tell(end-1, Event{Kind: kind, Deep: deep})
	return end, true
}

// text reads the text of a Bytes or a Text.
func (r *reading) text(at, deep int, h head.Head) (int, bool) {
	n := uint64(len(r.b) - at)
	whole := h.Arg <= n
	if whole {
		n = h.Arg
	}
	text, bad := r.b[at:at+int(n)], -1
	if h.Major == 3 {
		bad = firstBad(text)
		if bad < 0 && whole && !utf8.ValidString(text) {
			bad = len(text) - 1
		}
	}
	for i := range len(text) {
		if i == bad {
			r.wrong(at+i, api.ErrUTF8)
			return at + i + 1, false
		}
		r.tell(at+i, Event{Kind: EventByte, Byte: text[i], Deep: deep})
	}
	return at + len(text), whole
}

// firstBad is the place of the first byte up to which no text in UTF-8 begins like s; -1: there is none.
func firstBad(s string) int {
	signs := 0 // how many bytes those that are right have
	for signs < len(s) && utf8.FullRuneInString(s[signs:]) {
		sign, n := utf8.DecodeRuneInString(s[signs:])
		if sign != utf8.RuneError || n > 1 {
			signs += n
			continue
		}
		bad := signs
		for !utf8.FullRuneInString(s[signs : bad+1]) {
			bad++
		}
		return bad
	}
	return -1
}

// items reads those of an array.
func (r *reading) items(at, deep int, n uint64) (int, bool) {
	for range n {
		end, ok := r.item(at, deep+1, EventEnd)
		if !ok {
			return end, false
		}
		at = end
	}
	return at, true
}

// pairs reads the keys and values of a map.
func (r *reading) pairs(at, deep int, n uint64) (int, bool) {
	last := ""
	for i := range n {
		end, ok := r.item(at, deep+1, EventKey)
		if end-at > r.l.Key {
			r.wrong(at+r.l.Key, api.ErrKeyLength)
		}
		if !ok {
			return end, false
		}
		key := r.b[at:end]
		if i > 0 && key <= last {
			r.wrong(end-1, api.ErrKeyOrder)
			return end, false
		}
		last = key
		if at, ok = r.item(end, deep+1, EventEnd); !ok {
			return at, false
		}
	}
	return at, true
}

// readHead reads the head that b begins with: how many bytes it has, up to the wrong one, and what is wrong; nil: it doesn't end.
func readHead(b string) (*head.Head, int, api.Errno) {
	major, info := int(b[0])/32, int(b[0])%32
	switch {
	case info == 31 && major > 1 && major < 6:
		return nil, 1, api.ErrDeterminism
	case info > 27:
		return nil, 1, api.ErrSyntax
	case info < 24:
		return &head.Head{Major: major, Arg: uint64(info)}, 1, api.OK
	}
	width := []int{1, 2, 4, 8}[info-24]
	if major == 7 && width == 1 && len(b) > 1 && b[1] < 32 {
		return nil, 2, api.ErrSyntax
	}
	if len(b) <= width {
		return nil, len(b), api.OK
	}
	arg := uint64(0)
	for i := range width {
		arg = 256*arg + uint64(b[1+i])
	}
	err := api.OK
	if major < 7 && arg < []uint64{24, 256, 65536, 4294967296}[info-24] || major == 7 && width > 1 && !isShortest(arg, width) {
		err = api.ErrDeterminism
	}
	return &head.Head{Major: major, Width: width, Arg: arg}, width + 1, err
}

// isShortest tells whether a float of so many bytes has no shorter form, and is the one NaN, if it is one.
func isShortest(arg uint64, width int) bool {
	switch width {
	case 2:
		return arg == 0x7e00 || math.IsInf(halfValue(arg), 0) || !math.IsNaN(halfValue(arg))
	case 4:
		v := float64(math.Float32frombits(uint32(arg)))
		return !math.IsNaN(v) && !isHalf(v)
	}
	v := math.Float64frombits(arg)
	return !math.IsNaN(v) && !isHalf(v) && float64(float32(v)) != v
}

// halfValue is the value of a half by its sign, exponent and fraction.
func halfValue(h uint64) float64 {
	sign, exponent, fraction := 1-2*float64(h>>15), int(h>>10&31), float64(h&1023)
	switch exponent {
	case 0:
		return sign * math.Ldexp(fraction, -24)
	case 31:
		if fraction == 0 {
			return math.Inf(int(sign))
		}
		return math.NaN()
	}
	return sign * math.Ldexp(1024+fraction, exponent-25)
}

// isHalf tells whether v, which is no NaN, is a half's value: one that is a whole number of its last place's units.
func isHalf(v float64) bool {
	v = math.Abs(v)
	if v == 0 || math.IsInf(v, 1) {
		return true
	}
	if v > 65504 {
		return false
	}
	_, exponent := math.Frexp(v)
	units := math.Ldexp(v, -max(exponent-11, -24))
	return units == math.Trunc(units)
}
