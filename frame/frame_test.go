package frame

import (
	"fmt"
	"math"
	"strconv"
	"strings"
	"testing"

	"ullage/api"
)

// modelFrame is a frame as the words have it: what it was opened with, how many items have come, and all keys that ended, as texts.
type modelFrame struct {
	kind         int
	opened, come uint64
	ended        []string
	key          string
}

func (f *modelFrame) waits() bool { return f.kind == api.Map && f.come%2 == 0 }

// left is how many items are to come, of a map as pairs: those that haven't come whole.
func (f *modelFrame) left() uint64 {
	switch f.kind {
	case api.Array:
		return f.opened - f.come
	case api.Map:
		return f.opened - f.come/2
	}
	return 1 - f.come
}

// endKey ends the key: is it the first one, or does the one ahead of it come ahead of it?
func (f *modelFrame) endKey() bool {
	rises := len(f.ended) == 0 || f.ended[len(f.ended)-1] < f.key
	f.ended = append(f.ended, f.key)
	f.key = ""
	return rises
}

// model is what the chapter says of a Stack.
type model struct {
	depth, most int
	open        []modelFrame
}

func newModel(depth, key int) *model {
	return &model{depth: between(depth, 64), most: between(key, 1024)}
}

// between is the number from 0 to most that is nearest to n.
func between(n, most int) int {
	if n < 0 {
		return 0
	}
	if n > most {
		return most
	}
	return n
}

func (m *model) push(kind int, items uint64) bool {
	if len(m.open) == m.depth || kind != api.Array && kind != api.Map && kind != api.Tag || kind != api.Tag && items == 0 {
		return false
	}
	m.open = append(m.open, modelFrame{kind: kind, opened: items})
	return true
}

func (m *model) put(c byte) bool {
	all := true
	for i := range m.open {
		f := &m.open[i]
		if !f.waits() {
			continue
		}
		if len(f.key) == m.most {
			all = false
			continue
		}
		f.key += string([]byte{c})
	}
	return all
}

func (m *model) end() (rises, done bool) {
	if len(m.open) == 0 {
		return true, true
	}
	f := &m.open[len(m.open)-1]
	rises = true
	if f.waits() {
		rises = f.endKey()
	}
	f.come++
	if f.left() > 0 {
		return rises, false
	}
	m.open = m.open[:len(m.open)-1]
	about, done := m.end()
	return rises && about, done
}

// pair is a Stack beside its model, what its Cap was at New, and the steps so far.
type pair struct {
	t     *testing.T
	s     *Stack
	m     *model
	cap   int
	steps []step
}

// step is a call that may change a Stack: Open of a kind and items, Byte of c, or End.
type step struct {
	call  string
	kind  int
	items uint64
	c     byte
}

func newPair(t *testing.T, depth, key int) *pair {
	t.Helper()
	p := &pair{t: t, s: New(depth, key), m: newModel(depth, key)}
	if p.s == nil {
		t.Fatalf("New(%d, %d) is nil", depth, key)
	}
	p.cap = p.s.Cap()
	if keys := p.m.depth * p.m.most; p.cap < keys || p.cap > 2*keys { // each frame may have ended a key of that length
		t.Fatalf("New(%d, %d): Cap = %d", depth, key, p.cap)
	}
	p.same()
	return p
}

// wrong ends the test, and tells the last steps and the model behind them.
func (p *pair) wrong(format string, values ...any) {
	p.t.Helper()
	p.t.Fatalf("%s\nbehind %+v\nnow %.2000q", fmt.Sprintf(format, values...), p.steps[max(0, len(p.steps)-40):], fmt.Sprintf("%+v", *p.m))
}

// same holds what may be asked without a change against the model, and asks it twice.
func (p *pair) same() {
	kind, key, left, isOpen := -1, false, uint64(0), len(p.m.open) > 0
	if isOpen {
		f := &p.m.open[len(p.m.open)-1]
		kind, key, left = f.kind, f.waits(), f.left()
	}
	for range 2 {
		if got := p.s.Depth(); got != len(p.m.open) {
			p.wrong("Depth = %d, want %d", got, len(p.m.open))
		}
		if got := p.s.Kind(); got != kind {
			p.wrong("Kind = %d, want %d", got, kind)
		}
		if got := p.s.Key(); got != key {
			p.wrong("Key = %v, want %v", got, key)
		}
		if got, ok := p.s.Left(); got != left || ok != isOpen {
			p.wrong("Left = %d, %v, want %d, %v", got, ok, left, isOpen)
		}
		if got := p.s.Cap(); got != p.cap {
			p.wrong("Cap = %d, at New %d", got, p.cap)
		}
	}
}

func (p *pair) open(kind int, items uint64) bool {
	p.steps = append(p.steps, step{call: "Open", kind: kind, items: items})
	got := p.s.Open(kind, items)
	if want := p.m.push(kind, items); got != want {
		p.wrong("Open = %v, want %v", got, want)
	}
	p.same()
	return got
}

func (p *pair) put(c byte) bool {
	p.steps = append(p.steps, step{call: "Byte", c: c})
	got := p.s.Byte(c)
	if want := p.m.put(c); got != want {
		p.wrong("Byte = %v, want %v", got, want)
	}
	p.same()
	return got
}

func (p *pair) end() (rises, done bool) {
	p.steps = append(p.steps, step{call: "End"})
	rises, done = p.s.End()
	if r, d := p.m.end(); r != rises || d != done {
		p.wrong("End = %v, %v, want %v, %v", rises, done, r, d)
	}
	p.same()
	return rises, done
}

// letters are the kinds in the steps of a text.
var letters = map[byte]int{'a': api.Array, 'm': api.Map, 't': api.Tag}

// step takes one step of a text: a, m or t and a number opens an array, a map or a tag, = hands the bytes behind it, a dot ends an item. It tells what the calls answered: y or n; of End r, if it rises, else f, in upper case if it is done.
func (p *pair) step(text string) string {
	yes := map[bool]string{true: "y", false: "n"}
	switch text[0] {
	case '.':
		rises, done := p.end()
		told := map[bool]string{true: "r", false: "f"}[rises]
		if done {
			return strings.ToUpper(told)
		}
		return told
	case '=':
		told := ""
		for i := 1; i < len(text); i++ {
			told += yes[p.put(text[i])]
		}
		return told
	}
	items, err := strconv.ParseUint(text[1:], 10, 64)
	if err != nil {
		p.t.Fatal(err)
	}
	return yes[p.open(letters[text[0]], items)]
}

// play takes steps, with a blank between two, and tells the answers in the same way.
func (p *pair) play(steps string) string {
	var told []string
	for text := range strings.SplitSeq(steps, " ") {
		if text != "" {
			told = append(told, p.step(text))
		}
	}
	return strings.Join(told, " ")
}

// played is a table of steps with their answers, on stacks for so many frames, with keys of so many bytes.
type played []struct {
	depth, key    int
	steps, answer string
}

func (l played) check(t *testing.T) {
	t.Helper()
	for _, c := range l {
		if got := newPair(t, c.depth, c.key).play(c.steps); got != c.answer {
			t.Errorf("depth %d, key %d, %.200q: %.200s, want %.200s", c.depth, c.key, c.steps, got, c.answer)
		}
	}
}

// show is what a stack tells of its innermost frame: how many are open, the kind's letter, k if it waits for a key, and what is left.
func show(s *Stack) string {
	left, ok := s.Left()
	if s.Kind() == -1 && !ok && left == 0 && !s.Key() {
		return strconv.Itoa(s.Depth())
	}
	kind := "?"
	for letter, k := range letters {
		if k == s.Kind() {
			kind = string([]byte{letter})
		}
	}
	key := "-"
	if s.Key() {
		key = "k"
	}
	return fmt.Sprintf("%d%s%s%d", s.Depth(), kind, key, left)
}

// walkOn closes what is open, as far as that needs few steps, and then opens something behind it: by that it shows what no call tells.
func (p *pair) walkOn() {
	for n := 0; n < 100 && p.s.Depth() > 0; n++ {
		p.put("ab"[n/2%2])
		p.end()
	}
	p.end()
	p.play("m3 =b . . =a . . m1 =c . . =x . .")
}

func TestExample(t *testing.T) {
	s := New(api.MaxDepth, api.MaxKey)
	if !s.Open(api.Map, 1) || !s.Open(api.Array, 1) || s.Depth() != 2 {
		t.Fatal("a map with an array as its key")
	}
	if rises, done := s.End(); !rises || done || s.Depth() != 1 || s.Key() {
		t.Fatal("the first End:", rises, done)
	}
	if rises, done := s.End(); !rises || !done || s.Depth() != 0 {
		t.Fatal("the second End:", rises, done)
	}
}

// far are numbers below 0 and beyond any size.
var far = []int{math.MinInt, math.MinInt + 1, -1 << 32, -1 << 31, -1024, -64, -2, -1, 1 << 20, 1 << 31, 1<<32 - 1, 1 << 32, 1<<32 + 3, math.MaxInt - 1, math.MaxInt}

var (
	depths = append([]int{0, 1, 2, 3, 32, 62, 63, 64, 65, 66, 127, 128, 256, 320}, far...)
	keys   = append([]int{0, 1, 2, 3, 64, 255, 256, 1022, 1023, 1024, 1025, 1026, 2048}, far...)
)

func TestNewDepth(t *testing.T) { // P13.1, R1
	for _, depth := range depths {
		for _, kind := range []int{api.Array, api.Map, api.Tag} {
			p := newPair(t, depth, 1)
			opened := 0
			for range 200 {
				if p.open(kind, 2) {
					opened++
				}
			}
			if want := between(depth, 64); opened != want || p.s.Depth() != want {
				t.Fatalf("New(%d, 1): %d frames of kind %d, %d open", depth, opened, kind, p.s.Depth())
			}
			p.walkOn()
		}
	}
}

func TestNewKey(t *testing.T) { // P13.1, R1
	for _, key := range keys {
		p := newPair(t, 3, key)
		for range 3 { // each frame's keys alone: the maps about it wait for a value
			p.open(api.Map, 2)
			fit := 0
			for range 1030 {
				if p.put('k') {
					fit++
				}
			}
			if fit != between(key, 1024) {
				t.Fatalf("New(3, %d): %d bytes fit at %d", key, fit, p.s.Depth())
			}
			p.end()
		}
		p.walkOn()
	}
}

func TestNewBoth(t *testing.T) { // P13.1, P13.3, R1
	for _, depth := range depths {
		for _, key := range keys {
			p := newPair(t, depth, key)
			if got := p.play("=a . =b ."); show(p.s) != "0" || got != "y R y R" {
				t.Fatalf("New(%d, %d), without frames: %s, %s", depth, key, show(p.s), got)
			}
			p.play("m1 =abc . =x .")
		}
	}
	most := New(64, 1024).Cap()
	if most > 64*2*1024 || most < 64*1024 {
		t.Fatal("Cap of the greatest one:", most)
	}
	if New(65, 1025).Cap() != most || New(math.MaxInt, math.MaxInt).Cap() != most {
		t.Fatal("Cap beyond the greatest one:", New(65, 1025).Cap())
	}
	if New(0, 1024).Cap() != 0 || New(64, 0).Cap() != 0 || New(-3, 5).Cap() != 0 || New(3, -5).Cap() != 0 || New(-3, -5).Cap() != 0 {
		t.Fatal("Cap of stacks without place")
	}
}

func TestEveryDepth(t *testing.T) { // P13.1, P13.2
	p := newPair(t, 64, 1024)
	fill := func(deep int) {
		t.Helper()
		for n := range 1024 {
			if !p.s.Byte(byte(deep)) {
				t.Fatal("byte", n, "of a key at", deep)
			}
		}
		if p.s.Byte('z') {
			t.Fatal("one byte more at", deep)
		}
	}
	for deep := range 64 { // each has keys of its own, and keeps them while others are open in it
		p.s.Open(api.Map, 2)
		fill(deep)
		if rises, done := p.s.End(); !rises || done || p.s.Depth() != deep+1 {
			t.Fatal("the first key at", deep)
		}
	}
	if rises, done := p.s.End(); !rises || done || p.s.Depth() != 64 {
		t.Fatal("the innermost first value")
	}
	for deep := 63; deep >= 0; deep-- {
		fill(deep)
		if rises, done := p.s.End(); rises || done || p.s.Depth() != deep+1 {
			t.Fatal("the same key again at", deep)
		}
		if rises, done := p.s.End(); !rises || done != (deep == 0) || p.s.Depth() != deep {
			t.Fatal("the last value at", deep)
		}
	}
	if p.s.Cap() != p.cap {
		t.Fatal("Cap behind all of it:", p.s.Cap(), p.cap)
	}
}

// kinds are others than the three, some of them like these in their lower bits.
var kinds = []int{api.Uint, api.Nint, api.Bytes, api.Text, api.Simple, api.Float, 9, 10, 31, 32, -1, -2, -4, -5, -6, api.Array + 8, api.Map + 16, api.Array + 256, api.Tag + 1<<16, api.Map + 1<<32, api.Tag - 1<<32, api.Array ^ math.MinInt, api.Tag ^ math.MinInt, math.MinInt, math.MaxInt}

var counts = []uint64{0, 1, 2, 3, 23, 24, 255, 256, 1 << 16, 1<<31 - 1, 1 << 31, 1<<32 - 1, 1 << 32, 1<<63 - 1, 1 << 63, 1<<63 + 1, 1<<63 + 2, math.MaxUint64 - 1, math.MaxUint64}

// places are steps to each kind of place where a frame may be opened.
var places = []string{
	"", "m1 =z . .", // no frame
	"a1", "a3 .", "a18446744073709551615", "t0", "t9", "a2 t0", "t0 t0", // an array, a tag
	"m1", "m2 =a . .", "m2 =ab", "m2 =b . . =a", "m2 =abcdefgh", "m18446744073709551615", // a key's place
	"m1 .", "m2 =a .", "m2 =b . . =a .", "m9223372036854775808 =ab .", // a value's place
	"m1 m1", "m2 =a m2 =b", "m2 =a m2 =b .", "m2 =a . m2 =b . t0", "m2 t0 a2 =b .", "m1 . m1 . a2", // in one another
}

func TestOpenRight(t *testing.T) { // P13.1
	for _, place := range places {
		for _, kind := range []int{api.Array, api.Map, api.Tag} {
			for _, items := range counts {
				p := newPair(t, 5, 3)
				p.play(place)
				before, deep := show(p.s), p.s.Depth()
				right := items > 0 || kind == api.Tag
				if got := p.open(kind, items); got != right {
					t.Fatalf("behind %s: Open(%d, %d) = %v", place, kind, items, got)
				}
				want := before
				switch {
				case kind == api.Array && right:
					want = fmt.Sprintf("%da-%d", deep+1, items)
				case kind == api.Map && right:
					want = fmt.Sprintf("%dmk%d", deep+1, items)
				case kind == api.Tag:
					want = fmt.Sprintf("%dt-1", deep+1)
				}
				if show(p.s) != want {
					t.Fatalf("behind %s, Open(%d, %d): %s, want %s", place, kind, items, show(p.s), want)
				}
				p.walkOn()
			}
		}
	}
}

func TestOpenWrong(t *testing.T) { // P13.1
	for _, place := range places {
		for _, kind := range kinds {
			for _, items := range counts {
				p := newPair(t, 5, 3)
				p.play(place)
				before := show(p.s)
				if p.open(kind, items) || show(p.s) != before {
					t.Fatalf("behind %s: Open(%d, %d), %s, ahead of it %s", place, kind, items, show(p.s), before)
				}
				p.walkOn()
			}
		}
	}
}

func TestOpenFull(t *testing.T) { // P13.1
	all := append([]int{api.Array, api.Map, api.Tag}, kinds...)
	for _, place := range places {
		deep := newPair(t, 5, 3)
		deep.play(place)
		for _, kind := range all {
			for _, items := range counts {
				p := newPair(t, deep.s.Depth(), 3) // there is just no place for one more
				p.play(place)
				before := show(p.s)
				if before != show(deep.s) || p.open(kind, items) || show(p.s) != before {
					t.Fatalf("behind %s, full: Open(%d, %d), %s, ahead of it %s", place, kind, items, show(p.s), before)
				}
				p.walkOn()
			}
		}
	}
}

func TestOpenFullThen(t *testing.T) { // P13.1: nothing has changed, and there is place again when a frame has closed
	played{
		{1, 4, "t0 t0 a1 m1 . t0 . a1 m1 .", "y n n n R y R y n R"},
		{2, 4, "m2 =a m1 a1 =b a1 . t1 =x a1 . a1 . =a m1 =c . . .", "y y y n y n r n y n r y r y y y r r R"},
		{2, 4, "m2 =b . a1 m9 . =a a1 t0 . .", "y y r y n r y y n f R"},
		{3, 4, "m1 m1 m2 =b m1 . t0 . =a a1 . . . .", "y y y y n r n r y n f r r R"},
		{3, 4, "a2 a2 a2 a0 a1 m1 t0 . . a2 . . . a1 . a1 .", "y y y n n n n r r y r r R y R y R"},
	}.check(t)
}

func TestEndAlone(t *testing.T) { // P13.2
	for _, depth := range []int{-1, 0, 1, 2, 64} {
		p := newPair(t, depth, 2)
		for range 5 {
			if got := p.play(". =abc ."); got != "R yyy R" {
				t.Fatal("without an open frame:", got)
			}
		}
		p.walkOn()
	}
}

func TestEndOfOne(t *testing.T) { // P13.2
	played{
		{1, 4, "a1 .", "y R"},
		{1, 4, "a2 . .", "y r R"},
		{1, 4, "a3 . . .", "y r r R"},
		{1, 4, "a1 . . . a1 .", "y R R R y R"},
		{1, 4, "t0 .", "y R"},
		{1, 4, "t1 .", "y R"},
		{1, 4, "t2 .", "y R"},
		{1, 4, "t18446744073709551615 .", "y R"},
		{1, 4, "m1 . .", "y r R"},
		{1, 4, "m1 =a . =a .", "y y r y R"},
		{1, 4, "m2 =a . . =b . .", "y y r r y r R"},
		{1, 4, "m3 =a . . =b . . =c . .", "y y r r y r r y r R"},
		{1, 4, "m1 =a . . m1 =a . .", "y y r R y y r R"}, // another map at the same depth
		{1, 4, "m1 =b . . m1 =a . .", "y y r R y y r R"},
		{1, 4, "m2 =b . . =c . . m2 =a . . =b . .", "y y r r y r R y y r r y r R"},
		{1, 4, "a1 =b . m1 =a . . t0 =b . m1 =a . .", "y y R y y r R y y R y y r R"},
	}.check(t)
}

func TestEndOfMany(t *testing.T) { // P13.2
	played{
		{3, 4, "t0 t0 .", "y y R"},
		{3, 4, "t0 t0 t0 .", "y y y R"},
		{3, 4, "a1 a1 a1 .", "y y y R"},
		{3, 4, "a2 t0 t0 . .", "y y y r R"},
		{3, 4, "a2 a2 a2 . . . .", "y y y r r r R"},
		{3, 4, "a2 a1 a1 . a1 a1 .", "y y y r y y R"},
		{3, 4, "m1 . a1 t0 .", "y r y y R"},
		{3, 4, "m1 . m1 . m1 . .", "y r y r y r R"},
		{3, 4, "m2 =a . m1 =b . . =b . t0 t0 .", "y y r y y r r y r y y R"},
		{4, 4, "m1 a1 . .", "y y r R"}, // the key is an array, a tag, a map
		{4, 4, "m1 t0 . .", "y y r R"},
		{4, 4, "m1 t0 t0 a1 . t0 t0 a1 .", "y y y y r y y y R"},
		{4, 4, "m1 m1 . . .", "y y r r R"},
		{4, 4, "m1 m1 m1 . . . .", "y y y r r r R"},
		{4, 4, "m1 m1 m1 m1 . . . . .", "y y y y r r r r R"},
		{4, 4, "m1 m1 m1 m1 . . a1 . m1 . t0 . m1 . .", "y y y y r r y r y r y r y r R"},
		{4, 4, "a2 t0 m1 . a1 . .", "y y y r y r R"},
		{4, 4, "m2 =b t0 a1 t0 . . =a t0 a1 t0 . .", "y y y y y r r y y y y f R"}, // with which a key ends that goes back
	}.check(t)
}

func TestSixtyFour(t *testing.T) { // P13.2
	for depth := 1; depth <= 64; depth++ {
		for _, c := range []struct {
			open string
			want string // of each End behind all
		}{
			{"t0", "R"}, {"a1", "R"}, {"m1 .", "R"}, // one closes them all
			{"a2", strings.Repeat("r ", depth) + "R"}, // each but the innermost one has one item more to come, when that closes
			{"m1", strings.Repeat("r ", depth) + "R"}, // each is the key of the one about it
			{"m1 =a", strings.Repeat("r ", depth) + "R"},
		} {
			p := newPair(t, depth, 100)
			p.play(strings.Repeat(c.open+" ", depth))
			if p.s.Depth() != depth {
				t.Fatal(c.open, "deep", p.s.Depth())
			}
			if got := p.play(strings.Repeat(". ", len(strings.Fields(c.want)))); got != c.want {
				t.Fatalf("%s, %d deep: %s", c.open, depth, got)
			}
		}
	}
}

func TestKeysInOne(t *testing.T) { // P13.2
	played{
		{1, 4, "m3 =a . . =b . . =c . .", "y y r r y r r y r R"},
		{1, 4, "m3 =a . . =a . . =a . .", "y y r r y f r y f R"},
		{1, 4, "m3 =c . . =b . . =a . .", "y y r r y f r y f R"},
		{1, 4, "m3 =z . . =b . . =c . .", "y y r r y f r y r R"}, // behind the one that ended last
		{1, 4, "m3 =a . . =ab . . =abc . .", "y y r r yy r r yyy r R"},
		{1, 4, "m3 =abc . . =ab . . =a . .", "y yyy r r yy f r y f R"},
		{1, 4, "m2 =b . . =aa . .", "y y r r yy f R"},
		{1, 4, "m2 =aa . . =b . .", "y yy r r y r R"},
		{1, 4, "m3 . . . . =a . .", "y r r f r y r R"}, // keys of no bytes
		{1, 4, "m3 . . =a . . . .", "y r r y r r f R"},
		{1, 4, "m2 =\x00 . . =\xff . .", "y y r r y r R"},
		{1, 4, "m2 =\xff . . =\x7f . .", "y y r r y f R"},
		{1, 4, "m2 =\x7f . . =\x80 . .", "y y r r y r R"},
		{1, 4, "m2 =a . . =a\x00 . .", "y y r r yy r R"},
	}.check(t)
}

func TestKeysThatFit(t *testing.T) { // P13.2
	played{
		{1, 0, "m2 =a . =a . =b . .", "y n r y r n f R"},
		{1, 0, "m2 . . . .", "y r r f R"},
		{1, 1, "m2 =a . . =b . .", "y y r r y r R"},
		{1, 1, "m3 =ab . . =ac . . =b . .", "y yn r r yn f r y r R"},
		{1, 2, "m2 =ab . . =ac . .", "y yy r r yy r R"},
		{1, 2, "m2 =ab . . =abz . .", "y yy r r yyn f R"}, // what can't be taken plays no part
		{1, 2, "m2 =abz . . =ab . .", "y yyn r r yy f R"},
		{1, 2, "m2 =abzzz . . =ac . .", "y yynnn r r yy r R"},
		{1, 2, "m2 =a . . =abc . .", "y y r r yyn r R"},
		{2, 2, "a2 m1 =abc . . m1 =abc . .", "y y yyn r r y yyn r R"},
	}.check(t)
	long := strings.Repeat("k", 1024)
	told := strings.Repeat("y", 1024)
	played{
		{1, 1024, "m2 =" + long + " . . =" + long + " . .", "y " + told + " r r " + told + " f R"},
		{1, 1024, "m2 =" + long + " . . =" + long[1:] + "l . .", "y " + told + " r r " + told + " r R"},
		{1, 1024, "m2 =" + long + "a . . =" + long + "b . .", "y " + told + "n r r " + told + "n f R"},
		{1, math.MaxInt, "m2 =" + long[1:] + " . . =" + long + "b . .", "y " + told[1:] + " r r " + told + "n r R"},
	}.check(t)
}

func TestKeysWithinKeys(t *testing.T) { // P13.2
	played{
		{2, 4, "m2 m1 =a . =x . =v . m1 =a . =y . =v .", "y y y r y r y r y y r y r y R"},
		{2, 4, "m2 m1 =a . =x . =v . m1 =a . =x . =v .", "y y y r y r y r y y r y f y R"}, // ax again
		{2, 4, "m2 m1 =a . =y . =v . m1 =a . =x . =v .", "y y y r y r y r y y r y f y R"},
		{2, 4, "m2 =h m1 =b . =x . . =h m1 =a . =x . .", "y y y y r y r r y y y r y f R"}, // the keys of the inner maps are two maps'
		{2, 8, "m2 m2 =b . . =a . . . =c m1 . . .", "y y y r r y f r r y y r r R"},        // within, a behind b; about it ba, then c
		{2, 8, "m1 m2 =a . . =a . . .", "y y y r r y f r R"},
		{2, 8, "m1 m3 =a . =zz . =a . =q . =b . . .", "y y y r yy r y f y r y r r R"},
		{2, 8, "m2 a2 =a . =b . . a2 =a . =c . .", "y y y r y r r y y r y r R"},
		{2, 8, "m2 a2 =a . =b . . a2 =a . =b . .", "y y y r y r r y y r y f R"},
		{3, 8, "m2 t0 t0 =b . . t0 t0 =a . .", "y y y y r r y y y f R"},
		{3, 8, "m2 =x m2 =x m1 =a . =b . =c . =y m1 =a . =b . . . =z . .", "y y y y y y r y r y r y y y r y r r r y r R"}, // xab, yab; xxabcyab, z
		{3, 8, "m2 =x m2 =x m1 =a . =b . =c . =w m1 =a . =b . . . =w . .", "y y y y y y r y r y r y y y r y f r r y f R"}, // xab, wab; xxabcwab, w
	}.check(t)
}

func TestByteThatSomeTake(t *testing.T) { // P13.2
	played{
		{2, 2, "m1 =a m2 =b =c . . =bd . . .", "y y y y n r r nn r r R"}, // within, bc and then bd
		{2, 2, "m1 =a m2 =b =c . . =bc . . .", "y y y y n r r nn f r R"},
		{2, 2, "m1 =a m2 =b =c . . =bb . . .", "y y y y n r r nn f r R"},
		{2, 3, "m1 =ab m2 =b =cd . . =bcc . . .", "y yy y y nn r r nnn f r R"},
		{2, 3, "m1 =ab m2 =b =cd . . =bce . . .", "y yy y y nn r r nnn r r R"},
		{3, 2, "m1 . m1 =ab m2 =c . . =d . . .", "y r y yy y n r r n r r R"}, // the outermost one waits for a value
		{3, 3, "m1 =a m1 =b m2 =c =d =e =f . . =cdf . . . .", "y y y y y y n n n r r nnn r r r R"},
		{3, 3, "m1 =a m1 =b m2 =c =d =e =f . . =cdd . . . .", "y y y y y y n n n r r nnn f r r R"},
		{4, 3, "m1 =ab t0 a1 m2 =cd . . =d . . .", "y yy y y y yn r r n r r R"},
		{2, 1, "m2 a2 =x . =y . . a1 =w . .", "y y y r n r r y y f R"},
		{2, 1, "m2 a2 =x . =y . . a1 =y . .", "y y y r n r r y y r R"},
		{2, 0, "m1 m1 =a . =a . .", "y y n r n r R"},
	}.check(t)
}

func TestByteAtAValue(t *testing.T) { // P13.2
	played{
		{1, 2, "m2 =a . =bbbbbb . =b . =cccc .", "y y r yyyyyy r y r yyyy R"},
		{1, 2, "m2 =b . =aaa . =a . .", "y y r yyy r y f R"},
		{1, 2, "m2 =a . =zz . =b . .", "y y r yy r y r R"},
		{1, 2, "m2 =ab . =zz . =ab . .", "y yy r yy r yy f R"},
		{1, 0, "m1 . =a .", "y r y R"},
		{1, 0, "a2 =abc . =d .", "y yyy r y R"},
		{1, 0, "t0 =abc .", "y yyy R"},
		{3, 0, "a1 t0 m1 . =abc .", "y y y r yyy R"},
		{2, 1, "m2 =a . a2 =xyz . =w . =b . .", "y y r y yyy r y r y r R"},
		{3, 1, "m2 =a . t0 m1 =xyz . =w . =b . .", "y y r y y ynn r y r y r R"},
		{3, 1, "m2 =b . t0 m1 =xyz . =w . =a . .", "y y r y y ynn r y r y f R"},
	}.check(t)
}

func TestByteOfAnyValue(t *testing.T) { // P13.2
	for a := range 256 {
		for b := range 256 {
			s := New(1, 1)
			s.Open(api.Map, 2)
			first := s.Byte(byte(a))
			s.End()
			s.End()
			second := s.Byte(byte(b))
			if rises, _ := s.End(); rises != (a < b) || !first || !second {
				t.Fatalf("the keys %d, %d: %v", a, b, rises)
			}
		}
	}
}

func TestStates(t *testing.T) { // P13.3
	for _, l := range [][][2]string{
		{{"", "0"}, {".", "0"}, {"=a", "0"}, {"a0", "0"}, {"a1", "1a-1"}, {".", "0"}, {"a2", "1a-2"}, {".", "1a-1"}, {"=a", "1a-1"}, {".", "0"}, {"t7", "1t-1"}, {".", "0"}},
		{{"m1", "1mk1"}, {"=a", "1mk1"}, {".", "1m-1"}, {"=a", "1m-1"}, {".", "0"}, {".", "0"}},
		{{"m3", "1mk3"}, {".", "1m-3"}, {".", "1mk2"}, {".", "1m-2"}, {".", "1mk1"}, {".", "1m-1"}, {".", "0"}},
		{
			{"m2", "1mk2"}, {"=a", "1mk2"}, {".", "1m-2"},
			{"a2", "2a-2"}, {"=b", "2a-2"}, {".", "2a-1"}, {"t0", "3t-1"}, {".", "1mk1"}, // the value has come
			{"m1", "2mk1"}, {"=c", "2mk1"}, {".", "2m-1"}, {"t5", "3t-1"}, {"m3", "4mk3"}, {"t0", "4mk3"}, // there is no place for this one
			{".", "4m-3"}, {".", "4mk2"}, {".", "4m-2"}, {".", "4mk1"}, {".", "4m-1"}, {".", "1m-1"}, // the key has come
			{"=d", "1m-1"}, {"a18446744073709551615", "2a-18446744073709551615"}, {".", "2a-18446744073709551614"},
			{"m18446744073709551615", "3mk18446744073709551615"}, {".", "3m-18446744073709551615"}, {".", "3mk18446744073709551614"},
			{"m9223372036854775808", "4mk9223372036854775808"}, {".", "4m-9223372036854775808"}, {".", "4mk9223372036854775807"},
		},
		{
			{"m1", "1mk1"}, {"m1", "2mk1"}, {"m1", "3mk1"}, {".", "3m-1"}, {".", "2m-1"}, {"a1", "3a-1"}, {".", "1m-1"}, {".", "0"},
		},
		{
			{"t0", "1t-1"}, {"t0", "2t-1"}, {"a2", "3a-2"}, {"m1", "4mk1"}, {".", "4m-1"}, {".", "3a-1"}, {"m2", "4mk2"}, {".", "4m-2"}, {".", "4mk1"}, {".", "4m-1"}, {".", "0"},
		},
	} {
		p := newPair(t, 4, 4)
		for i, c := range l {
			p.play(c[0])
			if got := show(p.s); got != c[1] {
				t.Fatalf("behind %v: %s", l[:i+1], got)
			}
		}
	}
}

func TestGreatCounts(t *testing.T) { // P13.1, P13.3
	for _, items := range counts {
		if items < 100 {
			continue
		}
		for _, kind := range []int{api.Array, api.Map} {
			p := newPair(t, 2, 2)
			p.open(kind, items)
			for n := range uint64(60) { // twice 2^63 and 30 goes round to 60
				if kind == api.Array {
					n *= 2
				}
				if left, ok := p.s.Left(); left != items-n/2 || !ok {
					t.Fatalf("Left of %d of kind %d: %d", items, kind, left)
				}
				if _, done := p.end(); done {
					t.Fatalf("%d of kind %d ended", items, kind)
				}
			}
		}
	}
}

func TestToTheLast(t *testing.T) { // P13.2
	for _, items := range []uint64{1, 2, 3, 255, 256, 257, 65535, 65536, 65537, 200000} {
		for _, kind := range []int{api.Array, api.Map} {
			all := items
			if kind == api.Map {
				all *= 2
			}
			s := New(2, 3)
			s.Open(api.Tag, 5)
			s.Open(kind, items)
			for n := range all {
				key := kind == api.Map && n%2 == 0
				if key != s.Key() || s.Depth() != 2 || s.Kind() != kind {
					t.Fatalf("item %d of %d of kind %d: %s", n, all, kind, show(s))
				}
				for shift := 24; shift > 0; shift -= 8 { // keys that rise
					if !s.Byte(byte(n >> (shift - 8))) {
						t.Fatalf("a byte of item %d", n)
					}
				}
				if rises, done := s.End(); !rises || done != (n == all-1) {
					t.Fatalf("item %d of %d of kind %d: %v, %v", n, all, kind, rises, done)
				}
			}
			if show(s) != "0" {
				t.Fatal("behind all:", show(s))
			}
		}
	}
}

// draw is a row of numbers that look drawn.
type draw uint32

func (d *draw) next(n int) int {
	*d = *d*1664525 + 1013904223
	return int(*d>>8) % n
}

// drawn takes a step that is drawn: a shallow stack opens more often than a deep one, and keys are often alike.
func (p *pair) drawn(d *draw) {
	switch n := d.next(20); {
	case n < 4 && p.s.Depth() > d.next(70):
		p.end()
	case n < 2:
		p.open(api.Map, uint64(1+d.next(3)))
	case n < 3:
		p.open(api.Array, uint64(1+d.next(2)))
	case n < 4:
		p.open(api.Tag, uint64(d.next(3)))
	case n < 5 && d.next(4) == 0:
		p.open(kinds[d.next(len(kinds))], counts[d.next(len(counts))])
	case n < 13:
		p.put("aaab\x80"[d.next(5)])
	default:
		p.end()
	}
}

func TestDrawnSteps(t *testing.T) { // P13.1, P13.2, P13.3
	var d draw
	for _, depth := range []int{1, 2, 3, 4, 6, 20, 64, 100} {
		for _, key := range []int{0, 1, 2, 3, 5, 40, 1024, 5000} {
			for round := range 12 {
				p := newPair(t, depth, key)
				if round > 8 {
					p.open(api.Array+d.next(2), counts[d.next(len(counts))])
				}
				for range 600 {
					p.drawn(&d)
				}
			}
		}
	}
}

func TestLongWay(t *testing.T) { // P13.1, P13.2, P13.3
	d := draw(13)
	for _, key := range []int{2, 4, 1024} {
		p := newPair(t, 64, key)
		for range 60000 {
			p.drawn(&d)
		}
	}
}

// rows takes all rows of so many of these steps, each on a stack of its own.
func rows(t *testing.T, depth, key, length int, steps []string) {
	t.Helper()
	total := 1
	for range length {
		total *= len(steps)
	}
	for row := range total {
		p := newPair(t, depth, key)
		for n, i := row, 0; i < length; i++ {
			p.step(steps[n%len(steps)])
			n /= len(steps)
		}
	}
}

func TestAllRows(t *testing.T) { // P13.1, P13.2, P13.3
	rows(t, 2, 1, 5, []string{"m1", "m2", "a1", "a2", "t0", "a0", "=a", "=b", "."})
	rows(t, 3, 2, 5, []string{"m1", "m2", "a1", "a2", "t0", "=a", "=b", "."})
	rows(t, 2, 1, 7, []string{"m2", "t0", "=a", "=b", "."})
	rows(t, 3, 2, 9, []string{"m2", "=a", "."})
}

func TestNoMemoryBehindNew(t *testing.T) { // P13.3, P1
	for _, depth := range []int{1, 3, 64} {
		for _, key := range []int{0, 3, 1024} {
			s := New(depth, key)
			if n := testing.AllocsPerRun(3, func() {
				for n := range 2 * depth { // by turns a key that is a map, and one that is full ahead of a value that is a map
					s.Open(api.Map, 2)
					for range key + 2 {
						s.Byte(byte(n))
					}
					if n%2 == 1 {
						s.End()
					}
				}
				for s.Depth() > 0 {
					s.Open(api.Array, 1)
					s.Byte('z')
					s.End()
				}
				s.Open(api.Text, 1)
				s.Open(api.Tag, 1)
				s.Kind()
				s.Key()
				s.Left()
				s.Cap()
				s.End()
			}); n != 0 {
				t.Errorf("New(%d, %d): memory was made behind it, %v times", depth, key, n)
			}
		}
	}
}

func TestSideBySide(t *testing.T) { // R4, R6
	d, again := draw(5), draw(5)
	a, b, c := newPair(t, 5, 3), newPair(t, 5, 3), newPair(t, 2, 1)
	others := draw(6)
	for range 3000 {
		a.drawn(&d)
		c.drawn(&others)
		b.drawn(&again) // the same steps as a's
		if show(a.s) != show(b.s) || a.s.Cap() != b.s.Cap() {
			t.Fatal("two stacks with the same steps differ:", show(a.s), show(b.s))
		}
	}
}

func TestNil(t *testing.T) { // P13.3, P1
	var s *Stack
	for range 2 {
		for _, kind := range append([]int{api.Array, api.Map, api.Tag}, kinds...) {
			for _, items := range counts {
				if s.Open(kind, items) {
					t.Fatalf("Open(%d, %d) of nil", kind, items)
				}
			}
		}
		for c := range 256 {
			if s.Byte(byte(c)) {
				t.Fatal("Byte of nil")
			}
		}
		if rises, done := s.End(); !rises || !done {
			t.Fatal("End of nil:", rises, done)
		}
		if left, ok := s.Left(); left != 0 || ok || s.Depth() != 0 || s.Kind() != -1 || s.Key() || s.Cap() != 0 {
			t.Fatal("what nil tells:", left, ok, s.Depth(), s.Kind(), s.Key(), s.Cap())
		}
	}
}
