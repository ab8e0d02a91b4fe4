package cand

import (
	"iter"
	"math"
	"math/rand"
	"slices"
	"testing"
)

const (
	minInt = math.MinInt
	maxInt = math.MaxInt
)

// strangers are numbers that are in no set.
var strangers = []int{-1, -2, -63, -64, -65, -128, -255, -256, -257, 256, 257, 319, 320, 511, 512, 1 << 32, 1<<32 + 1, -1 << 32, minInt, minInt + 1, minInt + 64, maxInt, maxInt - 63, maxInt - 64}

// edges are numbers at which a word, or all, begins or ends.
var edges = []int{0, 1, 2, 31, 32, 62, 63, 64, 65, 126, 127, 128, 129, 191, 192, 193, 254, 255}

// model is a set, as which numbers are in it.
type model [256]bool

func modelOf(l ...int) model {
	var m model
	for _, n := range l {
		if n >= 0 && n < len(m) {
			m[n] = true
		}
	}
	return m
}

func (m model) list() []int {
	var l []int
	for n, in := range m {
		if in {
			l = append(l, n)
		}
	}
	return l
}

// wantNumbers wants s to have just those numbers, by all calls.
func wantNumbers(t *testing.T, s Set, m model) {
	t.Helper()
	want := m.list()
	if s.Len() != len(want) {
		t.Fatalf("%v: Len %d", want, s.Len())
	}
	all := s.All()
	for range 2 { // it tells the same again
		if l := slices.Collect(all); !slices.Equal(l, want) {
			t.Fatalf("%v: All %v", want, l)
		}
	}
	for n, in := range m {
		if s.Has(n) != in {
			t.Fatalf("%v: Has %d: %v", want, n, s.Has(n))
		}
	}
	for _, n := range strangers {
		if s.Has(n) {
			t.Fatalf("%v: Has %d", want, n)
		}
	}
	if s != Of(want...) {
		t.Fatalf("%v isn't the same as Of of these: %v", want, s)
	}
}

func TestOf(t *testing.T) { // P19.1
	wantNumbers(t, Of(), model{})
	wantNumbers(t, Of(nil...), model{})
	wantNumbers(t, Of([]int{}...), model{})
	wantNumbers(t, Set{}, model{})
	wantNumbers(t, Of(strangers...), model{})
	for n := range 256 {
		wantNumbers(t, Of(n), modelOf(n))
		wantNumbers(t, Of(n, n, n), modelOf(n))
		wantNumbers(t, Of(append(slices.Clone(strangers), n)...), modelOf(n))
		wantNumbers(t, Of(append([]int{n}, strangers...)...), modelOf(n))
	}
	wantNumbers(t, Of(3, 64, 255, -1, 256, 3), modelOf(3, 64, 255))
	for _, n := range strangers {
		wantNumbers(t, Of(n), model{})
		wantNumbers(t, Of(0, n, 255), modelOf(0, 255))
	}
	r := rand.New(rand.NewSource(1))
	for range 3000 {
		l := drawNumbers(r)
		kept := slices.Clone(l)
		s := Of(l...)
		wantNumbers(t, s, modelOf(l...))
		if !slices.Equal(l, kept) {
			t.Fatalf("%v became %v", kept, l)
		}
		for i := range l { // nothing of it is kept
			l[i] = r.Intn(256)
		}
		wantNumbers(t, s, modelOf(kept...))
		r.Shuffle(len(kept), func(i, j int) { kept[i], kept[j] = kept[j], kept[i] })
		if Of(kept...) != s || Of(append(kept, kept...)...) != s {
			t.Fatalf("%v in another order, or twice: %v", kept, Of(kept...))
		}
	}
	wantNumbers(t, Of(slices.Repeat([]int{7, -7, 263}, 1<<18)...), modelOf(7))
}

// drawNumbers are numbers of any kind, as they come.
func drawNumbers(r *rand.Rand) []int {
	var l []int
	for range []int{0, 1, 2, 5, 40, 500}[r.Intn(6)] {
		switch r.Intn(4) {
		case 0:
			l = append(l, edges[r.Intn(len(edges))])
		case 1:
			l = append(l, strangers[r.Intn(len(strangers))])
		case 2:
			l = append(l, r.Intn(600)-200)
		default:
			l = append(l, r.Intn(256))
		}
	}
	return l
}

func TestWith(t *testing.T) { // P19.1
	r := rand.New(rand.NewSource(2))
	for range 100 {
		l := drawNumbers(r)
		s, kept := Of(l...), Of(l...)
		for n := -300; n < 600; n++ {
			if got, want := s.With(n), Of(append(l, n)...); got != want || got.Has(n) != (n >= 0 && n < 256) {
				t.Fatalf("%v with %d: %v", l, n, got)
			}
			if s != kept {
				t.Fatalf("With changed it: %v", s)
			}
		}
		for _, n := range strangers {
			if s.With(n) != s {
				t.Fatalf("%v with %d: %v", l, n, s.With(n))
			}
		}
		for _, n := range edges {
			wantNumbers(t, s.With(n), modelOf(append(l, n)...))
		}
	}
	var s Set
	for n := range 256 { // one by one
		s = s.With(n)
		if s.Len() != n+1 {
			t.Fatalf("with %d: %d", n, s.Len())
		}
	}
	if s != (Set{math.MaxUint64, math.MaxUint64, math.MaxUint64, math.MaxUint64}) {
		t.Fatalf("all: %v", s)
	}
}

func TestOrAnd(t *testing.T) { // P19.1
	wantBoth := func(a, b []int) {
		t.Helper()
		s, u := Of(a...), Of(b...)
		m, o := modelOf(a...), modelOf(b...)
		var either, both model
		for n := range m {
			either[n], both[n] = m[n] || o[n], m[n] && o[n]
		}
		wantNumbers(t, s.Or(u), either)
		wantNumbers(t, u.Or(s), either)
		wantNumbers(t, s.And(u), both)
		wantNumbers(t, u.And(s), both)
		if s != Of(a...) || u != Of(b...) {
			t.Fatalf("%v and %v became %v and %v", a, b, s, u)
		}
	}
	for _, a := range edges {
		for _, b := range edges {
			wantBoth([]int{a}, []int{b})
			wantBoth([]int{a, b}, []int{b})
			wantBoth([]int{a, b}, nil)
		}
	}
	r := rand.New(rand.NewSource(3))
	for range 2000 {
		wantBoth(drawNumbers(r), drawNumbers(r))
	}
	every := make([]int, 256)
	for n := range every {
		every[n] = n
	}
	wantBoth(every, nil)
	wantBoth(every, every)
	wantBoth(every[:128], every[128:])
	wantBoth(every, edges)
}

func TestSame(t *testing.T) { // P19.1: just those with the same numbers
	for a := range 256 {
		for b := range 256 {
			if (Of(a) == Of(b)) != (a == b) || Of(a, b) != Of(b, a) || (Of(a, b) == Of(a)) != (a == b) || Of(a).Or(Of(b)) != Of(b).With(a) || (Of(a).And(Of(b)) == Set{}) != (a != b) {
				t.Fatalf("%d, %d", a, b)
			}
		}
	}
	came := map[Set]int{} // a set may be a key
	for n := range 256 {
		came[Of(n, 0)] = n
	}
	if len(came) != 256 || came[Of(0)] != 0 || came[Of(255, 0)] != 255 {
		t.Fatalf("as keys: %d", len(came))
	}
}

func TestAll(t *testing.T) { // P19.1: one by one; as often as one likes, broken off or not
	r := rand.New(rand.NewSource(4))
	for range 200 {
		s := Of(drawNumbers(r)...)
		want := slices.Collect(s.All())
		all := s.All()
		for most := range len(want) + 1 {
			if got := first(all, most+1); !slices.Equal(got, want[:min(most+1, len(want))]) {
				t.Fatalf("%v broken off behind %d: %v", want, most+1, got)
			}
		}
		kept := s
		for n := range all { // what is done to s meanwhile changes nothing
			s = s.With(n + 1)
			if s.Len() > 250 {
				s = Set{}
			}
		}
		if got := slices.Collect(all); !slices.Equal(got, want) {
			t.Fatalf("%v, later: %v", want, got)
		}
		pairs := 0
		for a := range kept.All() { // one in another
			for b := range all {
				if !kept.Has(a) || !kept.Has(b) {
					t.Fatalf("%v has %d or %d", want, a, b)
				}
				pairs++
			}
		}
		if pairs != len(want)*len(want) {
			t.Fatalf("%v: %d pairs", want, pairs)
		}
	}
	for range (Set{}).All() {
		t.Fatal("none is one")
	}
	if (Set{}).All() == nil {
		t.Fatal("All is nil")
	}
}

// first are the first numbers, up to so many.
func first(all iter.Seq[int], most int) []int {
	var l []int
	for n := range all {
		l = append(l, n)
		if len(l) == most {
			break
		}
	}
	return l
}
