package fault

import (
	"errors"
	"fmt"
	"io/fs"
	"math"
	"strconv"
	"strings"
	"testing"

	"ullage/api"
)

// named are all numbers that have a name, by the numbers that the document writes out.
var named = []struct {
	code   api.Errno
	number int
}{
	{api.OK, 0}, {api.ErrSize, 1}, {api.ErrSyntax, 2}, {api.ErrDepth, 3}, {api.ErrKeyLength, 4}, {api.ErrDeterminism, 5}, {api.ErrUTF8, 6}, {api.ErrKeyOrder, 7}, {api.ErrSchema, 8}, {api.ErrTruncated, 9},
	{api.ErrArg, 10}, {api.ErrForm, 11}, {api.ErrWord, 12}, {api.ErrRule, 13}, {api.ErrTwice, 14}, {api.ErrRange, 15}, {api.ErrLimit, 16}, {api.ErrClosed, 17}, {api.ErrKind, 18},
}

// codes are numbers of errors: those that have a name, but OK, and others at both sides of these and at both ends of their type.
func codes() []api.Errno {
	all := []api.Errno{-1, -2, -9, -10, -18, 19, 20, 99, 100, 256, 1 << 31, 1 << 32, 1<<32 + 3, -1 << 32, math.MaxInt - 1, math.MaxInt, math.MinInt + 1, math.MinInt}
	for _, n := range named[1:] {
		all = append(all, n.code)
	}
	return all
}

// places are those of verdicts, at both ends of their type, too.
var places = []int{0, 1, 2, 5, 9, 10, 11, 99, 100, 1<<20 - 1, 1 << 20, 1<<31 - 1, 1 << 31, 1 << 32, 1<<61 - 1, math.MaxInt - 1, math.MaxInt, -1, -9, -10, -1 << 31, math.MinInt + 1, math.MinInt}

// known is an error, and what the chapter says of it.
type known struct {
	name  string
	err   error
	text  string
	code  api.Errno
	at    int
	fault bool        // it has a *Fault that isn't nil
	is    []api.Errno // all the numbers that it is
}

// check holds all calls of k's error against what is known of it.
func (k known) check(t *testing.T) {
	t.Helper()
	if got := Code(k.err); got != k.code {
		t.Fatalf("Code of %s: %d, want %d", k.name, got, k.code)
	}
	if at, ok := At(k.err); at != k.at || ok != k.fault {
		t.Fatalf("At of %s: %d, %v, want %d, %v", k.name, at, ok, k.at, k.fault)
	}
	for _, n := range named {
		wanted := k.err == nil
		if n.code != api.OK {
			wanted = false
			for _, c := range k.is {
				wanted = wanted || c == n.code
			}
		}
		if got := Is(k.err, n.code); got != wanted {
			t.Fatalf("Is of %s and %d: %v", k.name, n.number, got)
		}
	}
	for _, c := range k.is {
		if c != api.OK && !Is(k.err, c) {
			t.Fatalf("Is of %s and %d: false", k.name, c)
		}
		for _, other := range []api.Errno{-c - 100, c ^ 1<<40, c ^ math.MinInt} {
			if Is(k.err, other) {
				t.Fatalf("Is of %s and %d: true", k.name, other)
			}
		}
	}
	if k.err != nil && k.err.Error() != k.text {
		t.Fatalf("the text of %s: %q, want %q", k.name, k.err.Error(), k.text)
	}
}

// listed is an error of a kind that can't be compared.
type listed []int

func (l listed) Error() string { return "a list of " + strconv.Itoa(len(l)) }

// claims is an error that says that it is a number, and has none.
type claims struct{ code api.Errno }

func (c claims) Error() string        { return "claims" }
func (c claims) Is(target error) bool { return target == error(c.code) }

// gives is an error that hands out a number and a fault, when it is asked, and wraps none.
type gives struct{ v api.Verdict }

func (g *gives) Error() string { return "gives" }
func (g *gives) As(target any) bool {
	switch to := target.(type) {
	case *api.Errno:
		*to = g.v.Error
	case **Fault:
		*to = &Fault{g.v}
	default:
		return false
	}
	return true
}

// outer wraps an error, and has a text that says nothing of it.
type outer struct{ inner error }

func (o outer) Error() string { return "outer" }
func (o outer) Unwrap() error { return o.inner }

// hides holds an error, but isn't asked for it.
type hides struct{ inner error }

func (h hides) Error() string { return h.inner.Error() }

// numbers are errors that are numbers alone.
func numbers() []known {
	all := []known{{"the number OK", api.OK, "ullage: error 0", api.OK, 0, false, nil}}
	for _, c := range codes() {
		all = append(all, known{fmt.Sprintf("the number %d", c), c, fmt.Sprintf("ullage: error %d", c), c, 0, false, []api.Errno{c}})
	}
	return all
}

// faults are errors of verdicts, and faults that were made by hand.
func faults() []known {
	var all []known
	for _, c := range codes() {
		for _, at := range places {
			v := api.Verdict{Error: c, At: at}
			text := fmt.Sprintf("at %d: ullage: error %d", at, c)
			all = append(all,
				known{fmt.Sprintf("Error of %v", v), Error(v), text, c, at, true, []api.Errno{c}},
				known{fmt.Sprintf("the Fault of %v", v), &Fault{v}, text, c, at, true, []api.Errno{c}})
		}
	}
	for _, at := range places {
		all = append(all, known{fmt.Sprintf("the Fault of OK at %d", at), &Fault{api.Verdict{At: at}}, fmt.Sprintf("at %d: ullage: error 0", at), api.OK, at, true, nil})
	}
	return append(all, known{"a nil Fault", (*Fault)(nil), "", api.ErrArg, 0, false, nil})
}

// others are errors of other kinds, some of which have a number or a fault all the same.
func others() []known {
	six := api.Verdict{Error: api.ErrUTF8, At: 12}
	return []known{
		{"an error of the library", errors.New("x"), "x", api.ErrArg, 0, false, nil},
		{"an error without a text", errors.New(""), "", api.ErrArg, 0, false, nil},
		{"an error with a fault's text", errors.New("at 12: ullage: error 6"), "at 12: ullage: error 6", api.ErrArg, 0, false, nil},
		{"an error that wraps none", outer{}, "outer", api.ErrArg, 0, false, nil},
		{"an error that hides a fault", hides{Error(six)}, "at 12: ullage: error 6", api.ErrArg, 0, false, nil},
		{"a list", listed{1, 2}, "a list of 2", api.ErrArg, 0, false, nil},
		{"an error that says it is one", claims{api.ErrRule}, "claims", api.ErrArg, 0, false, []api.Errno{api.ErrRule}},
		{"an error that hands out", &gives{six}, "gives", api.ErrUTF8, 12, true, nil},
		{"an array of the library's errors", errors.Join(errors.New("x"), errors.New("y")), "x\ny", api.ErrArg, 0, false, nil},
		{"the library's own", fs.ErrNotExist, "file does not exist", api.ErrArg, 0, false, nil},
	}
}

// trees are errors of which more than one is wrapped: the first one that has it tells a number, or a place, and they are all that each of them is.
func trees() []known {
	one, two := Error(api.Verdict{Error: api.ErrDepth, At: 5}), Error(api.Verdict{Error: api.ErrTwice, At: 7})
	three, fourteen := "at 5: ullage: error 3", "at 7: ullage: error 14"
	both := []api.Errno{api.ErrDepth, api.ErrTwice}
	return []known{
		{"two faults", errors.Join(one, two), three + "\n" + fourteen, api.ErrDepth, 5, true, both},
		{"two faults, the other way", errors.Join(two, one), fourteen + "\n" + three, api.ErrTwice, 7, true, both},
		{"a number and a fault", errors.Join(api.ErrTwice, one), "ullage: error 14\n" + three, api.ErrTwice, 5, true, both},
		{"a fault and a number", errors.Join(one, api.ErrTwice), three + "\nullage: error 14", api.ErrDepth, 5, true, both},
		{"the number OK and a fault", errors.Join(api.OK, one), "ullage: error 0\n" + three, api.OK, 5, true, both[:1]},
		{"another one and a fault", errors.Join(errors.New("x"), one), "x\n" + three, api.ErrDepth, 5, true, both[:1]},
		{"a fault deep in the first", errors.Join(outer{outer{errors.Join(outer{}, one)}}, two), "outer\n" + fourteen, api.ErrDepth, 5, true, both},
		{"two told in one line", fmt.Errorf("%w, then %w", two, one), fourteen + ", then " + three, api.ErrTwice, 7, true, both},
		{"two that were wrapped", errors.Join(Wrap(two, "b"), Wrap(one, "a")), "b: " + fourteen + "\na: " + three, api.ErrTwice, 7, true, both},
	}
}

// all are errors of every kind, but nil.
func all() []known {
	var l []known
	for _, more := range [][]known{numbers(), faults(), others(), trees()} {
		l = append(l, more...)
	}
	return l
}

// some are a few of each kind, for tests in which each is wrapped in many ways.
func some() []known {
	var l []known
	for _, more := range [][]known{numbers(), faults()} {
		for i := 0; i < len(more); i += 1 + len(more)/12 {
			l = append(l, more[i])
		}
		l = append(l, more[len(more)-1])
	}
	return append(append(l, others()...), trees()...)
}

// wraps are ways in which an error is wrapped, and what its text becomes: by Wrap, by what the library has, and by kinds of others.
var wraps = []struct {
	name string
	wrap func(err error) error
	text func(text string) string
}{
	{"Wrap", func(err error) error { return Wrap(err, "what") }, func(s string) string { return "what: " + s }},
	{"Wrap with no text", func(err error) error { return Wrap(err, "") }, func(s string) string { return ": " + s }},
	{"Errorf", func(err error) error { return fmt.Errorf("<%w>", err) }, func(s string) string { return "<" + s + ">" }},
	{"Errorf of two", func(err error) error { return fmt.Errorf("%w %w", errors.New("x"), err) }, func(s string) string { return "x " + s }},
	{"Join", func(err error) error { return errors.Join(err) }, func(s string) string { return s }},
	{"Join of more", func(err error) error { return errors.Join(listed{}, nil, err, errors.New("y")) }, func(s string) string { return "a list of 0\n" + s + "\ny" }},
	{"PathError", func(err error) error { return &fs.PathError{Op: "open", Path: "p", Err: err} }, func(s string) string { return "open p: " + s }},
	{"NumError", func(err error) error { return &strconv.NumError{Func: "F", Num: "1", Err: err} }, func(s string) string { return "strconv.F: parsing \"1\": " + s }},
	{"outer", func(err error) error { return outer{err} }, func(string) string { return "outer" }},
}

// through is k wrapped in that way.
func (k known) through(i int) known {
	w := wraps[i]
	k.name, k.err, k.text = w.name+" of "+k.name, w.wrap(k.err), w.text(k.text)
	return k
}

func TestExample(t *testing.T) { // the chapter's: of ErrDepth at 5, wrapped, Code tells ErrDepth, At 5
	err := Wrap(Error(api.Verdict{Error: api.ErrDepth, At: 5}), "a list")
	if Code(err) != api.ErrDepth {
		t.Error(Code(err))
	}
	if at, ok := At(err); at != 5 || !ok {
		t.Error(at, ok)
	}
	if err.Error() != "a list: at 5: ullage: error 3" {
		t.Error(err)
	}
}

func TestErrorOfOK(t *testing.T) { // P12.1: none, which is told by holding it against nil
	for _, at := range places {
		if err := Error(api.Verdict{At: at}); err != nil {
			t.Errorf("Error of OK at %d isn't nil: %v", at, err)
		}
	}
}

func TestErrorOfNumbers(t *testing.T) { // P12.1: the texts of all numbers that have a name, written out
	for _, n := range named {
		if int(n.code) != n.number {
			t.Fatalf("%d is called %d", n.number, n.code)
		}
		if n.code == api.OK {
			continue
		}
		for _, c := range []struct {
			at   int
			text string
		}{
			{0, "at 0: ullage: error "}, {1, "at 1: ullage: error "}, {12, "at 12: ullage: error "}, {-1, "at -1: ullage: error "}, {-305, "at -305: ullage: error "},
			{math.MaxInt, "at 9223372036854775807: ullage: error "}, {math.MinInt, "at -9223372036854775808: ullage: error "},
		} {
			if text := Error(api.Verdict{Error: n.code, At: c.at}).Error(); text != c.text+strconv.Itoa(n.number) {
				t.Errorf("Error of %d at %d: %q", n.number, c.at, text)
			}
		}
	}
	if text := Error(api.Verdict{Error: math.MinInt, At: -1}).Error(); text != "at -1: ullage: error -9223372036854775808" {
		t.Error(text)
	}
	if text := Error(api.Verdict{Error: math.MaxInt, At: 3}).Error(); text != "at 3: ullage: error 9223372036854775807" {
		t.Error(text)
	}
}

func TestErrorByTheLibrary(t *testing.T) { // P12.1: what an error of a verdict has and is, as the library asks
	for _, c := range codes() {
		for _, at := range places {
			v := api.Verdict{Error: c, At: at}
			err := Error(v)
			var f *Fault
			if !errors.As(err, &f) || f == nil || f.Verdict != v {
				t.Fatalf("Error of %v has the fault %v", v, f)
			}
			var code api.Errno
			if !errors.As(err, &code) || code != c {
				t.Fatalf("Error of %v has the number %d", v, code)
			}
			if !errors.Is(err, c) || errors.Is(err, c+1) || errors.Is(err, -c-100) || errors.Is(err, api.OK) || errors.Is(err, errors.New(c.Error())) {
				t.Fatalf("Error of %v is another number, or isn't that", v)
			}
		}
	}
}

func TestFault(t *testing.T) { // P12.1: Error and Unwrap of a *Fault, also of the number OK
	for _, c := range append(codes(), api.OK) {
		for _, at := range places {
			f := &Fault{Verdict: api.Verdict{Error: c, At: at}}
			if text := f.Error(); text != fmt.Sprintf("at %d: ullage: error %d", at, c) {
				t.Fatalf("Error of %v: %q", *f, text)
			}
			err := f.Unwrap()
			if code, ok := err.(api.Errno); !ok || code != c {
				t.Fatalf("Unwrap of %v: %v", *f, err)
			}
			if f.Verdict != (api.Verdict{Error: c, At: at}) {
				t.Fatalf("the fault of %d at %d was changed to %v", c, at, *f)
			}
		}
	}
	zero := &Fault{}
	if zero.Error() != "at 0: ullage: error 0" || zero.Unwrap() == nil {
		t.Errorf("a zero fault: %q, %v", zero.Error(), zero.Unwrap())
	}
}

func TestNilFault(t *testing.T) { // P12.1: the empty text, and nil; so it has neither a number nor a place, nor is it nil as an error
	var f *Fault
	if f.Error() != "" {
		t.Errorf("its text: %q", f.Error())
	}
	if err := f.Unwrap(); err != nil {
		t.Errorf("its Unwrap: %v", err)
	}
	k := known{"a nil Fault", f, "", api.ErrArg, 0, false, nil}
	k.check(t)
	for i := range wraps {
		k.through(i).check(t)
	}
	if at, ok := At(errors.Join(f, errors.New("x"))); at != 0 || ok {
		t.Errorf("At of it and another one: %d, %v", at, ok)
	}
}

func TestOfNil(t *testing.T) { // P12.1
	if Code(nil) != api.OK {
		t.Errorf("Code: %d", Code(nil))
	}
	if at, ok := At(nil); at != 0 || ok {
		t.Errorf("At: %d, %v", at, ok)
	}
	if !Is(nil, api.OK) {
		t.Error("Is OK: false")
	}
	for _, c := range codes() {
		if Is(nil, c) {
			t.Errorf("Is %d: true", c)
		}
	}
	for _, at := range places {
		known{fmt.Sprintf("Error of OK at %d", at), Error(api.Verdict{At: at}), "", api.OK, 0, false, nil}.check(t)
	}
}

func TestOfErrors(t *testing.T) { // P12.1: Code, At and Is of errors of all kinds, with the same number and others
	for _, k := range all() {
		k.check(t)
	}
	for _, c := range codes() {
		for _, d := range codes() {
			for _, err := range []error{c, Error(api.Verdict{Error: c, At: 5}), Wrap(c, "a"), Wrap(Wrap(Error(api.Verdict{Error: c, At: 5}), "b"), "a")} {
				if got := Is(err, d); got != (c == d) {
					t.Fatalf("Is of %v and %d: %v", err, d, got)
				}
			}
		}
	}
}

func TestOK(t *testing.T) { // P12.1: of OK, Is asks whether an error is nil, and nothing else
	for _, err := range []error{api.OK, &Fault{}, &Fault{api.Verdict{At: 5}}, (*Fault)(nil), Wrap(api.OK, ""), Wrap(&Fault{}, "a"), errors.Join(api.OK), claims{api.OK}, &gives{}} {
		if Is(err, api.OK) {
			t.Errorf("Is of %#v and OK: true", err)
		}
	}
}

func TestWrapped(t *testing.T) { // P12.1 and P12.2: errors of all kinds wrapped once, and some of them in all ways up to three times
	for _, k := range all() {
		for i := range wraps {
			k.through(i).check(t)
		}
	}
	for _, k := range some() {
		for i := range wraps {
			for j := range wraps {
				k.through(i).through(j).check(t)
				for l := range wraps {
					k.through(i).through(j).through(l).check(t)
				}
			}
		}
	}
}

func TestWrapOfNil(t *testing.T) { // P12.2
	for _, what := range []string{"", "a", ": ", "\xff", strings.Repeat("long", 1000)} {
		if err := Wrap(nil, what); err != nil {
			t.Errorf("Wrap of nil and %q isn't nil: %v", what, err)
		}
		if err := Wrap(Error(api.Verdict{At: 5}), what); err != nil {
			t.Errorf("Wrap of Error of OK and %q isn't nil: %v", what, err)
		}
		if err := Wrap(Wrap(nil, what), "a"); err != nil {
			t.Errorf("Wrap of Wrap of nil isn't nil: %v", err)
		}
	}
}

// whats are texts of any bytes.
func whats() []string {
	all := []string{"", "a", "what", " ", ":", ": ", ": : ", "a: b", "at 5: ullage: error 3", "%w %d %s %%", "%!", "\n", "a\nb", "\x00", "\x00: \x00", "\xff", "\xc3", "\xed\xa0\x80", "é", "\ufeff", "\u2028", "\\n\"'`", strings.Repeat("a", 1<<16)}
	every := make([]byte, 256)
	for i := range every {
		every[i] = byte(i)
		all = append(all, string(every[i:i+1]))
	}
	return append(all, string(every))
}

func TestWrapTexts(t *testing.T) { // P12.2: the text, letter by letter, and that a text alone changes nothing else
	for _, what := range whats() {
		for _, k := range some() {
			k.err, k.text = Wrap(k.err, what), what+": "+k.text
			k.check(t)
		}
		for _, of := range whats() {
			err := Wrap(errors.New(of), what)
			if err.Error() != what+": "+of {
				t.Fatalf("Wrap of %q and %q: %q", short(of), short(what), short(err.Error()))
			}
			if err := Wrap(err, of); err.Error() != of+": "+what+": "+of {
				t.Fatalf("Wrap of that and %q: %q", short(of), short(err.Error()))
			}
		}
	}
}

// short is the beginning of a text that may be long.
func short(s string) string { return s[:min(len(s), 100)] }

func TestWrapByTheLibrary(t *testing.T) { // P12.2: it has and is what the wrapped error has and is, also of other kinds, as the library asks
	inner := &fs.PathError{Op: "open", Path: "p", Err: fs.ErrPermission}
	marks := []error{errors.New("x"), errors.New("x")}
	for _, times := range []int{1, 2, 3, 100} {
		var err error = errors.Join(marks[0], listed{3}, inner, Error(api.Verdict{Error: api.ErrRule, At: 8}))
		joined := err
		for range times {
			err = Wrap(err, "a")
		}
		var p *fs.PathError
		var l listed
		var f *Fault
		var n *strconv.NumError
		if !errors.As(err, &p) || p != inner || !errors.As(err, &l) || l[0] != 3 || !errors.As(err, &f) || f.Verdict != (api.Verdict{Error: api.ErrRule, At: 8}) {
			t.Fatalf("%d times: it lacks what was wrapped: %v, %v, %v", times, p, l, f)
		}
		if errors.As(err, &n) {
			t.Fatalf("%d times: it has what wasn't wrapped", times)
		}
		if !errors.Is(err, joined) || !errors.Is(err, marks[0]) || !errors.Is(err, inner) || !errors.Is(err, fs.ErrPermission) || !errors.Is(err, api.ErrRule) {
			t.Fatalf("%d times: it isn't what was wrapped", times)
		}
		if errors.Is(err, marks[1]) || errors.Is(err, fs.ErrNotExist) || errors.Is(err, api.ErrArg) || errors.Is(err, api.OK) {
			t.Fatalf("%d times: it is what wasn't wrapped", times)
		}
	}
	for _, k := range all() {
		var f, g *Fault
		var c, d api.Errno
		w := Wrap(k.err, "a")
		if errors.As(k.err, &f) != errors.As(w, &g) || errors.As(k.err, &c) != errors.As(w, &d) || c != d || (f == nil) != (g == nil) || f != nil && f.Verdict != g.Verdict {
			t.Fatalf("Wrap of %s has another number or fault: %v, %v", k.name, d, g)
		}
	}
}

func TestWrapManyTimes(t *testing.T) { // P12.2: texts and what it has, of very many in one another, alone and with others between
	const times = 1 << 18
	for _, k := range some() {
		text := k.text
		for i := range 300 {
			what := strconv.Itoa(i)
			k.err, text = Wrap(k.err, what), what+": "+text
			k.text = text
		}
		k.name = "300 times Wrap of " + k.name
		k.check(t)
	}
	for _, k := range append(trees(), known{"a fault", Error(api.Verdict{Error: api.ErrClosed, At: 3}), "at 3: ullage: error 17", api.ErrClosed, 3, true, []api.Errno{api.ErrClosed}}, known{"none", errors.New("x"), "x", api.ErrArg, 0, false, nil}) {
		for range times {
			k.err = Wrap(k.err, "ab")
		}
		k.name, k.text = "very many times Wrap of "+k.name, strings.Repeat("ab: ", times)+k.text
		k.check(t)
		k.through(2).check(t)
		k.err, k.text = Wrap(outer{k.err}, "c"), "c: outer"
		k.check(t)
	}
}

func TestWrapSideBySide(t *testing.T) { // R4, R6: one error wrapped more than once stays what it is, and so do those made of it
	for _, k := range some() {
		a, b, c := k, k, k
		a.err, a.text = Wrap(k.err, "a"), "a: "+k.text
		b.err, b.text = Wrap(k.err, "b"), "b: "+k.text
		c.err, c.text = Wrap(a.err, "c"), "c: a: "+k.text
		for range 3 {
			for _, l := range []known{k, a, b, c, k} {
				l.check(t)
			}
		}
	}
}

func TestAnswersWrittenOver(t *testing.T) { // R4: what was answered is nobody else's
	v := api.Verdict{Error: api.ErrSchema, At: 2}
	first, second := Error(v), Error(v)
	var f *Fault
	if !errors.As(first, &f) {
		t.Fatal("no fault")
	}
	f.Verdict = api.Verdict{Error: api.ErrLimit, At: 9}
	v = api.Verdict{}
	third := Error(api.Verdict{Error: api.ErrSchema, At: 2})
	for _, err := range []error{second, third} {
		known{"one beside that", err, "at 2: ullage: error 8", api.ErrSchema, 2, true, []api.Errno{api.ErrSchema}}.check(t)
	}
	known{"that one", first, "at 9: ullage: error 16", api.ErrLimit, 9, true, []api.Errno{api.ErrLimit}}.check(t)
}

func TestNothingIsChanged(t *testing.T) { // R4: no call changes what is handed in
	for _, c := range append(codes(), api.OK) {
		for _, at := range places {
			f := &Fault{api.Verdict{Error: c, At: at}}
			l := listed{1, 2, 3}
			for _, err := range []error{f, Wrap(f, "a"), errors.Join(l, f), outer{f}} {
				Code(err)
				At(err)
				Is(err, c)
				Is(err, api.ErrArg)
				_ = Wrap(Wrap(err, "a"), "b").Error()
			}
			if f.Verdict != (api.Verdict{Error: c, At: at}) || len(l) != 3 || l[0] != 1 || l[1] != 2 || l[2] != 3 {
				t.Fatalf("the fault of %d at %d became %v, the list %v", c, at, f.Verdict, l)
			}
		}
	}
}
