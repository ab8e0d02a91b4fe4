package cddl

import (
	"math/rand"
	"slices"
	"strconv"
	"strings"
	"testing"

	"ullage/api"
)

func TestWords(t *testing.T) { // P17.2: the first word, up to the first blank
	for _, line := range []string{
		"", " ", "  ", "fly", "fly 1", "\t", "\n", "\r", "\x00", "\xff", "0", "-1", "61:1", "?", ":", "nil", "anything", "an", "a", "any1", "any\t", "any\n", "any\r", "any\x00", "any,", "any:", "any?", "anyany", "any_", "any\u00a0", "any\u2003", "xany", "\ufeffany",
		" any", "  any", " int 1 2", " fly", "\tany", "\nany", "\rany", "\tint 1 2", "Any", "ANY", "aNy", "anY", "Int 0 1", "INT 0 1", "Record", "RECORD 61:1", "Value 00", "VALUE 00",
		"int\t0 1", "int\t0\t1", "int,0 1", "int0 1", "int-5 10", "ints 0 1", "uint 0 1", "integer 0 1", "bool", "bytes 0 1", "text 0 1", "array 0 1 2", "map", "tag 1 2", "float", "simple 1", "fields", "optional", "write", "limits 1 2 3", "blobs 1 2", "strings 1 2", "values 00", "reals", "lists 1 2 3", "tuples", "records", "tag", "choices 1", "choice\t1", "tuple\n", "real\r", "value\n00",
	} {
		wantNode(t, line, api.ErrWord)
		wantNode(t, line+" ", api.ErrWord)
		wantNode(t, line+" any", api.ErrWord)
	}
	for _, r := range rules {
		for i := range len(r.word) {
			rest := " 1 2 3"
			wantNode(t, r.word[:i]+rest, api.ErrWord)
			wantNode(t, r.word[i+1:]+rest, api.ErrWord)
			wantNode(t, r.word[:i]+" "+r.word[i:], api.ErrWord)
			wantNode(t, r.word[:i]+r.word[i+1:], api.ErrWord)
			wantNode(t, r.word[:i]+strings.ToUpper(r.word[i:i+1])+r.word[i+1:]+rest, api.ErrWord)
			wantNode(t, r.word[:i]+"x"+r.word[i+1:]+rest, api.ErrWord)
			wantNode(t, r.word[:i]+"x"+r.word[i:]+rest, api.ErrWord)
		}
		wantNode(t, r.word+"x", api.ErrWord)
		wantNode(t, r.word+r.word, api.ErrWord)
		wantNode(t, r.word+"  ", api.ErrForm)
		for _, other := range rules {
			checkNode(t, r.word+" "+other.word)
			checkNode(t, r.word+other.word)
		}
	}
}

func TestWrongLines(t *testing.T) { // P17.2: each wrong in one thing
	for _, line := range []string{
		"any ", "any  ", "any 1", "any any", "any \n", "any 0 0", "any -", "real ", "real 1", "real 0", "any\x20\x00",
		"int", "int ", "int  ", "int 1", "int 1 ", "int  1", "int 1  ", "int  1 2", "int 1  2", "int 1 2 ", "int 1 2  ", "int 1 2 3", "int 1 2\n", "int 1 2\r", "int 1 2\t", "int 1\t2", "int \t1 2", "int 1\n2", "int 1 \n2", "int 1 2\x00", "int 1,2", "int 1..2", "int one two",
		"blob", "blob 1", "blob 1 ", "blob 1 2 3", "blob 1  2", "blob -1 2", "blob -1 -1", "blob 2 1", "blob 1 2 ", "string", "string 1", "string -1 2", "string 2 1", "string 1 2 3", "string 1 2 ", "string -5 -1",
		"list", "list 1", "list 1 2", "list 1 2 ", "list 1 2 3 ", "list 1 2 3 4", "list  1 2 3", "list 1 2  3", "list -1 2 3", "list 2 1 3", "list 1 2 -3", "list 1 2 10000", "list 1 2 03", "list 1 2 +3", "list 1 2 3?", "list 1 2 :3",
		"tagged", "tagged 1", "tagged 1 ", "tagged -1 2", "tagged 1 2 3", "tagged 1 -2", "tagged 1 10000", "tagged 1 2 ", "tagged  1 2", "tagged 01 2", "tagged 1 02", "tagged -0 2", "tagged 9223372036854775808 1", "tagged -9223372036854775808 1",
		"tuple ", "tuple  ", "tuple 1 ", "tuple  1", "tuple 1  2", "tuple -1", "tuple 10000", "tuple 01", "tuple 00", "tuple +1", "tuple -0", "tuple 1?", "tuple a", "tuple 61:1", "tuple 1\t2", "tuple 1\n", "tuple 1 2 x", "tuple 1,2",
		"choice", "choice ", "choice  ", "choice 1 ", "choice  1", "choice 1  2", "choice -1", "choice 10000", "choice 01", "choice 1 x 2", "choice 61:1", "choice 1?",
		"value", "value ", "value  ", "value 0", "value 000", "value 0000", "value 00 ", "value  00", "value 00 00", "value 0 0", "value 00\n", "value 00\t", "value 0x00", "value 0g", "value g0", "value -0", "value +1", "value 6", "value 61", "value 616", "value 6161 ", "value 616162", "value 61 61", "value 1817", "value 18", "value 1", "value F4", "value fA", "value f4f4", "value 80", "value 8100", "value a0", "value a10000", "value c000", "value c0", "value f90000", "value f93e00", "value fa47c35000", "value fb3ff199999999999a", "value f97e00", "value ff", "value fc", "value 1c", "value 5f", "value 7f", "value 9f", "value bf", "value f800", "value f81f", "value f818", "value f8", "value 61ff", "value 62c328", "value 61c3", "value 1900ff", "value 1a0000ffff", "value 1b00000000ffffffff", "value 5801ff", "value 7800", "value 7b0000000000000001ff", "value 5bffffffffffffffff", "value 7bffffffffffffffff", "value 5b7fffffffffffffff00", "value 9bffffffffffffffff", "value Ff", "value ６１",
		"record ", "record  ", "record 61", "record 61 1", "record 61: 1", "record 61 :1", "record 61:", "record 61:?", "record :", "record :?", "record ?", "record 1", "record 61:1 ", "record  61:1", "record 61:1  62:1", "record 61:1  ", "record 61:1??", "record 61:1? ?", "record 61:1 ?", "record 61:?1", "record 61?:1", "record ?61:1", "record 61:1?2", "record 61::1", "record 61:1:", "record :61:1", "record 61:1:1", "record ::1", "record 61:-1", "record 61:10000", "record 61:10000?", "record 61:01", "record 61:00", "record 61:+1", "record 61:-0", "record 61:x", "record 61:1x", "record 6:1", "record 616:1", "record 6g:1", "record 6A:1", "record 4A:1", "record  :1", "record ff:1", "record 61c3:1", "record 61:1 61:1", "record 61:1 61:2", "record 61:1 61:1?", "record 61:1? 62:2 61:3", "record :1 :1", "record 61:1\n", "record 61:1\t62:1", "record 61:1,62:1", "record 61=1", "record 61;1", "record a:1", "record 0x61:1", "record 61:1 62", "record 62 61:1", "record 61:1 any",
	} {
		wantNode(t, line, api.ErrForm)
		for _, text := range []string{line + "\n", line, "any\n" + line + "\n", line + "\nany\n"} {
			checkParse(t, text)
		}
	}
	long, longer := strings.Repeat("61", 1021), strings.Repeat("61", 1022)
	wantNode(t, "record "+long+":1", api.OK)
	wantNode(t, "record "+longer+":1", api.ErrForm)
}

func TestHowNumbersAreWritten(t *testing.T) { // P17.2: as Lo, as Hi, as numbers that are named
	right := []string{"0", "1", "9", "10", "19", "90", "100", "9999", "10000", "999999999999999999", "1000000000000000000", "1999999999999999999", "8999999999999999999", "9223372036854775799", "9223372036854775806", "9223372036854775807"}
	below := []string{"-1", "-9", "-10", "-19", "-100", "-9999", "-10000", "-999999999999999999", "-1000000000000000000", "-9223372036854775800", "-9223372036854775807", "-9223372036854775808"}
	wrong := []string{
		"", "-", "+", "--1", "-+1", "+-1", "++1", "+0", "+1", "+10", "-0", "-00", "-01", "-010", "00", "000", "01", "09", "010", "0010", "00000000000000000000", "00000000000000000001", "0x1", "0X1", "0b1", "0o1", "0x", "1_000", "1,000", "1.0", "1.", ".1", "1e0", "1e3", "1E3", "1-", "1+", "1-1", "1?", "1:", ":1", "?", "a", "1a", "a1", "ten", "inf", "NaN", "١", "１", "²", "1\x00", "\x001", "1\n", "\n1", "1\t", "\t1", "1\r", "\xff", "− 1", "−1",
		"9223372036854775808", "9223372036854775809", "9223372036854775810", "9223372036854776807", "9300000000000000000", "9999999999999999999", "10000000000000000000", "18446744073709551615", "18446744073709551616", "18446744073709551617", "27670116110564327424", "92233720368547758070", "99999999999999999999", "100000000000000000000", "340282366920938463463374607431768211456",
		"-9223372036854775809", "-9223372036854775810", "-9999999999999999999", "-10000000000000000000", "-18446744073709551615", "-18446744073709551616", "-92233720368547758080",
		strings.Repeat("9", 100), strings.Repeat("1", 10000), "-" + strings.Repeat("9", 100), strings.Repeat("0", 1000) + "1", "1" + strings.Repeat("0", 1000),
	}
	for _, word := range append(append(slices.Clone(right), below...), wrong...) {
		isNumber, isBelow := !slices.Contains(wrong, word), slices.Contains(below, word)
		want := func(line string, ok bool) {
			t.Helper()
			if ok {
				wantNode(t, line, api.OK)
			} else {
				wantNode(t, line, api.ErrForm)
			}
		}
		want("int "+word+" 9223372036854775807", isNumber)
		want("int -9223372036854775808 "+word, isNumber)
		want("int "+word+" "+word, isNumber)
		for _, kind := range []string{"blob ", "string "} {
			want(kind+word+" 9223372036854775807", isNumber && !isBelow)
			want(kind+"0 "+word, isNumber && !isBelow)
		}
		want("list "+word+" 9223372036854775807 1", isNumber && !isBelow)
		want("list 0 "+word+" 1", isNumber && !isBelow)
		want("tagged "+word+" 1", isNumber && !isBelow)
		named := isNumber && !isBelow && len(word) <= 4
		want("list 0 1 "+word, named)
		want("tagged 0 "+word, named)
		want("tuple "+word, named)
		want("tuple 1 "+word+" 2", named)
		want("choice "+word, named)
		want("choice 1 "+word, named)
		if word != "" && word[len(word)-1] != '?' {
			want("record 61:"+word, named)
			want("record 61:"+word+"?", named)
			want("record 62:1 61:"+word+" 63:1", named)
		}
	}
	for n := range 12000 {
		line, err := "tuple "+strconv.Itoa(n), api.OK
		if n > 9999 {
			err = api.ErrForm
		}
		wantNode(t, line, err)
		wantNode(t, "tuple 0"+strconv.Itoa(n), api.ErrForm)
	}
}

func TestRightLinesHarmed(t *testing.T) { // P17.2: a byte more, less, another, or two that change places; what lies at each beginning and end
	signs := " \n\t\r\x00-+:?0159aAfgyz_.\xff"
	for _, x := range rightLines() {
		line := x.line
		for i := range len(line) + 1 {
			checkNode(t, line[:i])
			checkNode(t, line[i:])
			for _, c := range []byte(signs) {
				checkNode(t, line[:i]+string(rune(c))+line[i:])
				checkNode(t, line[:i]+string([]byte{c})+line[i:])
				if i < len(line) {
					checkNode(t, line[:i]+string([]byte{c})+line[i+1:])
				}
			}
			if i < len(line) {
				checkNode(t, line[:i]+line[i+1:])
				checkNode(t, line[:i]+line[i:i+1]+line[i:])
			}
			if i+1 < len(line) {
				checkNode(t, line[:i]+line[i+1:i+2]+line[i:i+1]+line[i+2:])
			}
		}
		words := strings.Split(line, " ")
		for i := range words {
			checkNode(t, strings.Join(slices.Delete(slices.Clone(words), i, i+1), " "))
			checkNode(t, strings.Join(slices.Insert(slices.Clone(words), i, words[i]), " "))
			for _, word := range []string{"", "0", "1", "-1", "61:1", ":2?", "any", "f4"} {
				checkNode(t, strings.Join(slices.Insert(slices.Clone(words), i+1, word), " "))
			}
		}
	}
}

func TestAllRowsOfWords(t *testing.T) { // P17.2
	every([]string{"any", "int", "blob", "value", "list", "tuple", "record", "tagged", "choice", "fly", "", "0", "10", "-1", "01", "61:1", ":0?", "f4", "61"}, 4, func(words []string) {
		checkNode(t, strings.Join(words, " "))
	})
}

func TestAllShortLines(t *testing.T) { // P17.2: all rows of some bytes behind some beginnings
	for _, begin := range []string{"int ", "int 1 ", "tuple ", "record ", "record 61:", "value ", "tagged 0 "} {
		every([]string{" ", "0", "1", "9", "-", ":", "?", "f", "6"}, 5, func(row []string) {
			line := begin + strings.Join(row, "")
			n, err := Node(line)
			wanted, wantedErr := reckonNode(line)
			if err != wantedErr || spellNode(n) != spellNode(wanted) {
				t.Fatalf("Node of %q: %s, %v, want %s, %v", line, spellNode(n), err, spellNode(wanted), wantedErr)
			}
		})
	}
}

func TestParse(t *testing.T) { // P17.2: worked out by hand
	for _, x := range []struct {
		text string
		at   int
		err  api.Errno
	}{
		{"any\n", 0, api.OK}, {"any\nreal\n", 0, api.OK}, {"record 61:1 :2?\nlist 0 5 2\nvalue f4\n", 0, api.OK}, {"tuple\n", 0, api.OK}, {"record\n", 0, api.OK}, {"tuple 1 1\ntuple\n", 0, api.OK},
		{"", 1, api.ErrLimit}, {"\n", 1, api.ErrWord}, {"\n\n", 1, api.ErrWord}, {" ", 1, api.ErrTruncated}, {" \n", 1, api.ErrWord},
		{"any", 1, api.ErrTruncated}, {"any\nany", 2, api.ErrTruncated}, {"any\nany\nany", 3, api.ErrTruncated}, {"fly", 1, api.ErrTruncated}, {"any\nfly", 2, api.ErrTruncated}, {"int 1", 1, api.ErrTruncated}, {"tuple 0", 1, api.ErrTruncated}, {"any\n ", 2, api.ErrTruncated}, {"any\n\x00", 2, api.ErrTruncated}, {"any\r", 1, api.ErrTruncated},
		{"any\n\n", 2, api.ErrWord}, {"any\n\nany\n", 2, api.ErrWord}, {"\nany\n", 1, api.ErrWord}, {"any\nany\n\n\n", 3, api.ErrWord},
		{"any\nfly\n", 2, api.ErrWord}, {"fly\nany\n", 1, api.ErrWord}, {"any\nany\nfly\nany\n", 3, api.ErrWord}, {"any\r\n", 1, api.ErrWord}, {"any\r\nany\r\n", 1, api.ErrWord}, {"any\rany\n", 1, api.ErrWord}, {"any\n any\n", 2, api.ErrWord}, {"any\n\tany\n", 2, api.ErrWord}, {"any any\n", 1, api.ErrForm}, {"any\x00any\n", 1, api.ErrWord}, {"any\vany\n", 1, api.ErrWord}, {"any\u2028any\n", 1, api.ErrWord}, {"any\u0085", 1, api.ErrTruncated},
		{"any \n", 1, api.ErrForm}, {"int 1 2\r\n", 1, api.ErrForm}, {"any\nint 2 1\n", 2, api.ErrForm}, {"any\nint 2 1\nfly\n", 2, api.ErrForm}, {"any\nfly\nint 2 1\n", 2, api.ErrWord}, {"int 2 1\nfly", 1, api.ErrForm}, {"fly\nany", 1, api.ErrWord}, {"any\nint 1\nany", 2, api.ErrForm},
		{"tuple 0\n", 1, api.ErrRule}, {"tuple 1\n", 1, api.ErrRule}, {"any\ntuple 0\n", 2, api.ErrRule}, {"any\ntuple 1\n", 2, api.ErrRule}, {"any\ntuple 2\n", 2, api.ErrRule}, {"tuple 9999\n", 1, api.ErrRule}, {"tuple 1\nchoice 2 1\nany\n", 2, api.ErrRule}, {"record 61:1 62:3\nany\nany\n", 1, api.ErrRule}, {"list 0 1 1\ntagged 3 2\n", 2, api.ErrRule}, {"tuple 1\ntuple 2\ntuple 3\n", 3, api.ErrRule},
		{"tuple 0\nfly\n", 2, api.ErrWord}, {"tuple 0\nany", 2, api.ErrTruncated}, {"tuple 0\nint 2 1\n", 2, api.ErrForm}, {"tuple 0\n\n", 2, api.ErrWord}, {"fly\ntuple 0\n", 1, api.ErrWord}, {"int 2 1\ntuple 0\n", 1, api.ErrForm}, {"tuple 0\ntuple 10000\n", 2, api.ErrForm}, {"tuple 0\ntuple 0\n", 1, api.ErrRule},
	} {
		wantParse(t, x.text, x.at, x.err)
	}
}

func TestWhichLine(t *testing.T) { // P17.2: the first one that is wrong, in texts of up to 257 lines and more
	for _, lines := range []int{1, 2, 3, 9, 10, 11, 100, 255, 256, 257, 258, 1000} {
		for _, at := range []int{1, 2, 9, 10, 100, lines / 2, lines - 1, lines} {
			if at < 1 || at > lines {
				continue
			}
			for _, x := range []struct {
				line string
				err  api.Errno
			}{{"fly", api.ErrWord}, {"", api.ErrWord}, {"any ", api.ErrForm}, {"int 2 1", api.ErrForm}, {"tuple 10000", api.ErrForm}} {
				l := slices.Repeat([]string{"any\n"}, lines)
				l[at-1] = x.line + "\n"
				wantParse(t, strings.Join(l, ""), at, x.err)
				l[lines-1] = "fly"
				wantParse(t, strings.Join(l, ""), at, map[bool]api.Errno{false: x.err, true: api.ErrTruncated}[at == lines])
				l[lines-1], l[at-1] = "int 2 1\n", x.line+"\n"
				wantParse(t, strings.Join(l, ""), at, x.err)
				l[0], l[at-1] = "tuple 0\n", x.line+"\n" // Check's error, though ahead of it, is looked for behind all lines
				wantParse(t, strings.Join(l[:at], ""), at, x.err)
			}
			l := slices.Repeat([]string{"any\n"}, lines)
			l[at-1] = "choice " + strconv.Itoa(at-1) + "\n" // names itself
			if lines > 256 {
				wantParse(t, strings.Join(l, ""), 1, api.ErrLimit)
			} else {
				wantParse(t, strings.Join(l, ""), at, api.ErrRule)
				l[lines-1] = "choice 9999\n"
				wantParse(t, strings.Join(l, ""), at, api.ErrRule)
			}
		}
		text := strings.Repeat("any\n", lines)
		wantParse(t, text[:len(text)-1], lines, api.ErrTruncated)
		wantParse(t, text+"a", lines+1, api.ErrTruncated)
		wantParse(t, text+"\n", lines+1, api.ErrWord)
		wantParse(t, "\n"+text, 1, api.ErrWord)
	}
}

func TestAllShortTexts(t *testing.T) { // P17.2: all rows of some pieces
	pieces := []string{"any", "\n", "tuple", " 1", " 2", " 0", "record", " 61:1", "fly", " ", "\r"}
	every(pieces, 5, func(row []string) { checkParse(t, strings.Join(row, "")) })
	lines := []string{"any\n", "tuple 1\n", "choice 2 1\n", "list 0 1 2\n", "record 61:1 62:2?\n", "tuple 0\n", "value f4\n", "fly\n", "int 2 1\n", "\n"}
	every(lines, 5, func(row []string) { checkParse(t, strings.Join(row, "")) })
}

func TestDrawnTextsHarmed(t *testing.T) { // P17.2: right texts, and those with some bytes changed
	r := rand.New(rand.NewSource(172))
	signs := " \n\n-+:?0123456789abcdefr\xff"
	errs := map[api.Errno]int{}
	for range 4000 {
		text, err := Text(drawn(r, 1+r.Intn(8)))
		if err != api.OK {
			continue
		}
		checkParse(t, text)
		for range 20 {
			b := []byte(text)
			for range 1 + r.Intn(2) {
				i := r.Intn(len(b))
				switch r.Intn(4) {
				case 0:
					b = slices.Delete(b, i, i+1)
				case 1:
					b = slices.Insert(b, i, signs[r.Intn(len(signs))])
				case 2:
					b[i] = signs[r.Intn(len(signs))]
				case 3:
					j := r.Intn(len(b))
					b[i], b[j] = b[j], b[i]
				}
				if len(b) == 0 {
					break
				}
			}
			checkParse(t, string(b))
			_, _, err := Parse(string(b))
			errs[err]++
		}
		lines := strings.SplitAfter(text, "\n")
		r.Shuffle(len(lines), func(i, j int) { lines[i], lines[j] = lines[j], lines[i] })
		checkParse(t, strings.Join(lines, ""))
	}
	for _, err := range []api.Errno{api.OK, api.ErrTruncated, api.ErrWord, api.ErrForm, api.ErrRule} {
		if errs[err] < 100 {
			t.Errorf("%v was told %d times", err, errs[err])
		}
	}
}

func TestNoTwoTextsOfOneSchema(t *testing.T) { // P17.2: of all short ones that are taken
	texts := map[string]string{}
	every([]string{"any", "\n", "tuple", "int", " ", "0", "1", "-", "record", ":", "?", "61"}, 6, func(row []string) {
		text := strings.Join(row, "")
		s, _, err := Parse(text)
		if err != api.OK {
			return
		}
		if other, came := texts[spell(s)]; came && other != text {
			t.Fatalf("%q and %q are both taken as %s", text, other, spell(s))
		}
		texts[spell(s)] = text
	})
	if len(texts) < 20 {
		t.Errorf("only %d texts were taken", len(texts))
	}
}

// lent is a copy of s, all of whose lists have more memory than they need, with things in it that could stand nowhere.
func lent(s api.Schema) api.Schema {
	var l []api.Node
	for _, n := range s.Nodes {
		n.L = append(slices.Clone(n.L), -12345, -12345)[:len(n.L)]
		n.Fields = append(slices.Clone(n.Fields), field("\xffodd", -54321), field("\xffodd", -54321))[:len(n.Fields)]
		n.Value.L = append(slices.Clone(n.Value.L), api.Item{Kind: -99})[:len(n.Value.L)]
		l = append(l, n)
	}
	return api.Schema{Nodes: append(l, api.Node{Kind: -1}, api.Node{Kind: -1})[:len(l)]}
}

// standsBehind tells whether what lies behind the lists of such a copy is what was laid there.
func standsBehind(s api.Schema) bool {
	for _, n := range s.Nodes[len(s.Nodes) : len(s.Nodes)+2] {
		if spellNode(n) != spellNode(api.Node{Kind: -1}) {
			return false
		}
	}
	for _, n := range s.Nodes {
		if l := n.L[len(n.L) : len(n.L)+2]; l[0] != -12345 || l[1] != -12345 {
			return false
		}
		if l := n.Fields[len(n.Fields) : len(n.Fields)+2]; l[0] != field("\xffodd", -54321) || l[1] != l[0] {
			return false
		}
		if x := n.Value.L[:len(n.Value.L)+1][len(n.Value.L)]; x.Kind != -99 {
			return false
		}
	}
	return true
}

// someSchemas are schemas of all kinds, right and wrong.
func someSchemas() []api.Schema {
	r := rand.New(rand.NewSource(173))
	l := []api.Schema{{}, of(anyNode()), of(anys(256)...), of(anys(257)...)}
	for _, x := range rightLines() {
		l = append(l, of(x.n), of(x.n, anyNode(), anyNode(), anyNode()))
		for _, a := range sets() {
			l = append(l, of(with(x.n, a.to), anyNode(), anyNode()))
		}
	}
	for i := range 300 {
		l = append(l, drawn(r, 1+i%20))
	}
	for _, x := range wrongValues() {
		if len(x.L) == 0 {
			l = append(l, of(valueNode(x)))
		}
	}
	return append(l, drawn(r, 256), drawn(r, 257), of(tupleNode(slices.Repeat([]int{7}, 1000)...)))
}

// told is what Line and Text tell of a schema, as one text.
func told(s api.Schema) string {
	text, err := Text(s)
	text += "/" + strconv.Itoa(int(err))
	for _, n := range s.Nodes {
		line, ok := Line(n)
		text += "/" + line + "/" + strconv.FormatBool(ok)
	}
	return text
}

func TestNothingIsWritten(t *testing.T) { // R4, R6: what is handed in stands, and what lies behind it plays no part
	for _, s := range someSchemas() {
		text, answers := spell(s), told(s)
		in := lent(s)
		for range 2 {
			if again := told(in); again != answers {
				t.Fatalf("of %s: %s, and then %s", short(text), short(answers), short(again))
			}
			if spell(in) != text || !standsBehind(in) {
				t.Fatalf("%s became %s, or what lies behind it changed", short(text), short(spell(in)))
			}
		}
		if told(s) != answers || spell(s) != text {
			t.Fatalf("%s: not the same answers again", short(text))
		}
	}
}

func TestAnswersAreTheirOwnMemory(t *testing.T) { // R4: each list of an answer may be written over, also behind its end
	for _, s := range someSchemas() {
		text, err := Text(s)
		if err != api.OK {
			continue
		}
		kept, _, _ := Parse(text)
		for i := range s.Nodes {
			a, _, _ := Parse(text)
			rub(&a.Nodes[i])
			for j := range s.Nodes {
				if j != i && spellNode(a.Nodes[j]) != spellNode(s.Nodes[j]) {
					t.Fatalf("of %s: the node %d changed with the node %d", short(text), j, i)
				}
			}
			line, _ := Line(s.Nodes[i])
			n, _ := Node(line)
			rub(&n)
			if m, err := Node(line); err != api.OK || spellNode(m) != spellNode(s.Nodes[i]) {
				t.Fatalf("Node of %s: %s, %v", short(line), short(spellNode(m)), err)
			}
		}
		a, _, _ := Parse(text)
		for i := range a.Nodes[:cap(a.Nodes)] {
			a.Nodes[:cap(a.Nodes)][i] = api.Node{Kind: -5}
		}
		if again, at, err := Parse(text); spell(kept) != spell(s) || spell(again) != spell(s) || at != 0 || err != api.OK {
			t.Fatalf("of %s: another answer changed", short(text))
		}
	}
}

// rub writes over all lists of n, up to the ends of their memory: its L first, so that its Fields are seen to be others.
func rub(n *api.Node) {
	fields := spellFields(n.Fields)
	for i := range n.L[:cap(n.L)] {
		n.L[:cap(n.L)][i] = -77
	}
	if spellFields(n.Fields) != fields {
		panic("L and Fields share memory")
	}
	for i := range n.Fields[:cap(n.Fields)] {
		n.Fields[:cap(n.Fields)][i] = field("rubbed", -77)
	}
	for i := range n.Value.L[:cap(n.Value.L)] {
		n.Value.L[:cap(n.Value.L)][i] = api.Item{Kind: -77}
	}
}

func TestAnswersStand(t *testing.T) { // R4: what was handed in may be written over, and no answer changes by it
	for _, s := range someSchemas() {
		in := lent(s)
		answers := told(in)
		text, err := Text(in)
		kept := strings.Clone(text)
		for i := range in.Nodes {
			rub(&in.Nodes[i])
			in.Nodes[i] = api.Node{Kind: -1}
		}
		if again, e := Text(s); text != kept || e != err || again != text || told(s) != answers {
			t.Fatalf("Text of %s changed", short(spell(s)))
		}
	}
}

func TestNothingPanics(t *testing.T) { // P1, R1: whatever it is handed
	r := rand.New(rand.NewSource(174))
	number := func() int {
		if r.Intn(2) == 0 {
			return r.Intn(13) - 2
		}
		return int(r.Uint64() >> r.Intn(64))
	}
	bytes := func(most int) string {
		b := make([]byte, r.Intn(most))
		r.Read(b)
		return string(b)
	}
	var some func(deep int) api.Item
	some = func(deep int) api.Item {
		x := api.Item{Kind: number(), N: uint64(number()), S: bytes(4)}
		for range r.Intn(3) {
			if deep > 0 {
				x.L = append(x.L, some(deep-1))
			}
		}
		return x
	}
	for range 20000 {
		var s api.Schema
		for range r.Intn(6) {
			n := api.Node{Kind: number(), Lo: number(), Hi: number(), Value: some(3)}
			for range r.Intn(4) {
				n.L = append(n.L, number())
			}
			for range r.Intn(4) {
				n.Fields = append(n.Fields, api.Field{Key: bytes(4), Node: number(), Optional: r.Intn(2) == 0})
			}
			checkLine(t, n)
			s.Nodes = append(s.Nodes, n)
		}
		checkText(t, s)
		line := bytes(30)
		checkNode(t, line)
		checkParse(t, line)
		for _, x := range rules {
			checkNode(t, x.word+" "+line)
			checkParse(t, x.word+" "+line+"\n")
		}
	}
	for _, err := range []api.Errno{api.ErrDepth, api.ErrForm} { // a Value so deep that 8's Check tells so
		if line, ok := Line(valueNode(deep(int(err) * 100))); ok || line != "" {
			t.Errorf("Line of a deep Value: %q", line)
		}
	}
}

func TestVeryMuch(t *testing.T) { // P1: as much as the document promises anything of
	const most = 1 << 20
	wantParse(t, strings.Repeat("any\n", most/4), 1, api.ErrLimit)
	wantParse(t, strings.Repeat("value 00\n", most/9), 1, api.ErrLimit)
	wantParse(t, strings.Repeat("\n", most), 1, api.ErrWord)
	wantParse(t, strings.Repeat("any\n", most/4-1)+"any", most/4, api.ErrTruncated)
	wantParse(t, strings.Repeat("any\n", most/4-1)+"fly\n", most/4, api.ErrWord)
	wantParse(t, strings.Repeat("a", most), 1, api.ErrTruncated)
	wantParse(t, strings.Repeat(" ", most-1)+"\n", 1, api.ErrWord)
	wantNode(t, strings.Repeat("any ", most/4), api.ErrForm)
	wantNode(t, "any"+strings.Repeat(" ", most-3), api.ErrForm)
	wantNode(t, "int "+strings.Repeat("1", most-6)+" 1", api.ErrForm)
	wantNode(t, "tuple"+strings.Repeat(" 1", most/2-5), api.OK)
	wantNode(t, "tuple"+strings.Repeat(" 1", most/2-5)+" x", api.ErrForm)
	wantNode(t, "tuple"+strings.Repeat(" ", most-5), api.ErrForm)
	wantNode(t, "value 5a0007fff0"+strings.Repeat("80", 0x7fff0), api.OK)
	wantNode(t, "value 7a0007fff0"+strings.Repeat("7a", 0x7fff0), api.OK)
	wantNode(t, "value 7a0007fff0"+strings.Repeat("7a", 0x7fff0-1), api.ErrForm)
	wantNode(t, "value "+strings.Repeat("81", most/2-3), api.ErrForm)
	wantNode(t, "record "+strings.Repeat("61", most/2-10)+":1", api.ErrForm)
	wantNode(t, "record "+strings.Repeat(":", most-7), api.ErrForm)
	var words []string
	for i := range 4000 { // the reckoning holds each key against all others
		words = append(words, " "+strings.Repeat("61", i%1000)+"3"+strconv.Itoa(i/1000)+":"+strconv.Itoa(i)+"?")
	}
	wantNode(t, "record"+strings.Join(words, ""), api.OK)
	wantNode(t, "record"+strings.Join(words, "")+words[0], api.ErrForm)
	wide := tupleNode(slices.Repeat([]int{1}, most)...)
	wantLine(t, wide, "tuple"+strings.Repeat(" 1", most))
	checkText(t, of(wide, anyNode()))
	far := deep(1 << 18)
	if line, ok := Line(valueNode(far)); ok || line != "" {
		t.Errorf("Line of a very deep Value: %s", short(line))
	}
	if text, err := Text(of(valueNode(far))); text != "" || err != api.ErrForm {
		t.Errorf("Text of a very deep Value: %s, %v", short(text), err)
	}
}
