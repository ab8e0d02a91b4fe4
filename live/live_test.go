package live

import (
	"fmt"
	"math"
	"slices"
	"strings"
	"testing"

	"ullage/api"
	"ullage/auto"
	"ullage/head"
)

// alive stands where no answer is false.
const alive = -1

func TestExample(t *testing.T) { // P20.1: a list of 0 to 2 of Int 0 to 9, and the bytes 82 01 61
	m := fresh(t, api.Schema{Nodes: []api.Node{{Kind: api.List, Lo: 0, Hi: 2, L: []int{1}}, {Kind: api.Int, Lo: 0, Hi: 9}}}, 2)
	answers, done := run(t, m, events(t, []byte{0x82, 0x01, 0x61}, 2))
	if !slices.Equal(answers, []bool{true, true, false}) || done {
		t.Error(answers, done)
	}
}

// wantFalse runs b, and looks for the first byte behind which the answer is false.
func wantFalse(t *testing.T, lines, text string, at int, done bool) {
	t.Helper()
	s, b := parse(t, lines), digits(t, text)
	all := events(t, b, api.MaxDepth)
	if len(all) != len(b) {
		t.Errorf("%s: the byte %d is wrong", text, len(all))
		return
	}
	m := fresh(t, s, api.MaxDepth)
	answers, gotDone := run(t, m, all)
	if got := slices.Index(answers, false); got != at || gotDone != done {
		t.Errorf("%s, bytes %s: %d, %v, want %d, %v", lines, text, got, gotDone, at, done)
	}
	check(t, fresh(t, s, api.MaxDepth), s, b)
}

func TestAlone(t *testing.T) { // P20.1, P20.2: nodes that name no other
	for _, x := range []struct {
		lines, text string
		at          int
		done        bool
	}{
		{"any", "00", alive, true}, {"any", "f9 3e00", alive, true}, {"any", "f9 3e", alive, false}, {"any", "62 61", alive, false}, {"any", "82 01", alive, false}, {"any", "a1 a1 80 01 80", alive, true}, {"any", "c1 c2 c3 40", alive, true},
		{"int -1 300", "20", alive, true}, {"int -1 300", "21", 0, false}, {"int -1 300", "19", alive, false}, {"int -1 300", "19 01", alive, false}, {"int -1 300", "19 01 2c", alive, true}, {"int -1 300", "19 01 2d", 2, false}, {"int -1 300", "40", 0, false}, {"int -1 300", "58", alive, false}, {"int -1 300", "58 20", 1, false}, {"int -1 300", "f4", 0, false},
		{"int -9223372036854775808 9223372036854775807", "3b 7fffffffffffffff", alive, true}, {"int -9223372036854775808 9223372036854775807", "3b 8000000000000000", 8, false}, {"int -9223372036854775808 9223372036854775807", "1b 7fffffffffffffff", alive, true}, {"int -9223372036854775808 9223372036854775807", "1b 8000000000000000", 8, false},
		{"blob 1 2", "40", 0, false}, {"blob 1 2", "41 00", alive, true}, {"blob 1 2", "42 00 ff", alive, true}, {"blob 1 2", "42 00", alive, false}, {"blob 1 2", "43", 0, false}, {"blob 1 2", "61 61", 0, false},
		{"string 1 2", "60", 0, false}, {"string 1 2", "61 61", alive, true}, {"string 1 2", "62 c3 a9", alive, true}, {"string 1 2", "62 c3", alive, false}, {"string 1 2", "63", 0, false}, {"string 1 2", "41 61", 0, false}, {"string 0 0", "60", alive, true},
		{"real", "f9 3e00", alive, true}, {"real", "f9", alive, false}, {"real", "fa 3f800001", alive, true}, {"real", "fb 3ff199999999999a", alive, true}, {"real", "f4", 0, false}, {"real", "f8 20", 1, false}, {"real", "00", 0, false},
		{"value 05", "05", alive, true}, {"value 05", "04", 0, false}, {"value 05", "25", 0, false}, {"value 190100", "19 01", alive, false}, {"value 190100", "19 0100", alive, true}, {"value 190100", "19 0101", 2, false}, {"value 24", "24", alive, true}, {"value 24", "04", 0, false},
		{"value f5", "f5", alive, true}, {"value f5", "f4", 0, false}, {"value f820", "f8 20", alive, true}, {"value f820", "f8 21", 1, false}, {"value f820", "f9 3e00", 2, false}, {"value f7", "f9 0017", 2, false},
		{"value 626162", "62", alive, false}, {"value 626162", "62 61", alive, false}, {"value 626162", "62 61 62", alive, true}, {"value 626162", "62 61 61", 2, false}, {"value 626162", "62 62 62", 1, false}, {"value 626162", "42 61 62", 0, false}, {"value 626162", "61 61", 0, false}, {"value 626162", "63 61 62 63", 0, false}, {"value 60", "60", alive, true}, {"value 60", "40", 0, false}, {"value 60", "61 61", 0, false},
		{"value 4200ff", "42 00 ff", alive, true}, {"value 4200ff", "42 00 fe", 2, false}, {"value 4200ff", "42 01 ff", 1, false}, {"value 4200ff", "62 00 7f", 0, false}, {"value 40", "40", alive, true},
	} {
		wantFalse(t, x.lines, x.text, x.at, x.done)
	}
}

func TestNested(t *testing.T) { // P20.1, P20.2: lists, tuples and tagged ones
	deep := "list 0 2 1 / tuple 2 3 / tagged 7 3 / choice 4 5 / int 0 9 / value 6161"
	for _, x := range []struct {
		lines, text string
		at          int
		done        bool
	}{
		{"list 0 2 1 / int 0 9", "80", alive, true}, {"list 0 2 1 / int 0 9", "81 09", alive, true}, {"list 0 2 1 / int 0 9", "81 0a", 1, false}, {"list 0 2 1 / int 0 9", "82 01 18", alive, false}, {"list 0 2 1 / int 0 9", "82 01 18 63", 3, false}, {"list 0 2 1 / int 0 9", "83", 0, false}, {"list 1 2 1 / int 0 9", "80", 0, false}, {"list 0 2 1 / int 0 9", "a1", 0, false}, {"list 0 2 1 / int 0 9", "98", alive, false}, {"list 0 2 1 / int 0 9", "82 00", alive, false},
		{"tuple", "80", alive, true}, {"tuple", "81", 0, false}, {"tuple 1 / any", "80", 0, false}, {"tuple 1 / any", "81 a0", alive, true}, {"tuple 1 / any", "82", 0, false},
		{"tuple 1 2 1 / int 0 9 / string 0 9", "83 01 60 02", alive, true}, {"tuple 1 2 1 / int 0 9 / string 0 9", "83 01 02", 2, false}, {"tuple 1 2 1 / int 0 9 / string 0 9", "83 60", 1, false}, {"tuple 1 2 1 / int 0 9 / string 0 9", "83 01 60 60", 3, false}, {"tuple 1 2 1 / int 0 9 / string 0 9", "83 01 61 61", alive, false},
		{"tagged 5 1 / int 0 1", "c5 01", alive, true}, {"tagged 5 1 / int 0 1", "c5", alive, false}, {"tagged 5 1 / int 0 1", "c4", 0, false}, {"tagged 5 1 / int 0 1", "c5 02", 1, false}, {"tagged 5 1 / int 0 1", "01", 0, false}, {"tagged 0 1 / any", "c0 a0", alive, true},
		{deep, "82 82 c7 05 61 61 82 c7 61 61 09", alive, true}, {deep, "82 82 c7 05 61 61 82 c7 61 61 0a", 10, false}, {deep, "82 82 c7 05 61 62", 5, false}, {deep, "82 82 c8", 2, false}, {deep, "82 82 c7 05 61 61 82 c7 61 61", alive, false}, {deep, "82 82 c7 05 61 61 81", 6, false}, {deep, "82 82 c7 05 61 61 c7", 6, false}, {deep, "82 82 c7 62", 3, false},
		{"list 0 9 1 / list 0 9 2 / list 0 9 3 / int 0 1", "82 82 81 00 80 83 80 81 01 81 02", 10, false}, {"list 0 9 1 / list 0 9 2 / list 0 9 3 / int 0 1", "82 82 81 00 80 83 80 81 01 81 01", alive, true},
		{"tagged 1 1 / tagged 2 2 / tagged 3 3 / tuple 4 4 / list 0 1 5 / value 4161", "c1 c2 c3 82 80 81 41 61", alive, true}, {"tagged 1 1 / tagged 2 2 / tagged 3 3 / tuple 4 4 / list 0 1 5 / value 4161", "c1 c2 c3 82 80 81 41 62", 7, false},
		{"list 0 9 1 / any", "83 80 a1 82 01 02 c1 00 81 80", alive, true}, {"tuple 1 2 / any / int 0 1", "82 a2 00 81 00 01 80 02", 7, false}, {"tuple 1 2 / any / int 0 1", "82 81 81 05 01", alive, true},
	} {
		wantFalse(t, x.lines, x.text, x.at, x.done)
	}
}

func TestChoices(t *testing.T) { // P20.1, P20.2: several nodes stand for one item, each with its own items
	pairs := "choice 1 2 3 / tuple 4 5 / tuple 5 4 / tuple 4 4 / int 0 9 / string 0 9"
	lists := "choice 1 2 / list 0 9 3 / list 0 9 4 / tuple 5 6 / tuple 6 5 / int 0 9 / value 626162"
	for _, x := range []struct {
		lines, text string
		at          int
		done        bool
	}{
		{pairs, "82 01 60", alive, true}, {pairs, "82 60 01", alive, true}, {pairs, "82 01 02", alive, true}, {pairs, "82 60 60", 2, false}, {pairs, "82 61 61 61", 3, false}, {pairs, "82 80", 1, false}, {pairs, "81", 0, false},
		{lists, "82 82 01 62 61 62 82 02 62 61 62", alive, true}, {lists, "82 82 01 62 61 62 82 62", 7, false}, {lists, "82 82 62 61 62 01 82 62 61 62 01", alive, true}, {lists, "82 82 62 61 61", 4, false}, {lists, "82 82 62 61 62 62", 5, false}, {lists, "80", alive, true}, {lists, "82 81", 1, false},
		{"choice 1 1 2 2 / choice 2 2 / value 626162", "62 61 62", alive, true}, {"choice 1 2 / value 626162 / value 626163", "62 61 63", alive, true}, {"choice 1 2 / value 626162 / value 626163", "62 61 62", alive, true}, {"choice 1 2 / value 626162 / value 626163", "62 61 64", 2, false}, {"choice 1 2 / value 626162 / value 626163", "62 62 63", 1, false}, {"choice 1 2 / value 626162 / value 626263", "62 61 63", 2, false}, {"choice 1 2 / value 626162 / value 616a", "61 61", 1, false}, {"choice 1 2 / value 626162 / string 2 2", "62 62 62", alive, true},
		{"choice 1 2 / list 0 9 3 / any / int 0 1", "82 05 61", alive, false}, {"choice 1 2 / list 0 9 3 / tuple 4 / int 0 1 / any", "81 05", alive, true}, {"choice 1 2 / list 0 9 3 / tuple 4 / int 0 1 / any", "82 05", 1, false},
		{"choice 1 2 / tagged 1 3 / tagged 1 4 / int 0 5 / int 5 9", "c1 05", alive, true}, {"choice 1 2 / tagged 1 3 / tagged 1 4 / int 0 5 / int 5 9", "c1 00", alive, true}, {"choice 1 2 / tagged 1 3 / tagged 1 4 / int 0 5 / int 5 9", "c1 09", alive, true}, {"choice 1 2 / tagged 1 3 / tagged 1 4 / int 0 5 / int 5 9", "c1 0a", 1, false},
		{"list 0 9 1 / choice 2 3 / list 0 9 4 / list 0 9 5 / int 0 5 / int 5 9", "83 82 01 05 82 05 06 81 0a", 8, false}, {"list 0 9 1 / choice 2 3 / list 0 9 4 / list 0 9 5 / int 0 5 / int 5 9", "83 82 01 05 82 05 06 81 09", alive, true}, {"list 0 9 1 / choice 2 3 / list 0 9 4 / list 0 9 5 / int 0 5 / int 5 9", "82 82 01 06", 3, false},
		{"choice 1 2 3 4 5 / list 0 1 6 / tuple 6 6 / record 61:6? / tagged 1 6 / real / choice 7 8 9 10 / int 0 1 / blob 0 1 / string 0 1 / value f5", "81 01", alive, true}, {"choice 1 2 3 4 5 / list 0 1 6 / tuple 6 6 / record 61:6? / tagged 1 6 / real / choice 7 8 9 10 / int 0 1 / blob 0 1 / string 0 1 / value f5", "82 f5 61 61", alive, true}, {"choice 1 2 3 4 5 / list 0 1 6 / tuple 6 6 / record 61:6? / tagged 1 6 / real / choice 7 8 9 10 / int 0 1 / blob 0 1 / string 0 1 / value f5", "82 f5 f4", 2, false}, {"choice 1 2 3 4 5 / list 0 1 6 / tuple 6 6 / record 61:6? / tagged 1 6 / real / choice 7 8 9 10 / int 0 1 / blob 0 1 / string 0 1 / value f5", "a1 61 61 40", alive, true}, {"choice 1 2 3 4 5 / list 0 1 6 / tuple 6 6 / record 61:6? / tagged 1 6 / real / choice 7 8 9 10 / int 0 1 / blob 0 1 / string 0 1 / value f5", "c1 00", alive, true}, {"choice 1 2 3 4 5 / list 0 1 6 / tuple 6 6 / record 61:6? / tagged 1 6 / real / choice 7 8 9 10 / int 0 1 / blob 0 1 / string 0 1 / value f5", "f9 0000", alive, true}, {"choice 1 2 3 4 5 / list 0 1 6 / tuple 6 6 / record 61:6? / tagged 1 6 / real / choice 7 8 9 10 / int 0 1 / blob 0 1 / string 0 1 / value f5", "81 f9 0000", 3, false}, {"choice 1 2 3 4 5 / list 0 1 6 / tuple 6 6 / record 61:6? / tagged 1 6 / real / choice 7 8 9 10 / int 0 1 / blob 0 1 / string 0 1 / value f5", "00", 0, false},
	} {
		wantFalse(t, x.lines, x.text, x.at, x.done)
	}
}

func TestRecords(t *testing.T) { // P20.1, P20.2: keys that are Fields' Keys, and those that may not lack
	ab := "record 61:1 62:2? / int 0 9 / string 0 9"
	two := "choice 1 2 / record 61:3 62:4? 63:3? / record 61:4? 62:3 63:3? / int 0 9 / string 0 9"
	in := "record 61:1 6161:2? / record 61:2? 62:2? / int 0 9"
	for _, x := range []struct {
		lines, text string
		at          int
		done        bool
	}{
		{"record", "a0", alive, true}, {"record", "a1", 0, false}, {"record 61:1? / any", "a0", alive, true}, {"record 61:1 / any", "a0", 0, false}, {"record 61:1 / any", "a2", 0, false}, {"record 61:1 / any", "80", 0, false}, {"record 61:1 / any", "b8", alive, false},
		{ab, "a1 61 61 05", alive, true}, {ab, "a1 61 61", alive, false}, {ab, "a1 61", alive, false}, {ab, "a1 61 61 60", 3, false}, {ab, "a1 61 61 18", alive, false}, {ab, "a1 61 61 18 63", 4, false}, {ab, "a2 61 61 05 61 62 60", alive, true}, {ab, "a2 61 61 05 61 62 61 61", alive, true}, {ab, "a2 61 61 05 61 62 61", alive, false}, {ab, "a1 61 62 60", 3, false}, {ab, "a1 61 62 61", alive, false}, {ab, "a1 61 62 61 61", 4, false}, {ab, "a1 61 63", 2, false}, {ab, "a2 61 61 05 61 63", 5, false}, {ab, "a2 61 62", alive, false}, {ab, "a2 61 62 60", alive, false}, {ab, "a2 61 62 05", 3, false},
		{ab, "a1 60", 1, false}, {ab, "a1 62 61", alive, false}, {ab, "a1 62 61 61", 3, false}, {ab, "a1 05", 1, false}, {ab, "a1 18 63", 2, false}, {ab, "a1 41 61", 2, false}, {ab, "a1 41", alive, false}, {ab, "a1 40", 1, false}, {ab, "a1 80", 1, false}, {ab, "a1 a0", 1, false}, {ab, "a1 f5", 1, false}, {ab, "a1 f9 3e00", 3, false}, {ab, "a1 c1 61 61", 3, false},
		{ab, "a1 81 61 61", 3, false}, {ab, "a1 82 61 61", alive, false}, {ab, "a1 82 61 61 61 61", 5, false}, {ab, "a1 a1 61 61 05", 4, false}, {ab, "a1 a1 61 61", alive, false}, {ab, "a1 a1 a1 61 61 61 61 61 61", 8, false}, {ab, "a1 81 81 81 81 00", 5, false},
		{"record 6161:1? 616161:1? 616162:1? / int 0 9", "a2 62 61 61 00 62 61 62", 7, false}, {"record 6161:1? 616161:1? 616162:1? / int 0 9", "a2 62 61 61 00 63 61 61 61 01", alive, true}, {"record 6161:1? 616161:1? 616162:1? / int 0 9", "a1 63 61 61 63", 4, false}, {"record 6161:1? 616161:1? 616162:1? / int 0 9", "a1 64 61 61 61 61", 5, false}, {"record 6161:1? 616161:1? 616162:1? / int 0 9", "a1 64 61 61 61", alive, false}, {"record 6161:1? 616161:1? 616162:1? / int 0 9", "a1 61 61", 2, false},
		{"record :1 / int 0 9", "a1 60 05", alive, true}, {"record :1 / int 0 9", "a1 60 0a", 2, false}, {"record :1 / int 0 9", "a1 61 61", 2, false}, {"record :1 / int 0 9", "a1 40", 1, false}, {"record :1 / int 0 9", "a1 80", 1, false},
		{two, "a1 61 61 05", alive, true}, {two, "a1 61 61 60", 3, false}, {two, "a1 61 62 05", alive, true}, {two, "a1 61 62 60", 3, false}, {two, "a2 61 61 05 61 62 60", alive, true}, {two, "a2 61 61 60 61 62 05", alive, true}, {two, "a2 61 61 05 61 62 05", 6, false}, {two, "a2 61 61 60 61 63 05", 6, false}, {two, "a2 61 61 05 61 63 05", alive, true}, {two, "a2 61 62 05 61 63 05", alive, true}, {two, "a2 61 62 60 61 63 05", 6, false}, {two, "a1 61 63 05", 3, false}, {two, "a3 61 61 05 61 62 60 61 63 01", alive, true}, {two, "a3 61 61 05 61 62 60 61 64", 8, false},
		{in, "a1 61 61 a2 61 61 05 61 62 06", alive, true}, {in, "a2 61 61 a1 61 62 05 62 61 61 07", alive, true}, {in, "a2 61 61 a1 61 62 05 62 61 62", 9, false}, {in, "a2 61 61 a2 61 61 05 61 62 a0", 9, false}, {in, "a1 61 61 a1 62 61 61", 6, false}, {in, "a1 62 61 61 05", 4, false}, {in, "a2 61 61 a0 62 61 61 0a", 7, false},
		{"record 61:1? 62:2? / record 61:2? 62:2? / int 0 9", "a2 61 61 a1 61 62 05 61 62 06", alive, true}, {"record 61:1? 62:2? / record 61:2? 62:2? / int 0 9", "a2 61 61 a1 61 62 05 61 62 a0", 9, false}, {"record 61:1? 62:2? / record 61:2? 62:2? / int 0 9", "a2 61 61 a1 61 62 0a", 6, false}, {"record 61:1? 62:2? / record 61:2? 62:2? / int 0 9", "a2 61 61 a1 61 63", 5, false},
		{"list 0 9 1 / record 61:2 62:2? / int 0 9", "83 a1 61 61 05 a2 61 61 05 61 62 06 a1 61 62 07", 15, false}, {"list 0 9 1 / record 61:2 62:2? / int 0 9", "82 a1 61 61 05 a1 61 61 06", alive, true}, {"list 0 9 1 / record 61:2 62:2? / int 0 9", "82 a1 61 61 05 a0", 5, false},
		{"choice 1 2 / record 61:3 / any / int 0 9", "a1 61 61 0a", alive, true}, {"choice 1 2 / record 61:3 / any / int 0 9", "a2 00 01 81 00 80", alive, true}, {"tuple 1 1 / choice 2 3 / record 61:4 / any / int 0 9", "82 a1 81 00 05 a1 61 61 0a", alive, true},
		{"record 61:1 / list 0 1 2 / record 61:3 / any", "a1 61 61 81 a1 61 61 a1 61 61 a1 61 62 00", alive, true}, {"record 61:1 / list 0 1 2 / record 61:3 / any", "a1 61 61 81 a1 61 62", 6, false},
		{"record 61:1 62:1? / any", "a2 61 61 a1 61 62 00 61 62 a1 61 63 00", alive, true}, {"record 61:1 62:1? / any", "a2 61 61 a1 61 62 00 61 63", 8, false},
	} {
		wantFalse(t, x.lines, x.text, x.at, x.done)
	}
}

func TestEvents(t *testing.T) { // P20.1: of a byte with several events the last one's answer is it; P20.2: Done just behind the outermost end
	m := fresh(t, parse(t, "record 61:1 62:1? / list 0 9 2 / choice 3 4 / list 0 9 4 / value 6161"), 9)
	for i, x := range []struct {
		e          auto.Event
		live, done bool
	}{
		{auto.Event{Kind: auto.EventHead, Head: head.Head{Major: 5, Arg: 1}, Deep: 1}, true, false},
		{auto.Event{Kind: auto.EventHead, Head: head.Head{Major: 3, Arg: 1}, Deep: 2}, true, false},
		{auto.Event{Kind: auto.EventByte, Byte: 'a', Deep: 2}, true, false},
		{auto.Event{Kind: auto.EventKey, Deep: 2}, true, false},
		{auto.Event{Kind: auto.EventHead, Head: head.Head{Major: 4, Arg: 2}, Deep: 2}, true, false},
		{auto.Event{Kind: auto.EventHead, Head: head.Head{Major: 4, Arg: 0}, Deep: 3}, true, false},
		{auto.Event{Kind: auto.EventEnd, Deep: 3}, true, false},
		{auto.Event{Kind: auto.EventHead, Head: head.Head{Major: 3, Arg: 1}, Deep: 3}, true, false},
		{auto.Event{Kind: auto.EventByte, Byte: 'a', Deep: 3}, true, false},
		{auto.Event{Kind: auto.EventEnd, Deep: 3}, true, false},
		{auto.Event{Kind: auto.EventEnd, Deep: 2}, true, false},
		{auto.Event{Kind: auto.EventEnd, Deep: 1}, true, true},
	} {
		if got := m.Event(x.e); got != x.live || m.Live() != x.live || m.Done() != x.done {
			t.Errorf("event %d: %v, %v, %v", i, got, m.Live(), m.Done())
		}
	}
}

func TestNew(t *testing.T) { // P20.1: the schema's error ahead of the depth's
	right := parse(t, "list 0 9 1 / any")
	wrong := []struct {
		s   api.Schema
		err api.Errno
	}{
		{api.Schema{}, api.ErrLimit}, {api.Schema{Nodes: make([]api.Node, 257)}, api.ErrLimit}, {api.Schema{Nodes: []api.Node{{Kind: 99}}}, api.ErrKind}, {api.Schema{Nodes: []api.Node{{Kind: -1}}}, api.ErrKind},
		{api.Schema{Nodes: []api.Node{{Kind: api.Any, Lo: 1}}}, api.ErrForm}, {api.Schema{Nodes: []api.Node{{Kind: api.Int, Lo: 1}}}, api.ErrRange}, {api.Schema{Nodes: []api.Node{{Kind: api.Record, Fields: []api.Field{{Key: "\xff"}}}}}, api.ErrUTF8},
		{api.Schema{Nodes: []api.Node{{Kind: api.Record, Fields: []api.Field{{Key: strings.Repeat("a", 1022), Node: 1}}}, {}}}, api.ErrKeyLength}, {api.Schema{Nodes: []api.Node{{Kind: api.Record, Fields: []api.Field{{Node: 1}, {Node: 1}}}, {}}}, api.ErrTwice},
		{api.Schema{Nodes: []api.Node{{Kind: api.Choice, L: []int{0}}}}, api.ErrRule}, {api.Schema{Nodes: []api.Node{{Kind: api.Choice, L: []int{math.MinInt}}}}, api.ErrRule}, {api.Schema{Nodes: []api.Node{{Kind: api.List, L: []int{math.MaxInt}}}}, api.ErrRule},
	}
	for _, depth := range []int{math.MinInt, -1, 0, 1, 2, 63, 64, 65, 1 << 40, math.MaxInt} {
		for _, x := range wrong {
			if m, err := New(x.s, depth); m != nil || err != x.err {
				t.Errorf("%v, %d: %v, %d", x.s, depth, m, err)
			}
		}
		m, err := New(right, depth)
		if isRight := depth >= 1 && depth <= api.MaxDepth; isRight != (m != nil) || isRight != (err == api.OK) || !isRight && err != api.ErrRange {
			t.Errorf("%d: %v, %d", depth, m, err)
		}
		if m != nil && (!m.Live() || m.Done()) {
			t.Errorf("%d: it was told nothing, but %v, %v", depth, m.Live(), m.Done())
		}
	}
	if _, err := New(api.Schema{Nodes: make([]api.Node, 256)}, 64); err != api.OK {
		t.Error(err)
	}
}

func TestNil(t *testing.T) { // P20.2: of a nil matcher
	var m *Matcher
	m.Reset()
	for _, e := range []auto.Event{{}, {Kind: auto.EventHead, Deep: 1}, {Kind: auto.EventEnd, Deep: 1}} {
		if m.Event(e) || m.Live() || m.Done() || m.Cap() != 0 {
			t.Error(e)
		}
	}
}

func TestReset(t *testing.T) { // P20.2: it was told nothing; behind each byte of some, right or wrong
	s := parse(t, "choice 1 2 / record 61:3 62:4? / list 0 9 4 / list 0 9 4 / value 626162")
	texts := []string{"a2 61 61 81 62 61 62 61 62 62 61 62", "a1 61 62", "82 62 61 62 62 61 62", "a1 61 63", "05", "a1 81 61 61", "82 62 62", "80"}
	m := fresh(t, s, api.MaxDepth)
	for _, text := range texts {
		all := events(t, digits(t, text), api.MaxDepth)
		for i := range len(all) + 1 {
			run(t, m, all[:i])
			m.Reset()
			for _, next := range texts {
				check(t, m, s, digits(t, next))
				m.Reset()
			}
		}
	}
}

func TestFalseFromThenOn(t *testing.T) { // P20.1: until Reset, whatever comes; P20.2: the answer that came last
	m := fresh(t, parse(t, "list 0 9 1 / int 0 9"), api.MaxDepth)
	all := events(t, digits(t, "83 01 0a 02"), api.MaxDepth)
	if answers, done := run(t, m, all); !slices.Equal(answers, []bool{true, true, false, false}) || done {
		t.Error(answers, done)
	}
	if answers, done := run(t, m, events(t, digits(t, "81 01"), api.MaxDepth)); slices.Contains(answers, true) || done {
		t.Error(answers, done)
	}
	m.Reset()
	if answers, done := run(t, m, events(t, digits(t, "81 01"), api.MaxDepth)); slices.Contains(answers, false) || !done {
		t.Error(answers, done)
	}
}

func TestCap(t *testing.T) { // P20.2: always the same, at most depth times MaxKey, and no less than a Key has; and at most what chapter 23's bound has for it
	for _, size := range []int{-1, 0, 1, 7, 1021} {
		for _, depth := range []int{1, 2, 64} {
			s, longest := api.Schema{Nodes: make([]api.Node, 1)}, 0
			if size >= 0 {
				longest = size
				s = api.Schema{Nodes: []api.Node{{Kind: api.Choice, L: []int{1, 2}}, {Kind: api.Record, Fields: []api.Field{{Key: strings.Repeat("k", size), Node: 3}}}, {Kind: api.Record}, {}}}
			}
			m := fresh(t, s, depth)
			before := m.Cap()
			if before < len(m.key) || before < size || before > depth*api.MaxKey || before > depth*(longest+1) {
				t.Errorf("size %d, depth %d: %d", size, depth, before)
			}
			for _, text := range []string{"a1 61 6b", "a1 78 ff", "81 00"} {
				run(t, m, events(t, digits(t, text+strings.Repeat(" 6b", 255)), depth))
				if m.Cap() != before {
					t.Errorf("%s: %d, was %d", text, m.Cap(), before)
				}
				m.Reset()
				if m.Cap() != before {
					t.Errorf("Reset: %d, was %d", m.Cap(), before)
				}
			}
		}
	}
}

func TestKeysOfAllSizes(t *testing.T) { // P20.1: a Key of each size, and texts beside it: wrong just where they end
	for _, size := range []int{0, 1, 2, 23, 24, 255, 256, 1020, 1021} {
		key := strings.Repeat("é", size/2) + strings.Repeat("k", size%2)
		s := api.Schema{Nodes: []api.Node{{Kind: api.Record, Fields: []api.Field{{Key: key, Node: 1}}}, {Kind: api.Int}}}
		for _, text := range []string{key, key + "k", strings.Replace(key, "é", "", 1), strings.TrimSuffix(key, "é"), strings.TrimSuffix(key, "k"), strings.Replace(key, "é", "è", 1), strings.Replace(key, "é", "kk", 1), strings.Repeat("k", size), "kk" + strings.TrimSuffix(key, "é")} {
			if len(text) > 1021 { // the automaton doesn't take it
				continue
			}
			b := slices.Concat([]byte{0xa1}, textHead(len(text)), []byte(text), []byte{0})
			answers, done := run(t, fresh(t, s, 2), events(t, b, 2))
			first := alive
			if text != key {
				first = len(b) - 2
			}
			if len(answers) != len(b) || done != (text == key) || slices.Index(answers, false) != first {
				t.Errorf("Key of %d, text of %d: %v, false at %d, want %d", size, len(text), done, slices.Index(answers, false), first)
			}
		}
	}
}

// textHead is the head of a text of so many bytes, below 2^16.
func textHead(size int) []byte { return head.Put(api.Text, uint64(size)) }

func TestLongKeys(t *testing.T) { // P20.1: a key that no Field can have is wrong just where it ends
	s := parse(t, "record 61:1 / any")
	for _, size := range []int{2, 3, 1000, 1021} {
		b := append([]byte{0xa1}, textHead(size)...)
		b = append(b, strings.Repeat("a", size)...)
		answers, _ := run(t, fresh(t, s, 2), events(t, b, 2))
		if slices.Index(answers, false) != len(b)-1 {
			t.Errorf("size %d: false at %d of %d", size, slices.Index(answers, false), len(b))
		}
	}
}

func TestDepths(t *testing.T) { // P20.1: items as deep as the depth, each depth; through each kind that is about others
	for depth := 1; depth <= api.MaxDepth; depth++ {
		for _, kind := range []int{api.List, api.Tuple, api.Tagged, api.Record} {
			var s api.Schema
			var b []byte
			for i := range depth - 1 {
				n := api.Node{Kind: kind, L: []int{i + 1}}
				switch kind {
				case api.List:
					n.Hi = 1
					b = append(b, 0x81)
				case api.Tuple:
					b = append(b, 0x81)
				case api.Tagged:
					n.Lo = i % 20
					b = append(b, 0xc0+byte(n.Lo))
				case api.Record:
					n.L, n.Fields = nil, []api.Field{{Key: fmt.Sprint(i % 10), Node: i + 1}}
					b = append(b, 0xa1, 0x61, '0'+byte(i%10))
				}
				s.Nodes = append(s.Nodes, n)
			}
			s.Nodes = append(s.Nodes, api.Node{Kind: api.Int, Lo: 5, Hi: 6})
			for last, stands := range map[byte]bool{5: true, 6: true, 7: false, 4: false, 0x60: false} {
				b := append(slices.Clone(b), last)
				m := fresh(t, s, depth)
				answers, done := run(t, m, events(t, b, depth))
				if len(answers) != len(b) || slices.Contains(answers[:len(b)-1], false) || answers[len(b)-1] != stands || done != stands {
					t.Errorf("depth %d, kind %d, %x: %v, %v", depth, kind, b, answers, done)
				}
			}
		}
	}
}
