package tests

import (
	"math"
	"slices"
	"strings"
	"testing"

	"loop.example/panework/impl"
)

// goodTexts are texts with words of many lengths, up to the longest text there is.
func goodTexts() []string {
	texts := []string{
		"", "a", "z", "of", "a b", "of of", "a an the over under",
		"the lighthouse over a meadow", "the meadow", "lighthouse over",
		strings.Repeat("q", impl.TxtMax),
		strings.Repeat("a ", impl.TxtMax/2-1) + "bc",
		strings.Repeat("x", 14) + " " + strings.Repeat("y", 15),
		strings.Repeat("ab ", 9) + "cde",
	}
	lengths := []int{1, 2, 3, 5, 9}
	for _, i := range lengths {
		for _, j := range lengths {
			for _, k := range lengths {
				for _, l := range lengths {
					text := strings.Repeat("a", i) + " " + strings.Repeat("b", j) + " " + strings.Repeat("m", k) + " " + strings.Repeat("z", l)
					if len(text) <= impl.TxtMax {
						texts = append(texts, text)
					}
				}
			}
		}
	}
	return texts
}

// badTexts are texts that are none.
func badTexts() []string {
	return []string{
		" ", "  ", " a", "a ", "a  b", " a b", "a b ", "a   b", "A", "aB", "a1", "a.b", "a\tb", "a\nb", "a\x00", "\x00",
		"`", "{", "é", "a é", "\xff", "a\xffb", "a-b", "a b  c",
		strings.Repeat("q", impl.TxtMax+1),
		strings.Repeat("a ", impl.TxtMax/2) + "b",
		strings.Repeat("a", impl.TxtMax) + " ",
		strings.Repeat("ab ", 4000) + "c",
	}
}

// someWidths are all widths at which a text may break, and some that no line can meet.
func someWidths() []int {
	widths := []int{math.MinInt, -300, math.MaxInt, impl.WidMax}
	for w := -2; w <= impl.TxtMax+2; w++ {
		widths = append(widths, w)
	}
	return widths
}

func sameList(a []string, b ...string) bool {
	return slices.Equal(a, b)
}

func TestBadTextsHaveNothing(t *testing.T) {
	for _, s := range badTexts() {
		if len(impl.TxtWords(s)) != 0 || impl.TxtCount(s) != 0 || impl.TxtLeast(s) != 0 || impl.TxtWish(s) != 0 {
			t.Errorf("%q has words", s)
		}
		for _, w := range someWidths() {
			if l := impl.TxtLines(s, w); len(l) != 0 {
				t.Errorf("%q by %d has lines %q", s, w, l)
			}
		}
	}
}

func TestPromise62WordsJoined(t *testing.T) {
	for _, s := range goodTexts() {
		words := impl.TxtWords(s)
		if impl.TxtJoin(words) != s {
			t.Errorf("%q: words %q", s, words)
		}
		if impl.TxtCount(s) != len(words) {
			t.Errorf("%q: %d words, but %d counted", s, len(words), impl.TxtCount(s))
		}
		for _, w := range words {
			if w == "" || strings.Contains(w, " ") {
				t.Errorf("%q: no word: %q", s, w)
			}
		}
	}
	if w := impl.TxtWords("a an the"); !sameList(w, "a", "an", "the") {
		t.Error(w)
	}
	if w := impl.TxtWords(""); len(w) != 0 || impl.TxtCount("") != 0 {
		t.Error(w)
	}
	if impl.TxtCount("a b c d e f g h i j k l m n o") != 15 {
		t.Error("fifteen words are not counted")
	}
}

func TestPromise63JoinedLength(t *testing.T) {
	lists := [][]string{
		nil, {}, {""}, {"", ""}, {"", "", ""}, {"a"}, {"a", ""}, {"", "a"}, {"a b", "c"}, {" ", " "},
		{"Any Bytes\x00", "\xff\xfe", "é"}, {strings.Repeat("long ", 1000), "x"}, slices.Repeat([]string{"ab"}, 500),
	}
	for _, list := range lists {
		want := max(0, len(list)-1)
		for _, l := range list {
			want += len(l)
		}
		got := impl.TxtJoin(list)
		if len(got) != want || got != strings.Join(list, " ") {
			t.Errorf("%q: joined %q", list, got)
		}
	}
}

func TestPromise64LinesJoined(t *testing.T) {
	for _, s := range goodTexts() {
		for _, w := range someWidths() {
			lines := impl.TxtLines(s, w)
			if impl.TxtJoin(lines) != s {
				t.Errorf("%q by %d: %q", s, w, lines)
			}
			for _, l := range lines {
				if l == "" || len(l) > w && strings.Contains(l, " ") {
					t.Errorf("%q by %d: line %q", s, w, l)
				}
			}
		}
	}
}

func TestPromise65LinesAreFull(t *testing.T) {
	for _, s := range goodTexts() {
		for _, w := range someWidths() {
			lines := impl.TxtLines(s, w)
			for i := 1; i < len(lines); i++ {
				first, _, _ := strings.Cut(lines[i], " ")
				if len(lines[i-1])+1+len(first) <= w {
					t.Errorf("%q by %d: %q fits behind %q", s, w, first, lines[i-1])
				}
			}
		}
	}
	if l := impl.TxtLines("ab cd ef", 5); !sameList(l, "ab cd", "ef") {
		t.Error("just as wide as told:", l)
	}
	if l := impl.TxtLines("ab cd ef", 4); !sameList(l, "ab", "cd", "ef") {
		t.Error("one too narrow:", l)
	}
	if l := impl.TxtLines("a lighthouse b c", 3); !sameList(l, "a", "lighthouse", "b c") {
		t.Error("a word wider than told:", l)
	}
	if l := impl.TxtLines("a b", math.MinInt); !sameList(l, "a", "b") {
		t.Error("no width at all:", l)
	}
}

func TestPromise66WiderHasNoMoreLines(t *testing.T) {
	for _, s := range goodTexts() {
		for w := -2; w <= impl.TxtMax; w++ {
			if len(impl.TxtLines(s, w+1)) > len(impl.TxtLines(s, w)) {
				t.Errorf("%q: more lines by %d", s, w+1)
			}
		}
		whole := impl.TxtLines(s, impl.TxtWish(s))
		if s == "" && len(whole) != 0 || s != "" && !sameList(whole, s) {
			t.Errorf("%q by its wish: %q", s, whole)
		}
		for _, l := range impl.TxtLines(s, impl.TxtLeast(s)) {
			if len(l) > impl.TxtLeast(s) {
				t.Errorf("%q by its least: %q", s, l)
			}
		}
	}
}

func TestPromise67LeastIsLongestWord(t *testing.T) {
	for _, s := range goodTexts() {
		longest := 0
		for _, w := range strings.Fields(s) {
			longest = max(longest, len(w))
		}
		if impl.TxtLeast(s) != longest {
			t.Errorf("%q: least %d", s, impl.TxtLeast(s))
		}
		if impl.TxtWish(s) != len(s) || impl.TxtLeast(s) > impl.TxtWish(s) {
			t.Errorf("%q: wish %d", s, impl.TxtWish(s))
		}
	}
	if impl.TxtLeast("") != 0 || impl.TxtWish("") != 0 {
		t.Error("the empty text is wide")
	}
}

func TestPromise68WordBehind(t *testing.T) {
	for _, s := range goodTexts() {
		longer := strings.TrimPrefix(s+" of", " ")
		if len(longer) > impl.TxtMax {
			continue
		}
		for _, w := range someWidths() {
			before, after := impl.TxtLines(s, w), impl.TxtLines(longer, w)
			want := slices.Clone(before)
			if n := len(want); n > 0 && len(want[n-1])+3 <= w {
				want[n-1] += " of"
			} else {
				want = append(want, "of")
			}
			if !slices.Equal(after, want) {
				t.Errorf("%q by %d: %q, then %q", s, w, before, after)
			}
		}
	}
}

// plainlyText says what a text is, word by word.
func plainlyText(s string) bool {
	if s == "" {
		return true
	}
	for _, word := range strings.Split(s, " ") {
		if word == "" || strings.Trim(word, "abcdefghijklmnopqrstuvwxyz") != "" {
			return false
		}
	}
	return len(s) <= impl.TxtMax
}

func TestPromise69WhatIsAText(t *testing.T) {
	for _, s := range goodTexts() {
		if !impl.TxtOk(s) {
			t.Errorf("%q is none", s)
		}
	}
	for _, s := range badTexts() {
		if impl.TxtOk(s) {
			t.Errorf("%q is one", s)
		}
	}
	for b := range 256 {
		for _, s := range []string{string([]byte{byte(b)}), string([]byte{'a', byte(b)}), string([]byte{byte(b), 'a'}), string([]byte{'a', byte(b), 'a'})} {
			if impl.TxtOk(s) != plainlyText(s) {
				t.Errorf("%q: %v", s, impl.TxtOk(s))
			}
		}
	}
	every := []string{""}
	for range 6 {
		for _, s := range every {
			if impl.TxtOk(s) != plainlyText(s) {
				t.Errorf("%q: %v", s, impl.TxtOk(s))
			}
		}
		var longer []string
		for _, s := range every {
			for _, b := range []string{"a", "z", " ", "{"} {
				longer = append(longer, s+b)
			}
		}
		every = longer
	}
}

func TestTextAnswersAreNew(t *testing.T) {
	given := []string{"a", "b c", "behind"}
	if s := impl.TxtJoin(given[:2]); s != "a b c" {
		t.Error(s)
	}
	if !sameList(given, "a", "b c", "behind") {
		t.Error("written into what was given:", given)
	}
	first, second := impl.TxtWords("a b"), impl.TxtWords("a b")
	first[0] = "turned"
	_ = append(first, "turned")
	if !sameList(second, "a", "b") || !sameList(impl.TxtWords("a b"), "a", "b") {
		t.Error("words are kept from call to call")
	}
	lines, again := impl.TxtLines("a b", 1), impl.TxtLines("a b", 1)
	lines[0] = "turned"
	if !sameList(again, "a", "b") || !sameList(impl.TxtLines("a b", 1), "a", "b") {
		t.Error("lines are kept from call to call")
	}
}
