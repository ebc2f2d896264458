package impl

import (
	"iter"
	"strings"
)

// Limits of texts and widths.
const (
	TxtMax = 30
	WidMax = 300
)

// TxtOk says whether a text is words of small letters, with one blank between.
func TxtOk(s string) bool {
	if len(s) > TxtMax {
		return false
	}
	// The start and the end count as blanks: so a blank there is the second of two, and one rule bars all that are too many.
	before := byte(' ')
	for i := range len(s) {
		if s[i] == ' ' && before == ' ' || s[i] != ' ' && !isLetter(s[i]) {
			return false
		}
		before = s[i]
	}
	return s == "" || before != ' '
}

func isLetter(b byte) bool {
	return 'a' <= b && b <= 'z'
}

// wordsOf tells the words of a text one by one; none of a text that is not ok, so that nobody who asks must look first.
func wordsOf(s string) iter.Seq[string] {
	return func(yield func(string) bool) {
		if !TxtOk(s) {
			return
		}
		for from := 0; from < len(s); {
			to := wordEnd(s, from)
			if !yield(s[from:to]) {
				return
			}
			from = to + 1
		}
	}
}

func wordEnd(s string, from int) int {
	for i := from; i < len(s); i++ {
		if s[i] == ' ' {
			return i
		}
	}
	return len(s)
}

// TxtWords is the words of a text.
func TxtWords(s string) []string {
	var words []string
	for word := range wordsOf(s) {
		// A word is a piece of s; an answer shares nothing with what was given.
		words = append(words, strings.Clone(word))
	}
	return words
}

// TxtLeast is how wide a text is at least: its longest word.
func TxtLeast(s string) int {
	least := 0
	for word := range wordsOf(s) {
		least = max(least, len(word))
	}
	return least
}

// TxtWish is how wide a text would be: all in one line.
func TxtWish(s string) int {
	if !TxtOk(s) {
		return 0
	}
	return len(s)
}

// TxtLines breaks a text into lines that are no wider than told, but for a word that is.
func TxtLines(s string, width int) []string {
	var lines []string
	var line strings.Builder
	for word := range wordsOf(s) {
		// No word is empty, so a line without bytes is one that has not begun.
		if line.Len() > 0 && line.Len()+1+len(word) > width {
			lines = append(lines, line.String())
			line.Reset()
		}
		if line.Len() > 0 {
			line.WriteByte(' ')
		}
		line.WriteString(word)
	}
	if line.Len() > 0 {
		lines = append(lines, line.String())
	}
	return lines
}

// TxtCount is how many words a text has.
func TxtCount(s string) int {
	count := 0
	for range wordsOf(s) {
		count++
	}
	return count
}

// TxtJoin is lines put together, with one blank between.
func TxtJoin(lines []string) string {
	var text strings.Builder
	for i, line := range lines {
		// Lines may be empty here, so the place tells whether one is ahead, not what was written.
		if i > 0 {
			text.WriteByte(' ')
		}
		text.WriteString(line)
	}
	return text.String()
}
