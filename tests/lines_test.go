package tests

import (
	"fmt"
	"reflect"
	"regexp"
	"slices"
	"strconv"
	"strings"
	"sync"
	"testing"
	"unsafe"

	"loop.example/panework/impl"
)

func plainlyCellText(c impl.TblCell) string {
	return fmt.Sprintf("cell %d %d %d%d %d%d %d%d %d%d %s", c.Cols, c.Rows, c.Top.Style, c.Top.Width,
		c.Right.Style, c.Right.Width, c.Bottom.Style, c.Bottom.Width, c.Left.Style, c.Left.Width, c.Text)
}

// What a line may be, each with all that is asked of it but how long a text is.
var (
	cellLine   = regexp.MustCompile(`\Acell ([1-4]) ([1-4]) (00|40|[123][123]) (00|40|[123][123]) (00|40|[123][123]) (00|40|[123][123]) ((?:[a-z]+(?: [a-z]+)*)?)\z`)
	startLine  = regexp.MustCompile(`\A(head|foot|gap) (0|[1-9][0-9]{0,3})\z`)
	columnLine = regexp.MustCompile(`\Acolumn (?:(auto)|(fixed|part) (0|[1-9][0-9]{0,3}))\z`)
	rowLine    = regexp.MustCompile(`\Arow( whole)?\z`)
)

func digitsOf(s string) int {
	n, _ := strconv.Atoi(s)
	return n
}

func plainlyCellRead(line string) (impl.TblCell, bool) {
	m := cellLine.FindStringSubmatch(line)
	if m == nil || len(m[7]) > 30 {
		return impl.TblCell{}, false
	}
	c := impl.TblCell{Text: m[7], Cols: digitsOf(m[1]), Rows: digitsOf(m[2])}
	for side, b := range []*impl.BrdLine{&c.Top, &c.Right, &c.Bottom, &c.Left} {
		b.Style, b.Width = digitsOf(m[3+side][:1]), digitsOf(m[3+side][1:])
	}
	return c, true
}

func plainlyPrint(x impl.TblTable) []string {
	lines := []string{fmt.Sprint("head ", x.Head), fmt.Sprint("foot ", x.Foot), fmt.Sprint("gap ", x.Gap)}
	for _, c := range x.Cols {
		lines = append(lines, []string{"column auto", fmt.Sprint("column fixed ", c.N), fmt.Sprint("column part ", c.N)}[c.Kind])
	}
	for _, row := range x.Rows {
		lines = append(lines, map[bool]string{false: "row", true: "row whole"}[row.Whole])
		for _, c := range row.Cells {
			lines = append(lines, plainlyCellText(c))
		}
	}
	return lines
}

// plainlyPut puts a line into a table; false, if it is wrong.
func plainlyPut(x *impl.TblTable, number int, line string) bool {
	if number <= 3 {
		m := startLine.FindStringSubmatch(line)
		if m == nil || m[1] != []string{"head", "foot", "gap"}[number-1] {
			return false
		}
		*[]*int{&x.Head, &x.Foot, &x.Gap}[number-1] = digitsOf(m[2])
		return true
	}
	if m := columnLine.FindStringSubmatch(line); m != nil && len(x.Rows) == 0 {
		x.Cols = append(x.Cols, impl.TblCol{Kind: map[string]int{"": 0, "fixed": 1, "part": 2}[m[2]], N: digitsOf(m[3])})
		return true
	}
	if m := rowLine.FindStringSubmatch(line); m != nil {
		x.Rows = append(x.Rows, impl.TblRow{Whole: m[1] != ""})
		return true
	}
	if c, ok := plainlyCellRead(line); ok && len(x.Rows) > 0 {
		last := &x.Rows[len(x.Rows)-1]
		last.Cells = append(last.Cells, c)
		return true
	}
	return false
}

// plainlyParse reads lines by the document's words.
func plainlyParse(lines []string) (impl.TblTable, int) {
	x := impl.TblTable{}
	if len(lines) > 80 {
		return x, 81
	}
	for k, line := range lines {
		if !plainlyPut(&x, k+1, line) {
			return impl.TblTable{}, k + 1
		}
	}
	if !impl.TblOk(x) {
		return impl.TblTable{}, len(lines) + 1
	}
	return x, 0
}

// exampleLines are those of the document's example.
func exampleLines() []string {
	return []string{
		"head 1", "foot 0", "gap 2", "column auto", "column part 30",
		"row", "cell 1 1 00 11 32 00 the meadow", "cell 2 1 00 00 00 21 lighthouse over",
		"row", "cell 1 2 00 00 00 00 a an the over under", "cell 1 1 00 00 00 00 a an", "cell 1 1 00 00 00 00 under",
		"row whole", "cell 2 1 40 00 00 00 the lighthouse",
	}
}

func checkCell(t *testing.T, c impl.TblCell) {
	t.Helper()
	line := impl.CellText(c)
	if want := plainlyCellText(c); line != want {
		t.Fatalf("%v is written %q, not %q", c, line, want)
	}
	if read, ok := impl.CellRead(line); !ok || read != c {
		t.Fatalf("%v, written %q, is read %v, %v", c, line, read, ok)
	}
}

func TestPromise75CellsWritten(t *testing.T) {
	for _, s := range goodTexts() {
		checkCell(t, worded(s, 1))
		c := fullCell()
		c.Text = s
		checkCell(t, c)
	}
	for _, b := range risingBorders() {
		for _, other := range risingBorders() {
			for side := range 4 {
				c := impl.TblCell{Text: "a an", Cols: 2, Rows: 3, Top: other, Right: other, Bottom: other, Left: other}
				*[]*impl.BrdLine{&c.Top, &c.Right, &c.Bottom, &c.Left}[side] = b
				checkCell(t, c)
			}
		}
	}
	eachSpan(func(cols int, rows int) { checkCell(t, spans(cols, rows)) })
}

func TestPromise75WrittenOut(t *testing.T) {
	lines := map[string]impl.TblCell{
		"cell 1 1 00 00 00 00 ":                               spans(1, 1),
		"cell 1 2 00 00 00 00 a":                              {Text: "a", Cols: 1, Rows: 2},
		"cell 4 4 11 22 33 40 the lighthouse over the meadow": fullCell(),
		"cell 1 1 00 11 32 00 the meadow":                     exampleTable().Rows[0].Cells[0],
		"cell 3 1 31 13 00 40 a b c":                          {Text: "a b c", Cols: 3, Rows: 1, Top: impl.BrdLine{Style: 3, Width: 1}, Right: impl.BrdLine{Style: 1, Width: 3}, Left: impl.BrdLine{Style: 4}},
	}
	for line, c := range lines {
		if got := impl.CellText(c); got != line {
			t.Errorf("%v is written %q, not %q", c, got, line)
		}
		if got, ok := impl.CellRead(line); !ok || got != c {
			t.Errorf("%q is read %v, %v", line, got, ok)
		}
	}
}

func TestPromise75CellsThatAreNone(t *testing.T) {
	list := wrongCells()
	for _, s := range badTexts() {
		list = append(list, worded(s, 1))
	}
	for _, n := range oddNumbers {
		if n < 1 || n > 4 {
			list = append(list, spans(n, 1), spans(1, n))
		}
		for _, width := range oddNumbers {
			if !plainlyBorder(n, width) {
				b := impl.BrdLine{Style: n, Width: width}
				list = append(list, impl.TblCell{Cols: 1, Rows: 1, Top: b}, impl.TblCell{Cols: 1, Rows: 1, Right: b},
					impl.TblCell{Cols: 1, Rows: 1, Bottom: b}, impl.TblCell{Cols: 1, Rows: 1, Left: b})
			}
		}
	}
	for _, c := range list {
		if got := impl.CellText(c); got != "" {
			t.Errorf("%v is written %q", c, got)
		}
	}
}

// noCells are lines that are no cell's, each for one thing.
func noCells() []string {
	const bare = "cell 1 1 00 00 00 00 "
	list := []string{
		"", " ", "c", "cell", "cell ", "cell 1", "cell 1 1", "cell 1 1 00", "cell 1 1 00 00 00 00", "a an", "row", "row whole", "head 1", "column auto",
		" " + bare, bare + " ", bare + " a", bare + "a ", bare + "a  b", bare + "a\n", bare + "\n", bare + "\x00", bare + "A", bare + "a1", bare + "é", bare + "\xff",
		"Cell 1 1 00 00 00 00 a", "CELL 1 1 00 00 00 00 a", "cells 1 1 00 00 00 00 a", "row 1 1 00 00 00 00 a", "1 1 00 00 00 00 a", "cell1 1 00 00 00 00 a", "\tcell 1 1 00 00 00 00 a",
		"cell  1 1 00 00 00 00 a", "cell 1  1 00 00 00 00 a", "cell 1 1  00 00 00 00 a", "cell 1 1 00 00 00 00  a", "cell\t1 1 00 00 00 00 a", "cell 1 1 00 00 00 00\ta",
		"cell 1 1 00 00 00 a", "cell 1 00 00 00 00 a", "cell 1 1 00 00 00 00 00 a", "cell 1 1 1 00 00 00 00 a", "cell 1 1 00000000 a", "cell 11 00 00 00 00 a",
		"cell 0 1 00 00 00 00 a", "cell 1 0 00 00 00 00 a", "cell 5 1 00 00 00 00 a", "cell 1 5 00 00 00 00 a", "cell 9999 1 00 00 00 00 a", "cell 1 10000 00 00 00 00 a",
		"cell 01 1 00 00 00 00 a", "cell 1 01 00 00 00 00 a", "cell 00 1 00 00 00 00 a", "cell +1 1 00 00 00 00 a", "cell -1 1 00 00 00 00 a", "cell 1 -1 00 00 00 00 a", "cell 1. 1 00 00 00 00 a",
		"cell x 1 00 00 00 00 a", "cell 1 a 00 00 00 00 a", "cell one 1 00 00 00 00 a", "cell 0x1 1 00 00 00 00 a", "cell ١ 1 00 00 00 00 a", "cell 18446744073709551617 1 00 00 00 00 a",
		bare + strings.Repeat("q", impl.TxtMax+1), bare + strings.Repeat("a ", 15) + "a",
	}
	for _, b := range []string{"", "0", "000", "01", "10", "14", "20", "24", "30", "41", "44", "50", "51", "99", "1", "-1", "+0", "aa", "0 0", " 0", "1.", "100", "٠٠", "0\x00", "\xff\xff"} {
		list = append(list, "cell 1 1 "+b+" 00 00 00 a", "cell 1 1 00 "+b+" 00 00 a", "cell 1 1 00 00 "+b+" 00 a", "cell 1 1 00 00 00 "+b+" a")
	}
	return append(list, longLines()...)
}

// longLines are lines about the longest one there may be, and far beyond it; a text is too short to fill one.
func longLines() []string {
	var list []string
	for _, long := range []int{52, 89, 90, 91, 92, 1000, 100000} {
		for _, start := range []string{"cell 1 1 00 00 00 00 ", "row", "head ", "head 1", "gap 0 ", "column fixed ", "column auto"} {
			for _, more := range []string{"a", " ", "0", "1"} {
				list = append(list, start+strings.Repeat(more, long-len(start)))
			}
		}
	}
	return list
}

func TestPromise75LinesThatAreNone(t *testing.T) {
	for _, line := range noCells() {
		if c, ok := impl.CellRead(line); ok || c != (impl.TblCell{}) {
			t.Errorf("%q is read %v, %v", line, c, ok)
		}
	}
}

func checkRead(t *testing.T, line string) bool {
	t.Helper()
	want, is := plainlyCellRead(line)
	c, ok := impl.CellRead(line)
	if ok != is || c != want || ok && impl.CellText(c) != line {
		t.Fatalf("%q is read %v and %v, not %v and %v", line, c, ok, want, is)
	}
	return ok
}

// Each byte of a line is taken out, turned into any other one, and has any other one ahead.
func TestPromise75LinesOfOneByteMore(t *testing.T) {
	read, none := 0, 0
	count := func(ok bool) {
		if ok {
			read++
		} else {
			none++
		}
	}
	for _, c := range []impl.TblCell{spans(1, 1), worded("a", 2), fullCell(), worded("a an the", 4), exampleTable().Rows[0].Cells[0]} {
		line := impl.CellText(c)
		for at := range len(line) + 1 {
			count(checkRead(t, line[:at]))
			count(checkRead(t, line[at:]))
			count(checkRead(t, line[:at]+line[min(at+1, len(line)):]))
			for b := range 256 {
				count(checkRead(t, line[:at]+string([]byte{byte(b)})+line[at:]))
				count(checkRead(t, line[:at]+string([]byte{byte(b)})+line[min(at+1, len(line)):]))
			}
		}
	}
	if read < 2000 || none < 50000 {
		t.Errorf("only %d lines were read, and %d were none", read, none)
	}
}

// printedTables are tables that are ok: those at edges, and many that are rolled.
func printedTables() []impl.TblTable {
	list := append(rolledEdited(), goodTables()[:300]...)
	list = append(list, filledTables()[:200]...)
	full := impl.TblTable{Head: 3, Foot: 5, Gap: impl.TblMaxGap, Cols: slices.Repeat([]impl.TblCol{{Kind: impl.ColPart, N: 100}}, impl.TblMaxCol)}
	for range impl.TblMaxRow {
		full.Rows = append(full.Rows, impl.TblRow{Whole: true, Cells: slices.Repeat([]impl.TblCell{fullCell()}, impl.TblMaxIn)})
	}
	for n := range impl.ColMaxFix + 1 {
		list = append(list, onlyOf(1, impl.TblCol{Kind: impl.ColFixed, N: n}, 0))
	}
	for n := range 100 {
		list = append(list, onlyOf(2, impl.TblCol{Kind: impl.ColPart, N: n + 1}, 1))
	}
	return append(list, full)
}

func TestPromise76TablesWrittenAndRead(t *testing.T) {
	longest := 0
	for _, x := range printedTables() {
		lines := impl.TblPrint(x)
		if want := plainlyPrint(x); !slices.Equal(lines, want) {
			t.Fatalf("%v is written %q, not %q", x, lines, want)
		}
		y, wrong := impl.TblParse(lines)
		if wrong != 0 || !sameTable(x, y) {
			t.Fatalf("%v, written %q, is read %v, %d", x, lines, y, wrong)
		}
		if again := impl.TblPrint(y); !slices.Equal(again, lines) {
			t.Fatalf("%q is read, and written %q", lines, again)
		}
		longest = max(longest, len(lines))
	}
	// Three, a line for each column, and for each row one for itself and one for each cell.
	if longest != 3+8+8*6 {
		t.Errorf("the longest table has %d lines", longest)
	}
}

func TestPromise76TheExample(t *testing.T) {
	if got := impl.TblPrint(exampleTable()); !slices.Equal(got, exampleLines()) {
		t.Errorf("it is written %q", got)
	}
	if x, wrong := impl.TblParse(exampleLines()); wrong != 0 || !sameTable(x, exampleTable()) {
		t.Errorf("it is read %v, %d", x, wrong)
	}
}

func TestPromise76WrittenOut(t *testing.T) {
	cases := []struct {
		lines []string
		want  impl.TblTable
	}{
		{[]string{"head 0", "foot 0", "gap 0", "row"}, impl.TblTable{Rows: make([]impl.TblRow, 1)}},
		{[]string{"head 1", "foot 0", "gap 3", "row whole"}, impl.TblTable{Head: 1, Gap: 3, Rows: []impl.TblRow{{Whole: true}}}},
		{[]string{"head 0", "foot 2", "gap 0", "row", "row whole", "row"}, impl.TblTable{Foot: 2, Rows: []impl.TblRow{{}, {Whole: true}, {}}}},
		{[]string{"head 0", "foot 0", "gap 0", "row", "cell 1 1 00 00 00 00 "}, impl.TblTable{Rows: rowsOf([]impl.TblCell{spans(1, 1)})}},
		{[]string{"head 0", "foot 0", "gap 0", "row", "row", "cell 2 3 00 00 00 00 a", "cell 1 1 00 00 00 00 b", "row"},
			impl.TblTable{Rows: rowsOf(nil, []impl.TblCell{{Text: "a", Cols: 2, Rows: 3}, worded("b", 1)}, nil)}},
		{[]string{"head 0", "foot 0", "gap 1", "column fixed 0", "column auto", "column fixed 60", "column part 1", "column part 100", "row"},
			impl.TblTable{Gap: 1, Rows: make([]impl.TblRow, 1), Cols: []impl.TblCol{{Kind: 1}, {}, {Kind: 1, N: 60}, {Kind: 2, N: 1}, {Kind: 2, N: 100}}}},
	}
	for _, c := range cases {
		if got := impl.TblPrint(c.want); !slices.Equal(got, c.lines) {
			t.Errorf("%v is written %q, not %q", c.want, got, c.lines)
		}
		if got, wrong := impl.TblParse(c.lines); wrong != 0 || !sameTable(got, c.want) {
			t.Errorf("%q is read %v, %d", c.lines, got, wrong)
		}
	}
}

func TestWhatIsNoTableIsNotWritten(t *testing.T) {
	for _, x := range wronglyBordered() {
		if got := impl.TblPrint(x); len(got) != 0 {
			t.Errorf("%v is written %q", x, got)
		}
	}
}

// startedWith is lines with the three that come first ahead of them.
func startedWith(lines ...string) []string {
	return append([]string{"head 0", "foot 0", "gap 0"}, lines...)
}

func checkWrong(t *testing.T, lines []string, want int) {
	t.Helper()
	if x, wrong := impl.TblParse(lines); wrong != want || !sameTable(x, impl.TblTable{}) {
		t.Errorf("%q: line %d is wrong, not %d; %v is read", lines, wrong, want, x)
	}
}

func TestPromise77TheFirstThree(t *testing.T) {
	three := []string{"head 0", "foot 0", "gap 0"}
	rest := []string{"row", "cell 1 1 00 00 00 00 a"}
	for at := range three {
		for _, line := range []string{"row", "row whole", "column auto", "cell 1 1 00 00 00 00 a", three[(at+1)%3], three[(at+2)%3], ""} {
			lines := append(slices.Clone(three), rest...)
			lines[at] = line
			checkWrong(t, lines, at+1)
		}
		// One of them again, in each place behind.
		for behind := 3; behind <= 5; behind++ {
			lines := append(slices.Clone(three), rest...)
			checkWrong(t, slices.Insert(lines, behind, three[at]), behind+1)
		}
		checkWrong(t, append(slices.Delete(slices.Clone(three), at, at+1), rest...), at+1)
	}
	checkWrong(t, []string{"foot 0", "head 0", "gap 0", "row"}, 1)
	checkWrong(t, []string{"head 0", "gap 0", "foot 0", "row"}, 2)
	checkWrong(t, startedWith("column auto", "gap 0", "row"), 5)
	checkWrong(t, rest, 1)
}

// Where none of them is wrong one more than there are is told.
func TestPromise77TooFewLines(t *testing.T) {
	checkWrong(t, nil, 1)
	checkWrong(t, []string{}, 1)
	lines := startedWith("column auto", "column part 30", "row", "cell 1 1 00 00 00 00 a")
	for many := range 6 {
		checkWrong(t, lines[:many], many+1)
	}
	for _, many := range []int{6, 7} {
		if _, wrong := impl.TblParse(lines[:many]); wrong != 0 {
			t.Errorf("%q: line %d is wrong", lines[:many], wrong)
		}
	}
}

func TestPromise77PlacesOfLines(t *testing.T) {
	const cell = "cell 1 1 00 00 00 00 a"
	checkWrong(t, startedWith(cell), 4)
	checkWrong(t, startedWith(cell, "row"), 4)
	checkWrong(t, startedWith("column auto", cell, "row"), 5)
	checkWrong(t, startedWith("row", "column auto"), 5)
	checkWrong(t, startedWith("row", cell, "column fixed 3"), 6)
	checkWrong(t, startedWith("column auto", "row whole", "row", "column part 3", cell), 7)
}

// What is wrong with a table, but with none of its lines, is told behind the last one.
func TestPromise77TablesThatAreNotOk(t *testing.T) {
	cell := "cell 1 1 00 00 00 00 a"
	lists := [][]string{
		startedWith(), startedWith("column auto"),
		{"head 2", "foot 0", "gap 0", "row"}, {"head 0", "foot 2", "gap 0", "row"}, {"head 1", "foot 1", "gap 0", "row"}, {"head 9999", "foot 9999", "gap 0", "row"},
		{"head 0", "foot 0", "gap 4", "row"}, {"head 0", "foot 0", "gap 9999", "row"},
		startedWith("column fixed 61", "row"), startedWith("column fixed 9999", "row"), startedWith("column part 0", "row"), startedWith("column part 101", "row"), startedWith("column part 9999", "row"),
		startedWith(slices.Repeat([]string{"row"}, impl.TblMaxRow+1)...),
		startedWith(append([]string{"row"}, slices.Repeat([]string{cell}, impl.TblMaxIn+1)...)...),
		startedWith(append(slices.Repeat([]string{"column auto"}, impl.TblMaxCol+1), "row")...),
	}
	for _, lines := range lists {
		checkWrong(t, lines, len(lines)+1)
		// A line that is wrong by itself is told ahead of that.
		checkWrong(t, append(slices.Clone(lines), "row "), len(lines)+1)
		spoilt := slices.Clone(lines)
		spoilt[1] = "foot"
		checkWrong(t, spoilt, 2)
	}
}

func TestPromise77HowManyLines(t *testing.T) {
	rows := slices.Repeat([]string{"row"}, 300)
	for _, many := range []int{78, 79, 80, 81, 82, 200} {
		checkWrong(t, startedWith(rows...)[:many], min(many+1, 81))
	}
	full := startedWith(rows...)[:80]
	full[79] = "rows"
	checkWrong(t, full, 80)
	full[0] = "rows"
	checkWrong(t, full, 1)
	// With more lines than there may be that is told, whatever they are.
	for _, lines := range [][]string{rows, make([]string, 81), append(full, "row"), append(full[:80:80], "rows", "rows")} {
		checkWrong(t, lines, 81)
	}
}

// noNumbers are texts that are no numbers.
func noNumbers() []string {
	return []string{"", " ", "00", "01", "007", "0000", "0001", "10000", "12345", "99999", "-1", "-0", "+1", "+0", "1.", "1.0", "1e2", "0x1", "1_0", "a", "o", "1a", "a1", " 1", "1 ", "1 1", "1\n", "\x001", "١", "18446744073709551616"}
}

func TestPromise77Numbers(t *testing.T) {
	for _, n := range noNumbers() {
		checkWrong(t, []string{"head " + n, "foot 0", "gap 0", "row"}, 1)
		checkWrong(t, []string{"head 0", "foot " + n, "gap 0", "row"}, 2)
		checkWrong(t, []string{"head 0", "foot 0", "gap " + n, "row"}, 3)
		checkWrong(t, startedWith("column fixed "+n, "row"), 4)
		checkWrong(t, startedWith("column part "+n, "row"), 4)
	}
	// Of all that are numbers no line is wrong, though the table is not ok.
	for n := range 10000 {
		number := strconv.Itoa(n)
		for k, lines := range [][]string{
			{"head " + number, "foot 0", "gap 0", "row"}, {"head 0", "foot " + number, "gap 0", "row"}, {"head 0", "foot 0", "gap " + number, "row"},
			startedWith("column fixed "+number, "row"), startedWith("column part "+number, "row"),
		} {
			want := len(lines) + 1
			if k < 2 && n <= 1 || k == 2 && n <= 3 || k == 3 && n <= 60 || k == 4 && n >= 1 && n <= 100 {
				want = 0
			}
			if x, wrong := impl.TblParse(lines); wrong != want || wrong == 0 && !slices.Equal(impl.TblPrint(x), lines) {
				t.Fatalf("%q: line %d is wrong, not %d; %v is read", lines, wrong, want, x)
			}
		}
	}
}

// noLines are lines that are wrong wherever they stand.
var noLines = sync.OnceValue(func() []string {
	list := []string{
		"", " ", "\n", "\x00", "\xff", "head", "head ", "heads 1", "head1", "head  1", " head 1", "head 1 ", "Head 1", "HEAD 1", "head\t1", "head 1 1", "head 1\n", "tail 1", "1",
		"foot", "foot ", "foot  0", "foot 0 ", "foots 0", "gap", "gap ", "gap  0", "gap 0 ", "gaps 0",
		"column", "column ", "columns", "column auto ", " column auto", "column  auto", "column Auto", "columnauto", "column auto 0", "column auto 1", "column autos", "column\tauto",
		"column fixed", "column fixed ", "column fixed  1", "column fixed 1 ", "column fixed1", "column fixed 1 1", "column part", "column part ", "column part  1", "column part 1 ", "column part one", "column 1", "column whole 1", "column none", "column fixed auto",
		"row ", " row", "rows", "Row", "ROW", "row 1", "row whole ", "row  whole", " row whole", "row Whole", "row wholes", "rowwhole", "row whole 1", "row\twhole", "row\n", "row cut", "ro", "row whol", "whole",
	}
	for _, line := range noCells() {
		if !startLine.MatchString(line) && !rowLine.MatchString(line) && !columnLine.MatchString(line) {
			list = append(list, line)
		}
	}
	return append(list, longLines()...)
})

// A line that is wrong is told wherever it stands, and whatever is wrong behind it.
func TestPromise77LinesThatAreNone(t *testing.T) {
	example := exampleLines()
	for _, wrong := range noLines() {
		for at := range example {
			lines := slices.Clone(example)
			lines[at] = wrong
			checkWrong(t, lines, at+1)
			for behind := at + 1; behind < len(lines); behind++ {
				lines[behind] = wrong
			}
			checkWrong(t, lines, at+1)
			checkWrong(t, slices.Insert(slices.Clone(example), at, wrong), at+1)
		}
		checkWrong(t, append(slices.Clone(example), wrong), len(example)+1)
		checkWrong(t, []string{wrong}, 1)
	}
}

// rolledLine is a line that may come somewhere, or one that is wrong everywhere.
func rolledLine(d *dice, own []string) string {
	any := noLines()
	number := strconv.Itoa(d.roll([]int{3, 5, 120, 12000}[d.roll(4)]))
	switch d.roll(9) {
	case 0:
		return []string{"head ", "foot ", "gap "}[d.roll(3)] + number
	case 1:
		return []string{"column fixed ", "column part "}[d.roll(2)] + number
	case 2:
		return "column auto"
	case 3:
		return []string{"row", "row whole"}[d.roll(2)]
	case 4:
		return plainlyCellText(fullCell())
	case 5:
		return any[d.roll(len(any))]
	case 6:
		line := own[d.roll(len(own))]
		at := d.roll(len(line) + 1)
		return line[:at] + string(rune(' '+d.roll(95))) + line[min(at+d.roll(2), len(line)):]
	}
	return own[d.roll(len(own))]
}

// turnedLines are lines with one taken out, one put in, one turned, or two in each other's place.
func turnedLines(d *dice, lines []string) []string {
	at := d.roll(len(lines))
	switch d.roll(5) {
	case 0:
		return append(lines[:at:at], lines[at+1:]...)
	case 1, 2:
		return slices.Insert(slices.Clone(lines), at, rolledLine(d, lines))
	case 3:
		other := slices.Clone(lines)
		with := d.roll(len(lines))
		other[at], other[with] = other[with], other[at]
		return other
	}
	other := slices.Clone(lines)
	other[at] = rolledLine(d, lines)
	return other
}

func TestPromises76And77LinesFollowTheWords(t *testing.T) {
	d := &dice{state: 76}
	read, wrongly, notOk := 0, 0, 0
	for _, x := range printedTables()[:700] {
		own := impl.TblPrint(x)
		for range 40 {
			lines := turnedLines(d, own)
			for range d.roll(3) {
				lines = turnedLines(d, append(lines, "row"))
			}
			want, number := plainlyParse(lines)
			got, wrong := impl.TblParse(lines)
			if wrong != number || !sameTable(got, want) {
				t.Fatalf("%q: %v and %d, not %v and %d", lines, got, wrong, want, number)
			}
			switch {
			case wrong > len(lines):
				notOk++
			case wrong > 0:
				wrongly++
			default:
				read++
				if back := impl.TblPrint(got); !slices.Equal(back, lines) {
					t.Fatalf("%q is read, and written %q", lines, back)
				}
			}
		}
	}
	if read < 3000 || wrongly < 3000 || notOk < 1000 {
		t.Errorf("only %d lists of lines were read, %d had a line that is wrong, %d were of no table that is ok", read, wrongly, notOk)
	}
}

// spaciousLines are lines in a list with room behind its end, in which a mark stands.
func spaciousLines(lines []string) []string {
	return append(slices.Clone(lines), "marked", "marked")[:len(lines)]
}

func spoilLines(lines []string) {
	for k := range lines[:cap(lines)] {
		lines[:cap(lines)][k] = "spoilt"
	}
}

// staysAsItIs says whether such lines, and the marks behind them, are as they were.
func staysAsItIs(given []string, lines []string) bool {
	return slices.Equal(given[:len(lines)+2], append(slices.Clone(lines), "marked", "marked"))
}

func TestReadingLeavesTheLines(t *testing.T) {
	for _, x := range printedTables()[:200] {
		lines := plainlyPrint(x)
		for _, given := range [][]string{lines, append(slices.Clone(lines), "rows"), lines[:2], startedWith(slices.Repeat([]string{"row"}, 90)...)} {
			room := spaciousLines(given)
			want, number := plainlyParse(given)
			first, _ := impl.TblParse(room)
			second, _ := impl.TblParse(room)
			if spoilTable(first) {
				t.Fatalf("%q: two rows share memory", given)
			}
			if !staysAsItIs(room, given) {
				t.Fatalf("%q became %q", given, room[:len(given)+2])
			}
			spoilLines(room)
			if third, wrong := impl.TblParse(given); wrong != number || !sameTable(second, want) || !sameTable(third, want) {
				t.Fatalf("%q: what was read became %v, and is read %v, %d", given, second, third, wrong)
			}
		}
	}
}

func TestWritingLeavesTheTable(t *testing.T) {
	for _, x := range printedTables()[:200] {
		s, before := spaciousOf(x), spaciousOf(x)
		first, second := impl.TblPrint(s.table), impl.TblPrint(s.table)
		spoilLines(first)
		if !reflect.DeepEqual(s, before) {
			t.Fatalf("%v became %v", before, s)
		}
		spoilTable(s.table)
		if want := plainlyPrint(x); !slices.Equal(second, want) || !slices.Equal(impl.TblPrint(x), want) {
			t.Fatalf("%v: what was written became %q", x, second)
		}
	}
}

// loose is a text whose bytes may still be turned: what shares memory with it turns with them.
func loose(text string) (string, []byte) {
	bytes := []byte(text)
	return unsafe.String(unsafe.SliceData(bytes), len(bytes)), bytes
}

func TestTextsShareNoMemory(t *testing.T) {
	const line, text = "cell 1 1 00 00 00 00 a an", "a an"
	given, bytes := loose(line)
	c, _ := impl.CellRead(given)
	x, _ := impl.TblParse(startedWith("row", given))
	told := impl.DskRun(startedWith("row", given), 4)
	clear(bytes)
	if c.Text != text || x.Rows[0].Cells[0].Text != text || told[2] != text {
		t.Errorf("what was read became %q, %q and %q", c.Text, x.Rows[0].Cells[0].Text, told[2])
	}
	given, bytes = loose(text)
	written := impl.CellText(worded(given, 1))
	lines := impl.TblPrint(impl.TblTable{Rows: rowsOf([]impl.TblCell{worded(given, 1)})})
	clear(bytes)
	if written != line || lines[4] != line {
		t.Errorf("what was written became %q and %q", written, lines[4])
	}
}
