package tests

import (
	"fmt"
	"math"
	"reflect"
	"slices"
	"strings"
	"testing"

	"loop.example/panework/impl"
)

// plainlyPageLines tells pages by the document's words.
func plainlyPageLines(pages [][]slice) []string {
	var lines []string
	for k, page := range pages {
		line := fmt.Sprintf("page %d high %d", k+1, linesOn(page))
		for _, s := range page {
			line += fmt.Sprintf(" row %d %d..%d", s.Row, s.From, s.To)
		}
		lines = append(lines, line)
	}
	return lines
}

func TestPromise78ALineForEachPage(t *testing.T) {
	more, bare := 0, 0
	for _, p := range manyPaged() {
		lines := impl.DskPages(p.table, p.width, p.high)
		if len(lines) != len(p.all) || !slices.Equal(lines, plainlyPageLines(p.all)) {
			t.Fatalf("%v, width %d, heights %v: %q, but the pages are %v", p.table, p.width, p.high, lines, p.all)
		}
		if len(lines) > 9 {
			more++
		}
		if len(p.body[0]) == 0 {
			bare++
		}
	}
	if more < 100 || bare < 50 {
		t.Errorf("only %d tables were on more than nine pages, and %d on one with nothing of the body", more, bare)
	}
}

func TestPromise78WrittenOut(t *testing.T) {
	cases := []struct {
		head, foot int
		rows       []impl.TblRow
		high       []int
		want       []string
	}{
		{0, 0, []impl.TblRow{lined(2), lined(3)}, []int{5}, []string{"page 1 high 5 row 0 0..2 row 1 0..3"}},
		{0, 0, []impl.TblRow{lined(3)}, []int{2}, []string{"page 1 high 2 row 0 0..2", "page 2 high 1 row 0 2..3"}},
		{0, 0, []impl.TblRow{whole(3)}, []int{2}, []string{"page 1 high 3 row 0 0..3"}},
		{0, 0, []impl.TblRow{{}}, []int{0}, []string{"page 1 high 0 row 0 0..0"}},
		{0, 0, []impl.TblRow{lined(1), lined(4)}, []int{3, 1}, []string{"page 1 high 3 row 0 0..1 row 1 0..2", "page 2 high 1 row 1 2..3", "page 3 high 1 row 1 3..4"}},
		{1, 1, []impl.TblRow{lined(2), lined(3), lined(1)}, []int{5}, []string{"page 1 high 5 row 0 0..2 row 1 0..2 row 2 0..1", "page 2 high 4 row 0 0..2 row 1 2..3 row 2 0..1"}},
		// Nothing of the body is there.
		{1, 1, []impl.TblRow{lined(4), lined(2)}, []int{6}, []string{"page 1 high 6 row 0 0..4 row 1 0..2"}},
		{2, 0, []impl.TblRow{lined(4), lined(2)}, []int{0, 7}, []string{"page 1 high 6 row 0 0..4 row 1 0..2"}},
		{0, 1, []impl.TblRow{{}}, []int{0}, []string{"page 1 high 0 row 0 0..0"}},
	}
	for _, c := range cases {
		x := impl.TblTable{Head: c.head, Foot: c.foot, Rows: c.rows}
		if got := impl.DskPages(x, 0, c.high); !slices.Equal(got, c.want) {
			t.Errorf("%v, heights %v: %q, not %q", x, c.high, got, c.want)
		}
	}
}

func TestPromise78TheExample(t *testing.T) {
	cases := []struct {
		high []int
		want []string
	}{
		{[]int{3}, []string{"page 1 high 3 row 0 0..1 row 1 0..1 row 2 0..1"}},
		{[]int{0}, []string{"page 1 high 3 row 0 0..1 row 1 0..1 row 2 0..1"}},
		{[]int{100}, []string{"page 1 high 3 row 0 0..1 row 1 0..1 row 2 0..1"}},
	}
	for _, c := range cases {
		if got := impl.DskPages(exampleTable(), 40, c.high); !slices.Equal(got, c.want) {
			t.Errorf("heights %v: %q", c.high, got)
		}
	}
}

func TestPagesThatMayNotBeTold(t *testing.T) {
	check := func(x impl.TblTable, width int, high []int) {
		t.Helper()
		if got := impl.DskPages(x, width, high); len(got) != 0 {
			t.Errorf("%v, width %d, heights %v: %q", x, width, high, got)
		}
	}
	for _, x := range []impl.TblTable{exampleTable(), plainTable(1, 0, 0), {Rows: make([]impl.TblRow, 8), Head: 8}} {
		for _, width := range []int{math.MinInt, -1, impl.WidMax + 1, math.MaxInt} {
			check(x, width, []int{5})
		}
		for _, high := range [][]int{nil, {}, make([]int, impl.PagMax+1), {-1}, {5, impl.PagMaxHigh + 1}, {math.MinInt, 5}, {5, math.MaxInt, 5}} {
			check(x, 20, high)
		}
		for _, width := range []int{0, impl.WidMax} {
			for _, high := range [][]int{{0}, {impl.PagMaxHigh}, make([]int, impl.PagMax)} {
				if got := impl.DskPages(x, width, high); len(got) == 0 {
					t.Errorf("%v, width %d, heights %v: no pages are told", x, width, high)
				}
			}
		}
	}
	for _, x := range wronglyBordered() {
		check(x, 20, []int{5})
		check(x, -1, nil)
	}
}

// plainlyRun tells how a table that is ok looks, by the document's words.
func plainlyRun(x impl.TblTable, width int) []string {
	cols := plainlyCols(x, width)
	wide := fmt.Sprintf("wide %d", together(cols)+x.Gap*(len(cols)-1))
	columns := "columns " + strings.Trim(fmt.Sprint(cols), "[]")
	return append([]string{wide, columns}, plainlyPicture(x, width)...)
}

func TestPromise79TwoLinesAndThePicture(t *testing.T) {
	bare, high := 0, 0
	for k, x := range append(printedTables()[:450], highTables()[200:]...) {
		lines := plainlyPrint(x)
		for _, width := range []int{0, 40, impl.WidMax, (k * 37) % (impl.WidMax + 1)} {
			got, picture := impl.DskRun(lines, width), impl.QryPicture(x, width)
			if len(got) != 2+len(picture) || !slices.Equal(got[2:], picture) {
				t.Fatalf("%q, width %d: %q, but it looks like %q", lines, width, got, picture)
			}
			if want := plainlyRun(x, width); !slices.Equal(got, want) {
				t.Fatalf("%q, width %d: %q, not %q", lines, width, got, want)
			}
			if len(picture) == 0 {
				bare++
			}
			if len(picture) > 9 {
				high++
			}
		}
	}
	if bare < 20 || high < 100 {
		t.Errorf("only %d pictures had no lines, and %d more than nine", bare, high)
	}
}

func TestPromise79TheExample(t *testing.T) {
	want := []string{
		"wide 40", "columns 17 12 7",
		"the meadow         lighthouse over      ",
		"a an the over      a an          under  ",
		"under              the lighthouse       ",
	}
	if got := impl.DskRun(exampleLines(), 40); !slices.Equal(got, want) {
		t.Errorf("it is told %q", got)
	}
}

func TestPromise79WrittenOut(t *testing.T) {
	cases := []struct {
		lines []string
		width int
		want  []string
	}{
		{startedWith("row"), 0, []string{"wide 0", "columns 0"}},
		{startedWith("row"), 300, []string{"wide 300", "columns 300"}},
		{startedWith("column fixed 3", "column fixed 0", "row"), 300, []string{"wide 3", "columns 3 0"}},
		{startedWith("row", "cell 1 1 00 00 00 00 "), 5, []string{"wide 5", "columns 5"}},
		{startedWith("row", "cell 1 1 00 00 00 00 a an"), 4, []string{"wide 4", "columns 4", "a an"}},
		{startedWith("row", "cell 1 1 00 00 00 00 a an"), 3, []string{"wide 3", "columns 3", "a  ", "an "}},
		{[]string{"head 0", "foot 0", "gap 3", "row", "cell 1 1 33 33 33 33 a", "cell 1 1 40 40 40 40 b"}, 0, []string{"wide 5", "columns 1 1", "a   b"}},
	}
	for _, c := range cases {
		if got := impl.DskRun(c.lines, c.width); !slices.Equal(got, c.want) {
			t.Errorf("%q, width %d: %q, not %q", c.lines, c.width, got, c.want)
		}
	}
}

func TestLinesThatMayNotBeRun(t *testing.T) {
	example := exampleLines()
	wrong := map[int][][]string{
		1:  {nil, {}, {"row"}, example[1:]},
		2:  {{"head 0"}, {"head 0", "foots 0", "gaps 0"}},
		5:  {startedWith("row", "column auto"), {"head 2", "foot 0", "gap 0", "row"}},
		15: {append(slices.Clone(example), "rows"), append(slices.Clone(example), "column auto", "row")},
		81: {make([]string, 81), startedWith(slices.Repeat([]string{"row"}, 77)...), startedWith(slices.Repeat([]string{"row"}, 500)...)},
	}
	for number, lists := range wrong {
		for _, lines := range lists {
			// A line that is wrong is told ahead of a width that may not be.
			for _, width := range []int{math.MinInt, -1, 0, 40, impl.WidMax, impl.WidMax + 1, math.MaxInt} {
				if got := impl.DskRun(lines, width); !sameList(got, fmt.Sprintf("line %d", number)) {
					t.Errorf("%q, width %d: %q, not line %d", lines, width, got, number)
				}
			}
		}
	}
	for _, lines := range [][]string{example, startedWith("row")} {
		for _, width := range []int{math.MinInt, -300, -1, impl.WidMax + 1, 1000, math.MaxInt} {
			if got := impl.DskRun(lines, width); !sameList(got, "width") {
				t.Errorf("%q, width %d: %q", lines, width, got)
			}
		}
	}
}

func TestRunsTellTheLineThatIsWrong(t *testing.T) {
	d := &dice{state: 79}
	told := 0
	for _, x := range printedTables()[:300] {
		own := impl.TblPrint(x)
		for range 5 {
			lines := turnedLines(d, own)
			read, wrong := plainlyParse(lines)
			want := []string{fmt.Sprintf("line %d", wrong)}
			if wrong == 0 {
				want = plainlyRun(read, 20)
			} else {
				told++
			}
			if got := impl.DskRun(lines, 20); !slices.Equal(got, want) {
				t.Fatalf("%q: %q, not %q", lines, got, want)
			}
		}
	}
	if told < 500 {
		t.Errorf("only %d lines were told", told)
	}
}

func TestRunsLeaveTheLines(t *testing.T) {
	for _, x := range printedTables()[:150] {
		lines := plainlyPrint(x)
		for _, given := range [][]string{lines, lines[:2]} {
			for _, width := range []int{-1, 25} {
				room := spaciousLines(given)
				first, second := impl.DskRun(room, width), impl.DskRun(room, width)
				before := slices.Clone(second)
				spoilLines(first)
				if !staysAsItIs(room, given) {
					t.Fatalf("%q became %q", given, room[:len(given)+2])
				}
				spoilLines(room)
				if !slices.Equal(second, before) || !slices.Equal(impl.DskRun(given, width), before) {
					t.Fatalf("%q, width %d: what was told became %q", given, width, second)
				}
			}
		}
	}
}

func TestPagesToldLeaveWhatIsGiven(t *testing.T) {
	for _, x := range highTables()[200:320] {
		s, before := spaciousOf(x), spaciousOf(x)
		room := []int{4, 0, 7, 55, 66}
		first, second := impl.DskPages(s.table, 10, room[:3]), impl.DskPages(s.table, 10, room[:3])
		spoilLines(first)
		if !reflect.DeepEqual(s, before) || !slices.Equal(room, []int{4, 0, 7, 55, 66}) {
			t.Fatalf("%v became %v, the heights %v", before, s, room)
		}
		want := plainlyPageLines(impl.PagAll(x, 10, []int{4, 0, 7}))
		spoilTable(s.table)
		spoil(room)
		if !slices.Equal(second, want) || !slices.Equal(impl.DskPages(x, 10, []int{4, 0, 7}), want) {
			t.Fatalf("%v: what was told became %q", x, second)
		}
	}
}
