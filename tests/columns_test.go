package tests

import (
	"math"
	"reflect"
	"slices"
	"strings"
	"testing"

	"loop.example/panework/impl"
)

// worded is a cell with a text, over so many columns.
func worded(text string, cols int) impl.TblCell {
	return impl.TblCell{Text: text, Cols: cols, Rows: 1}
}

// rowsOf are rows of cells.
func rowsOf(rows ...[]impl.TblCell) []impl.TblRow {
	var list []impl.TblRow
	for _, cells := range rows {
		list = append(list, impl.TblRow{Cells: cells})
	}
	return list
}

// exampleTable is the table of the document's example.
func exampleTable() impl.TblTable {
	tall := worded("a an the over under", 1)
	tall.Rows = 2
	x := impl.TblTable{
		Head: 1, Gap: 2, Cols: []impl.TblCol{{}, {Kind: impl.ColPart, N: 30}},
		Rows: rowsOf(
			[]impl.TblCell{worded("the meadow", 1), worded("lighthouse over", 2)},
			[]impl.TblCell{tall, worded("a an", 1), worded("under", 1)},
			[]impl.TblCell{worded("the lighthouse", 2)}),
	}
	first := x.Rows[0].Cells
	first[0].Right = impl.BrdLine{Style: impl.BrdThin, Width: 1}
	first[0].Bottom = impl.BrdLine{Style: impl.BrdThick, Width: 2}
	first[1].Left = impl.BrdLine{Style: impl.BrdTwin, Width: 1}
	x.Rows[2].Whole = true
	x.Rows[2].Cells[0].Top = impl.BrdLine{Style: impl.BrdHidden}
	return x
}

func rolledText(d *dice) string {
	longest := []int{2, 6, 12, impl.TxtMax}[d.roll(4)]
	var words []string
	for range d.roll(6) {
		words = append(words, strings.Repeat(string(rune('a'+d.roll(26))), 1+d.roll(longest)))
		if len(strings.Join(words, " ")) > impl.TxtMax {
			words = words[:len(words)-1]
		}
	}
	return strings.Join(words, " ")
}

func rolledSaid(d *dice) impl.TblCol {
	switch d.roll(3) {
	case 0:
		return impl.TblCol{Kind: impl.ColFixed, N: d.roll([]int{3, 20, impl.ColMaxFix + 1}[d.roll(3)])}
	case 1:
		return impl.TblCol{Kind: impl.ColPart, N: 1 + d.roll([]int{5, 30, 100}[d.roll(3)])}
	}
	return impl.TblCol{}
}

// filled is a table with texts in its cells, and with something said of columns.
func filled(d *dice, x impl.TblTable) impl.TblTable {
	x.Cols = slices.Clone(x.Cols)
	kinds := d.roll(6)
	for k := range x.Cols {
		said := rolledSaid(d)
		// Of some tables one kind alone is said.
		if kinds > 2 || said.Kind == kinds {
			x.Cols[k] = said
		}
	}
	x.Rows = slices.Clone(x.Rows)
	for row := range x.Rows {
		x.Rows[row].Cells = slices.Clone(x.Rows[row].Cells)
		for in := range x.Rows[row].Cells {
			x.Rows[row].Cells[in].Text = rolledText(d)
		}
	}
	return x
}

// onlyOf is a table of so many columns, of which one thing is said each.
func onlyOf(many int, said impl.TblCol, gap int) impl.TblTable {
	return impl.TblTable{Rows: plainRows(2, min(many, impl.TblMaxIn)), Cols: slices.Repeat([]impl.TblCol{said}, many), Gap: gap}
}

// filledTables are tables that are ok, with texts: those at edges, and many that are rolled.
func filledTables() []impl.TblTable {
	list := []impl.TblTable{
		exampleTable(),
		onlyOf(1, impl.TblCol{}, 0), onlyOf(8, impl.TblCol{}, 3),
		onlyOf(1, impl.TblCol{Kind: impl.ColFixed}, 2), onlyOf(3, impl.TblCol{Kind: impl.ColFixed, N: 60}, 0), onlyOf(8, impl.TblCol{Kind: impl.ColFixed, N: 60}, 3),
		onlyOf(1, impl.TblCol{Kind: impl.ColPart, N: 1}, 1), onlyOf(3, impl.TblCol{Kind: impl.ColPart, N: 33}, 1), onlyOf(8, impl.TblCol{Kind: impl.ColPart, N: 100}, 2),
	}
	d := &dice{state: 5}
	for _, x := range goodTables() {
		list = append(list, filled(d, x))
	}
	for range 3 {
		list = append(list, filled(d, wideTable()))
	}
	return append(list, wideTable())
}

func longestWord(text string) int {
	longest := 0
	for _, word := range strings.Split(text, " ") {
		longest = max(longest, len(word))
	}
	return longest
}

func wholeText(text string) int {
	return len(text)
}

// textAt is the text of a cell of a table's grid.
func textAt(x impl.TblTable, c impl.GrdCell) string {
	return x.Rows[c.Row].Cells[c.In].Text
}

// plainlySaid is the kind and the number of a column.
func plainlySaid(x impl.TblTable, col int) (int, int) {
	if col < len(x.Cols) {
		return x.Cols[col].Kind, x.Cols[col].N
	}
	return impl.ColAuto, 0
}

// plainlyWide makes columns wide enough, letter by letter as it is written in the document.
func plainlyWide(x impl.TblTable, need func(string) int) []int {
	g := impl.GrdOf(x)
	cols := make([]int, g.Cols)
	cells := slices.Clone(g.Cells)
	slices.SortStableFunc(cells, func(a impl.GrdCell, b impl.GrdCell) int { return a.Cols - b.Cols })
	for _, c := range cells {
		have := x.Gap * (c.Cols - 1)
		for col := c.Col; col < c.Col+c.Cols; col++ {
			have += cols[col]
		}
		if lacks := need(textAt(x, c)) - have; lacks > 0 {
			for k, more := range plainlyShared(lacks, slices.Clone(cols[c.Col:c.Col+c.Cols])) {
				cols[c.Col+k] += more
			}
		}
	}
	return cols
}

func plainlyLeast(x impl.TblTable) []int {
	cols := plainlyWide(x, longestWord)
	for col := range cols {
		if kind, n := plainlySaid(x, col); kind == impl.ColFixed && n > cols[col] {
			cols[col] = n
		}
	}
	return cols
}

func plainlyWish(x impl.TblTable) []int {
	cols := plainlyWide(x, wholeText)
	for col, least := range plainlyLeast(x) {
		cols[col] = max(cols[col], least)
	}
	return cols
}

func TestColumnsWrittenOut(t *testing.T) {
	auto, fixed, part := impl.TblCol{}, impl.TblCol{Kind: impl.ColFixed, N: 4}, impl.TblCol{Kind: impl.ColPart, N: 100}
	cases := []struct {
		name        string
		table       impl.TblTable
		least, wish []int
		floor       int
	}{
		{"the example", exampleTable(), []int{6, 2, 6}, []int{19, 6, 7}, 18},
		{"no cells", impl.TblTable{Rows: make([]impl.TblRow, 1), Gap: 3}, []int{0}, []int{0}, 0},
		{"no cells, columns", impl.TblTable{Rows: make([]impl.TblRow, 1), Gap: 3, Cols: []impl.TblCol{auto, fixed, part}}, []int{0, 4, 0}, []int{0, 4, 0}, 10},
		{"by what they have", impl.TblTable{Gap: 1, Rows: rowsOf(
			[]impl.TblCell{worded("over a", 1), worded("an", 1)}, []impl.TblCell{worded("lighthouse", 2)})}, []int{6, 3}, []int{7, 3}, 10},
		{"alike, if they have nothing", impl.TblTable{Rows: rowsOf([]impl.TblCell{worded("lighthouse", 3)})}, []int{4, 3, 3}, []int{4, 3, 3}, 10},
		{"nothing to who has nothing", impl.TblTable{Rows: rowsOf(
			[]impl.TblCell{worded("", 1), worded("a", 1)}, []impl.TblCell{worded("lighthouse", 2)})}, []int{0, 10}, []int{0, 10}, 10},
		{"gaps are enough", impl.TblTable{Gap: 3, Rows: rowsOf([]impl.TblCell{worded("abcdefghi", 4)})}, []int{0, 0, 0, 0}, []int{0, 0, 0, 0}, 9},
		{"gaps and one", impl.TblTable{Gap: 3, Rows: rowsOf([]impl.TblCell{worded("abcdefghij", 4)})}, []int{1, 0, 0, 0}, []int{1, 0, 0, 0}, 10},
		// The one cell over one column comes first, though it is the last one of the grid.
		{"few columns first", impl.TblTable{Rows: rowsOf(
			[]impl.TblCell{worded("abcdef", 3)}, []impl.TblCell{worded("abcd", 2)}, []impl.TblCell{worded("ab", 1)})}, []int{6, 0, 0}, []int{6, 0, 0}, 6},
		{"two ahead of three", impl.TblTable{Rows: rowsOf(
			[]impl.TblCell{worded("abcdef", 3)}, []impl.TblCell{worded("abcd", 2)})}, []int{3, 3, 0}, []int{3, 3, 0}, 6},
		{"in the order of the grid", impl.TblTable{Rows: rowsOf(
			[]impl.TblCell{worded("a", 1), worded("ab", 1), worded("a", 1)},
			[]impl.TblCell{worded("abcdef", 2)},
			[]impl.TblCell{worded("a", 1), worded("abcdefg", 2)})}, []int{2, 6, 1}, []int{2, 6, 1}, 9},
		// What is said of a column comes last: the words over both are there already.
		{"what is said comes last", impl.TblTable{Cols: []impl.TblCol{fixed}, Rows: rowsOf(
			[]impl.TblCell{worded("abcdef", 2)})}, []int{4, 3}, []int{4, 3}, 7},
		{"less is said", impl.TblTable{Cols: []impl.TblCol{{Kind: impl.ColFixed, N: 2}, {Kind: impl.ColFixed}}, Rows: rowsOf(
			[]impl.TblCell{worded("abcdef", 2)})}, []int{3, 3}, []int{3, 3}, 6},
		{"a part is not yet wide", impl.TblTable{Cols: []impl.TblCol{part, auto}, Rows: rowsOf(
			[]impl.TblCell{worded("of an", 1)})}, []int{2, 0}, []int{5, 0}, 2},
		// By words the first column is wider, by texts the second one: the wish of each is no less than its words.
		{"words ahead of texts", impl.TblTable{Rows: rowsOf(
			[]impl.TblCell{worded("abc", 1), worded("a b c d e f", 1)}, []impl.TblCell{worded("abcdefghijkl", 2)})}, []int{9, 3}, []int{9, 11}, 12},
	}
	for _, c := range cases {
		least, wish, floor := impl.ColLeast(c.table), impl.ColWish(c.table), impl.ColFloor(c.table)
		if !slices.Equal(least, c.least) || !slices.Equal(wish, c.wish) || floor != c.floor {
			t.Errorf("%s: %v, %v, %d; not %v, %v, %d", c.name, least, wish, floor, c.least, c.wish, c.floor)
		}
	}
}

func TestColumnsAreAsTheyAreWritten(t *testing.T) {
	for _, x := range filledTables() {
		if least := impl.ColLeast(x); !slices.Equal(least, plainlyLeast(x)) {
			t.Fatalf("%v: at least %v, not %v", x, least, plainlyLeast(x))
		}
		if wish := impl.ColWish(x); !slices.Equal(wish, plainlyWish(x)) {
			t.Fatalf("%v: would be %v, not %v", x, wish, plainlyWish(x))
		}
	}
}

// cellWide is how wide a cell is by columns, slot by slot.
func cellWide(x impl.TblTable, cols []int, c impl.GrdCell) int {
	wide := x.Gap * (c.Cols - 1)
	for k := range c.Cols {
		wide += cols[c.Col+k]
	}
	return wide
}

func TestPromise4NoCellIsCramped(t *testing.T) {
	for _, x := range filledTables() {
		least := impl.ColLeast(x)
		g := impl.GrdOf(x)
		if len(least) != g.Cols {
			t.Fatalf("%v: %d columns, but %v", x, g.Cols, least)
		}
		for _, c := range g.Cells {
			wide := cellWide(x, least, c)
			if impl.WidCell(least, x.Gap, c) != wide || wide < longestWord(textAt(x, c)) {
				t.Fatalf("%v: cell %v is %d wide, by %v", x, c, wide, least)
			}
		}
		for col, wide := range least {
			if kind, n := plainlySaid(x, col); wide < 0 || kind == impl.ColFixed && wide < n {
				t.Fatalf("%v: column %d is %d wide", x, col, wide)
			}
		}
	}
}

// narrowTables are tables whose cells go over one column each.
func narrowTables() []impl.TblTable {
	var list []impl.TblTable
	for _, x := range filledTables() {
		for row := range x.Rows {
			for in := range x.Rows[row].Cells {
				x.Rows[row].Cells[in].Cols = 1
			}
		}
		list = append(list, x)
	}
	return list
}

func TestPromise25CellsOverOneColumn(t *testing.T) {
	for _, x := range narrowTables() {
		g := impl.GrdOf(x)
		least, wish := make([]int, g.Cols), make([]int, g.Cols)
		for col := range least {
			if kind, n := plainlySaid(x, col); kind == impl.ColFixed {
				least[col] = n
			}
		}
		for _, c := range g.Cells {
			least[c.Col] = max(least[c.Col], longestWord(textAt(x, c)))
			wish[c.Col] = max(wish[c.Col], len(textAt(x, c)))
		}
		for col := range wish {
			wish[col] = max(wish[col], least[col])
		}
		if got := impl.ColLeast(x); !slices.Equal(got, least) {
			t.Fatalf("%v: at least %v, not %v", x, got, least)
		}
		if got := impl.ColWish(x); !slices.Equal(got, wish) {
			t.Fatalf("%v: would be %v, not %v", x, got, wish)
		}
	}
}

func TestPromise26WishesAreNoLess(t *testing.T) {
	for _, x := range filledTables() {
		least, wish := impl.ColLeast(x), impl.ColWish(x)
		if len(least) != len(wish) {
			t.Fatalf("%v: %v, but %v", x, least, wish)
		}
		for col := range wish {
			if wish[col] < least[col] {
				t.Fatalf("%v: column %d would be %d wide, at least %d", x, col, wish[col], least[col])
			}
		}
		for _, c := range impl.GrdOf(x).Cells {
			if wide := impl.WidCell(wish, x.Gap, c); wide < len(textAt(x, c)) {
				t.Fatalf("%v: cell %v would be %d wide, by %v", x, c, wide, wish)
			}
		}
	}
}

func TestPromise27FloorIsAllAtLeast(t *testing.T) {
	for _, x := range filledTables() {
		least := impl.ColLeast(x)
		want := together(least) + x.Gap*(len(least)-1)
		if impl.ColFloor(x) != want || impl.WidTable(x, 0) != want {
			t.Fatalf("%v: floor %d, by width 0 %d, but %v", x, impl.ColFloor(x), impl.WidTable(x, 0), least)
		}
	}
}

func TestPromise28WhatIsSaid(t *testing.T) {
	for _, x := range filledTables() {
		g := impl.GrdOf(x)
		all := true
		for col := range g.Cols {
			kind, n := plainlySaid(x, col)
			if said := impl.ColSaid(x, col); said.Kind != kind || said.N != n {
				t.Fatalf("%v: of column %d is said %v", x, col, said)
			}
			all = all && kind == impl.ColFixed
		}
		if impl.ColAllFixed(x) != all {
			t.Fatalf("%v: all fixed is %v", x, !all)
		}
		for _, col := range []int{math.MinInt, -1, len(x.Cols), g.Cols, g.Cols + 1, impl.TblMaxCol, math.MaxInt} {
			if said := impl.ColSaid(x, col); said != (impl.TblCol{}) {
				t.Fatalf("%v: of column %d is said %v", x, col, said)
			}
		}
	}
}

func TestPromise28AllFixedWrittenOut(t *testing.T) {
	fixed := impl.TblCol{Kind: impl.ColFixed, N: 5}
	wide := impl.TblTable{Rows: rowsOf([]impl.TblCell{worded("a", 2), worded("b", 1)})}
	for said := range 6 {
		wide.Cols = slices.Repeat([]impl.TblCol{fixed}, said)
		// A cell may lie in columns of which nothing is said.
		if impl.ColAllFixed(wide) != (said >= 3) {
			t.Errorf("%d of three columns are fixed: %v", said, said < 3)
		}
		for k := range said {
			for _, other := range []impl.TblCol{{}, {Kind: impl.ColPart, N: 5}} {
				wide.Cols[k] = other
				if impl.ColAllFixed(wide) {
					t.Errorf("column %d of %d is not fixed", k, said)
				}
			}
			wide.Cols[k] = fixed
		}
	}
}

// wronglySaid are tables that are not ok; of some that is for what is said of columns, or between them.
func wronglySaid() []impl.TblTable {
	five := impl.TblCol{Kind: impl.ColFixed, N: 5}
	return append(badTables(),
		onlyOf(2, five, impl.TblMaxGap+1), onlyOf(impl.TblMaxCol+1, five, 1),
		onlyOf(2, impl.TblCol{Kind: impl.ColFixed, N: impl.ColMaxFix + 1}, 1), onlyOf(2, impl.TblCol{Kind: impl.ColFixed, N: -1}, 1),
		onlyOf(2, impl.TblCol{Kind: impl.ColPart}, 1), onlyOf(2, impl.TblCol{Kind: impl.ColPart, N: 101}, 1),
		onlyOf(2, impl.TblCol{Kind: 3}, 1), onlyOf(2, impl.TblCol{N: 1}, 1))
}

func TestColumnsOfWhatIsNoTable(t *testing.T) {
	for _, x := range wronglySaid() {
		if len(impl.ColLeast(x)) != 0 || len(impl.ColWish(x)) != 0 || impl.ColFloor(x) != 0 || impl.ColAllFixed(x) {
			t.Errorf("%v: %v, %v, %d, %v", x, impl.ColLeast(x), impl.ColWish(x), impl.ColFloor(x), impl.ColAllFixed(x))
		}
		for _, col := range oddNumbers {
			if said := impl.ColSaid(x, col); said != (impl.TblCol{}) {
				t.Errorf("%v: of column %d is said %v", x, col, said)
			}
		}
	}
}

func TestColumnsLeaveTheTable(t *testing.T) {
	before := filledTables()[:60]
	for i, x := range filledTables()[:60] {
		lists := [][]int{impl.ColLeast(x), impl.ColWish(x), impl.WidCols(x, 0), impl.WidCols(x, 100)}
		impl.ColFloor(x)
		impl.ColAllFixed(x)
		for _, list := range lists {
			spoil(list)
		}
		if !reflect.DeepEqual(x, before[i]) {
			t.Fatalf("%v became %v", before[i], x)
		}
		if !slices.Equal(impl.ColLeast(x), plainlyLeast(x)) || !slices.Equal(impl.ColWish(x), plainlyWish(x)) {
			t.Fatalf("%v: its columns were kept", x)
		}
	}
}
