package tests

import (
	"math"
	"reflect"
	"slices"
	"strings"
	"testing"

	"loop.example/panework/impl"
)

// tall is a cell over one column and so many rows, whose text has that many words; each is a line of its own, if there is no width beyond what the words need.
func tall(words int, rows int) impl.TblCell {
	return impl.TblCell{Text: strings.TrimSuffix(strings.Repeat("ab ", words), " "), Cols: 1, Rows: rows}
}

// plainlyBroken breaks a text into lines, word by word.
func plainlyBroken(text string, width int) []string {
	var lines []string
	for _, word := range strings.Fields(text) {
		last := len(lines) - 1
		if last >= 0 && len(lines[last]+" "+word) <= width {
			lines[last] += " " + word
		} else {
			lines = append(lines, word)
		}
	}
	return lines
}

// plainlyLines are the lines of all cells, by columns as the document words them.
func plainlyLines(x impl.TblTable, width int) [][]string {
	cols := plainlyCols(x, width)
	var lines [][]string
	for _, c := range impl.GrdOf(x).Cells {
		lines = append(lines, plainlyBroken(textAt(x, c), cellWide(x, cols, c)))
	}
	return lines
}

// plainlyHigh is how high rows are, from above, as the document words it.
func plainlyHigh(x impl.TblTable, lines [][]string) []int {
	rows := make([]int, len(x.Rows))
	for row := range rows {
		for i, c := range impl.GrdOf(x).Cells {
			if c.Row+c.Rows-1 == row {
				rows[row] = max(rows[row], len(lines[i])-together(rows[c.Row:row]))
			}
		}
	}
	return rows
}

func sameLines(a [][]string, b [][]string) bool {
	return slices.EqualFunc(a, b, slices.Equal[[]string])
}

// lookedAt are some widths of the k-th table: all of the first ones, some of the others.
func lookedAt(x impl.TblTable, k int) []int {
	if k <= 40 {
		return tableWidths(x)
	}
	var list []int
	for i, width := range tableWidths(x) {
		if (i+k)%4 == 0 {
			list = append(list, width)
		}
	}
	return append(list, min(impl.ColFloor(x), impl.WidMax))
}

func TestHeightsWrittenOut(t *testing.T) {
	none := []impl.TblCell{}
	cases := []struct {
		name       string
		head, foot int
		rows       []impl.TblRow
		want       []int
	}{
		{"one line", 0, 0, rowsOf([]impl.TblCell{tall(1, 1)}), []int{1}},
		{"no words", 0, 0, rowsOf([]impl.TblCell{tall(0, 1)}), []int{0}},
		{"no cells", 0, 0, rowsOf(none, none, none), []int{0, 0, 0}},
		{"the highest of a row", 0, 0, rowsOf([]impl.TblCell{tall(2, 1), tall(5, 1), tall(3, 1)}), []int{5}},
		{"rows on their own", 0, 0, rowsOf([]impl.TblCell{tall(2, 1)}, none, []impl.TblCell{tall(3, 1), tall(0, 1)}), []int{2, 0, 3}},
		{"the last row gets all", 0, 0, rowsOf([]impl.TblCell{tall(4, 3)}, none, none), []int{0, 0, 4}},
		{"the last row gets what is lacking", 0, 0, rowsOf([]impl.TblCell{tall(4, 2), tall(1, 1)}, none), []int{1, 3}},
		{"nothing is lacking", 0, 0, rowsOf([]impl.TblCell{tall(4, 2), tall(6, 1)}, []impl.TblCell{tall(0, 1)}), []int{6, 0}},
		{"just enough", 0, 0, rowsOf([]impl.TblCell{tall(4, 2), tall(4, 1)}, none), []int{4, 0}},
		{"its own cells need more", 0, 0, rowsOf([]impl.TblCell{tall(4, 2), tall(1, 1)}, []impl.TblCell{tall(7, 1)}), []int{1, 7}},
		{"its own cells need as much", 0, 0, rowsOf([]impl.TblCell{tall(4, 2), tall(1, 1)}, []impl.TblCell{tall(3, 1)}), []int{1, 3}},
		{"its own cells need less", 0, 0, rowsOf([]impl.TblCell{tall(6, 2), tall(1, 1)}, []impl.TblCell{tall(3, 1)}), []int{1, 5}},
		// The first one makes row 1 two lines high; so the second one lacks three of its five in row 2.
		{"one behind the other", 0, 0, rowsOf([]impl.TblCell{tall(4, 2), tall(2, 1)}, []impl.TblCell{tall(5, 2)}, none), []int{2, 2, 3}},
		{"a row between is high already", 0, 0, rowsOf([]impl.TblCell{tall(8, 3), tall(3, 2)}, none, none), []int{0, 3, 5}},
		{"two end in one row", 0, 0, rowsOf([]impl.TblCell{tall(8, 3), tall(1, 1)}, []impl.TblCell{tall(6, 2)}, none), []int{1, 0, 7}},
		{"the later one needs more", 0, 0, rowsOf([]impl.TblCell{tall(5, 3), tall(1, 1)}, []impl.TblCell{tall(6, 2)}, none), []int{1, 0, 6}},
		// No cell goes over more rows than its part has: so the last row is nearer.
		{"the table ends", 0, 0, rowsOf(none, []impl.TblCell{tall(3, 4)}), []int{0, 3}},
		{"the head ends", 1, 0, rowsOf([]impl.TblCell{tall(3, 2)}, none), []int{3, 0}},
		{"the body ends", 1, 1, rowsOf(none, []impl.TblCell{tall(3, 4)}, none, none), []int{0, 0, 3, 0}},
		{"the foot ends", 0, 2, rowsOf(none, []impl.TblCell{tall(3, 4)}, []impl.TblCell{tall(1, 1)}), []int{0, 0, 3}},
	}
	for _, c := range cases {
		x := impl.TblTable{Head: c.head, Foot: c.foot, Rows: c.rows}
		if got := impl.HgtRows(x, 0); !slices.Equal(got, c.want) {
			t.Errorf("%s: %v, not %v", c.name, got, c.want)
		}
	}
}

func TestHeightsOfTheExample(t *testing.T) {
	x := exampleTable()
	if got := impl.HgtRows(x, 40); !slices.Equal(got, []int{1, 1, 1}) {
		t.Errorf("the rows are %v", got)
	}
	want := [][]string{{"the meadow"}, {"lighthouse over"}, {"a an the over", "under"}, {"a an"}, {"under"}, {"the lighthouse"}}
	if got := impl.HgtLines(x, 40); !sameLines(got, want) {
		t.Errorf("the lines are %q", got)
	}
	// At least the columns are 6, 2 and 6 wide, with 2 between.
	if got := impl.HgtRows(x, 0); !slices.Equal(got, []int{2, 2, 2}) {
		t.Errorf("the rows are %v, if they must be narrow", got)
	}
	want = [][]string{{"the", "meadow"}, {"lighthouse", "over"}, {"a an", "the", "over", "under"}, {"a", "an"}, {"under"}, {"the", "lighthouse"}}
	if got := impl.HgtLines(x, 0); !sameLines(got, want) {
		t.Errorf("the lines are %q, if they must be narrow", got)
	}
}

func TestHeightsAreAsTheyAreWritten(t *testing.T) {
	for k, x := range filledTables() {
		for _, width := range lookedAt(x, k) {
			lines := plainlyLines(x, width)
			if got := impl.HgtLines(x, width); !sameLines(got, lines) {
				t.Fatalf("%v, width %d: %q, not %q", x, width, got, lines)
			}
			if got, want := impl.HgtRows(x, width), plainlyHigh(x, lines); !slices.Equal(got, want) {
				t.Fatalf("%v, width %d: %v, not %v", x, width, got, want)
			}
		}
	}
}

// isFilledBy says whether some cell that ends in a row has just as many lines as its rows are high.
func isFilledBy(rows []int, cells []impl.GrdCell, lines [][]string, row int) bool {
	for i, c := range cells {
		if c.Row+c.Rows-1 == row && len(lines[i]) == together(rows[c.Row:c.Row+c.Rows]) {
			return true
		}
	}
	return false
}

func TestPromise6NoLineIsLostInARow(t *testing.T) {
	over := 0
	for k, x := range filledTables() {
		cells := impl.GrdOf(x).Cells
		for _, width := range lookedAt(x, k) {
			rows, lines := impl.HgtRows(x, width), impl.HgtLines(x, width)
			if len(rows) != len(x.Rows) || len(lines) != len(cells) {
				t.Fatalf("%v, width %d: %v and %q", x, width, rows, lines)
			}
			for i, c := range cells {
				high := impl.HgtCell(rows, c)
				if high != together(rows[c.Row:c.Row+c.Rows]) || high < len(lines[i]) {
					t.Fatalf("%v, width %d: cell %v is %d high, by %v, but has %q", x, width, c, high, rows, lines[i])
				}
				if c.Rows > 1 && len(lines[i]) == high && rows[c.Row+c.Rows-1] > 0 {
					over++
				}
			}
			for row, high := range rows {
				if high < 0 || high > 0 && !isFilledBy(rows, cells, lines, row) {
					t.Fatalf("%v, width %d: row %d is %d high, but no cell needs it, by %v", x, width, row, high, rows)
				}
			}
		}
	}
	if over < 500 {
		t.Errorf("only %d cells over more than one row had lines for the last one", over)
	}
}

func TestPromise30WidthForAllWishes(t *testing.T) {
	met := 0
	for k, x := range filledTables() {
		// Where ColAuto is said of columns that is as good as nothing.
		x.Cols = make([]impl.TblCol, k%2*len(x.Cols))
		wish := impl.ColWish(x)
		enough := together(wish) + x.Gap*(len(wish)-1)
		for _, width := range []int{enough, enough + 1, enough + 17, impl.WidMax} {
			if width < enough || width > impl.WidMax {
				continue
			}
			met++
			for col, wide := range impl.WidCols(x, width) {
				if wide < wish[col] {
					t.Fatalf("%v, width %d: column %d is %d wide, not %d", x, width, col, wide, wish[col])
				}
			}
			lines := impl.HgtLines(x, width)
			for i, c := range impl.GrdOf(x).Cells {
				var want []string
				if text := textAt(x, c); text != "" {
					want = []string{text}
				}
				if !slices.Equal(lines[i], want) {
					t.Fatalf("%v, width %d: cell %v has the lines %q", x, width, c, lines[i])
				}
			}
		}
	}
	if met < 2000 {
		t.Errorf("only %d widths were enough", met)
	}
}

func TestPromise36LinesAreTheText(t *testing.T) {
	for k, x := range filledTables() {
		for _, width := range lookedAt(x, k) {
			cols := impl.WidCols(x, width)
			lines := impl.HgtLines(x, width)
			for i, c := range impl.GrdOf(x).Cells {
				if got := impl.TxtJoin(lines[i]); got != textAt(x, c) {
					t.Fatalf("%v, width %d: cell %v has the lines %q", x, width, c, lines[i])
				}
				for _, line := range lines[i] {
					if wide := impl.WidCell(cols, x.Gap, c); line == "" || len(line) > wide {
						t.Fatalf("%v, width %d: the line %q is in cell %v, %d wide", x, width, line, c, wide)
					}
				}
			}
		}
	}
}

// someHeights are any rows: none, plain ones, those of tables, ones that no table has, and those at which sums turn round.
func someHeights() [][]int {
	list := [][]int{nil, {}, {0}, {5}, {2, 3}, {0, 0, 0}, {1, 2, 3, 4, 5, 6, 7, 8, 9}, {-3, 7, -9, 0}, {math.MaxInt, 1, math.MinInt, math.MaxInt}, make([]int, 200)}
	for _, x := range filledTables()[:20] {
		list = append(list, impl.HgtRows(x, 10))
	}
	return list
}

func TestPromise37WhereRowsBegin(t *testing.T) {
	for _, rows := range someHeights() {
		at := 0
		for row, high := range rows {
			if got := impl.HgtAt(rows, row); got != at {
				t.Fatalf("%v: row %d begins at %d, not %d", rows, row, got, at)
			}
			at += high
		}
		// Behind the last row all are ahead; of a row that there is not none are.
		for _, row := range []int{len(rows), len(rows) + 1, len(rows) + 300, math.MaxInt - 1, math.MaxInt} {
			if got := impl.HgtAt(rows, row); got != at {
				t.Fatalf("%v: row %d begins at %d, not %d", rows, row, got, at)
			}
		}
		for _, row := range []int{-1, -2, -300, math.MinInt + 1, math.MinInt} {
			if got := impl.HgtAt(rows, row); got != 0 {
				t.Fatalf("%v: row %d begins at %d", rows, row, got)
			}
		}
	}
}

func TestPromise37CellsFromFirstToLastRow(t *testing.T) {
	for _, rows := range someHeights() {
		for first := range min(len(rows), 12) {
			for behind := first + 1; behind <= min(len(rows), 12); behind++ {
				c := impl.GrdCell{Row: first, Rows: behind - first, Col: 3, Cols: 2, In: 1}
				if got, want := impl.HgtCell(rows, c), impl.HgtAt(rows, behind)-impl.HgtAt(rows, first); got != want {
					t.Fatalf("%v: cell %v is %d high, not %d", rows, c, got, want)
				}
			}
		}
	}
	if got := impl.HgtCell([]int{3, 4, 5}, impl.GrdCell{Row: 1, Rows: 2}); got != 9 {
		t.Errorf("4 and 5 are %d", got)
	}
}

// plainlyCellHigh asks each row whether the cell goes over it.
func plainlyCellHigh(rows []int, c impl.GrdCell) int {
	c.Col, c.Cols = 0, 1
	high := 0
	for row := range rows {
		if hasSlot(c, row, 0) {
			high += rows[row]
		}
	}
	return high
}

func TestHeightsOfCellsAtAnyPlace(t *testing.T) {
	for _, rows := range someHeights()[:9] {
		for _, first := range oddNumbers {
			for _, many := range oddNumbers {
				c := impl.GrdCell{Row: first, Rows: many}
				if got, want := impl.HgtCell(rows, c), plainlyCellHigh(rows, c); got != want {
					t.Fatalf("%v: cell %v is %d high, not %d", rows, c, got, want)
				}
			}
		}
	}
	for _, c := range []impl.GrdCell{{}, {Cols: 2}, {Row: 2, Rows: 1}, {Row: 2, Rows: math.MaxInt}, {Row: -1, Rows: 1}, {Row: -9, Rows: 9}, {Rows: -1}, {Row: 1, Rows: math.MinInt}} {
		if got := impl.HgtCell([]int{3, 4}, c); got != 0 {
			t.Errorf("cell %v has no rows, but is %d high", c, got)
		}
	}
	for _, c := range []impl.GrdCell{{Row: 1, Rows: 1}, {Row: 1, Rows: 2}, {Row: 1, Rows: math.MaxInt}} {
		if got := impl.HgtCell([]int{3, 4}, c); got != 4 {
			t.Errorf("cell %v is %d high", c, got)
		}
	}
	if got := impl.HgtCell([]int{3, 4}, impl.GrdCell{Row: -3, Rows: 4}); got != 3 {
		t.Errorf("a cell from row -3 on is %d high", got)
	}
}

func TestHeightsThatMayNotBe(t *testing.T) {
	for _, x := range []impl.TblTable{exampleTable(), onlyOf(8, impl.TblCol{Kind: impl.ColFixed, N: 60}, 3), plainTable(1, 0, 0)} {
		for _, width := range []int{math.MinInt, -300, -1, impl.WidMax + 1, math.MaxInt} {
			if len(impl.HgtRows(x, width)) != 0 || len(impl.HgtLines(x, width)) != 0 {
				t.Errorf("%v: by %d it is %v, %q", x, width, impl.HgtRows(x, width), impl.HgtLines(x, width))
			}
		}
		for _, width := range []int{0, impl.WidMax} {
			if len(impl.HgtRows(x, width)) != len(x.Rows) || len(impl.HgtLines(x, width)) != impl.TblCells(x) {
				t.Errorf("%v: by %d it is %v, %q", x, width, impl.HgtRows(x, width), impl.HgtLines(x, width))
			}
		}
	}
	for _, x := range wronglySaid() {
		for _, width := range []int{math.MinInt, -1, 0, 1, 50, impl.WidMax, impl.WidMax + 1, math.MaxInt} {
			if len(impl.HgtRows(x, width)) != 0 || len(impl.HgtLines(x, width)) != 0 {
				t.Errorf("%v: by %d it is %v, %q", x, width, impl.HgtRows(x, width), impl.HgtLines(x, width))
			}
		}
	}
}

func TestHeightsLeaveTheTable(t *testing.T) {
	before := filledTables()[:60]
	for k, x := range filledTables()[:60] {
		lines := impl.HgtLines(x, 20)
		for i := range lines {
			// Whoever writes behind one cell's lines, or into them, touches no other ones.
			room := lines[i][:cap(lines[i])]
			for n := range room {
				room[n] = "spoilt"
			}
			for _, behind := range lines[i+1:] {
				if slices.Contains(behind, "spoilt") {
					t.Fatalf("%v: two cells' lines share memory", x)
				}
			}
		}
		spoil(impl.HgtRows(x, 20))
		if !reflect.DeepEqual(x, before[k]) {
			t.Fatalf("%v became %v", before[k], x)
		}
		if again := plainlyLines(x, 20); !sameLines(impl.HgtLines(x, 20), again) || !slices.Equal(impl.HgtRows(x, 20), plainlyHigh(x, again)) {
			t.Fatalf("%v: its lines or rows were kept", x)
		}
	}
}

func TestPlacesLeaveTheRows(t *testing.T) {
	room := []int{3, 4, 5, 6}
	rows := room[:2]
	for row := -1; row < 5; row++ {
		impl.HgtAt(rows, row)
		impl.HgtCell(rows, impl.GrdCell{Row: row, Rows: 2})
	}
	if !slices.Equal(room, []int{3, 4, 5, 6}) {
		t.Errorf("the rows became %v", room)
	}
}
