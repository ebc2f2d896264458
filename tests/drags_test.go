package tests

import (
	"math"
	"slices"
	"testing"

	"loop.example/panework/impl"
)

// somePulls are what a column that is so wide may be dragged by, at all edges: to just 0 and to just the widest, and one beyond.
func somePulls(wide int) []int {
	return []int{-61, -60, -59, -1, 0, 1, 59, 60, 61, -wide - 1, -wide, 1 - wide, 59 - wide, 60 - wide, 61 - wide}
}

// leastByTexts is what a column is at least by texts alone, whatever is said of it.
func leastByTexts(x impl.TblTable, col int) int {
	y := copied(x)
	y.Cols[col] = impl.TblCol{}
	return plainlyLeast(y)[col]
}

// checkDrag drags a column that is at least so wide by texts alone.
func checkDrag(t *testing.T, x impl.TblTable, width int, col int, by int, least int) {
	t.Helper()
	n := impl.WidCols(x, width)[col] + by
	y, ok := impl.EdtDrag(x, width, col, by)
	if !ok || y.Cols[col] != (impl.TblCol{Kind: impl.ColFixed, N: n}) || impl.ColSaid(y, col) != y.Cols[col] {
		t.Fatalf("%v, width %d: column %d by %d: %v, %v", x, width, col, by, y.Cols, ok)
	}
	for _, w := range []int{width, 0, impl.WidMax} {
		if got, want := impl.WidCols(y, w)[col], max(n, least); got != want || got != max(n, impl.ColLeast(y)[col]) {
			t.Fatalf("%v, width %d: column %d, dragged by %d, is %d wide, not %d", x, w, col, by, got, want)
		}
	}
	y.Cols[col] = x.Cols[col]
	if !sameTable(y, x) {
		t.Fatalf("%v, width %d: column %d by %d turned more: %v", x, width, col, by, y)
	}
}

func TestPromise61DraggedColumns(t *testing.T) {
	fitted, others, cramped := 0, 0, 0
	for k, x := range rolledEdited()[:180] {
		for col := range x.Cols {
			least := leastByTexts(x, col)
			for _, width := range []int{0, 40, impl.WidMax, (k * 17) % 301} {
				wide := impl.WidCols(x, width)[col]
				for _, by := range somePulls(wide) {
					n := wide + by
					if by >= -60 && by <= 60 && n >= 0 && n <= 60 {
						checkDrag(t, x, width, col, by, least)
						fitted++
						if n < least {
							cramped++
						}
						continue
					}
					others++
					if y, ok := impl.EdtDrag(x, width, col, by); ok || !sameTable(y, x) {
						t.Fatalf("%v, width %d: column %d, %d wide, by %d: %v, %v", x, width, col, wide, by, y.Cols, ok)
					}
				}
			}
		}
	}
	if fitted < 5000 || others < 5000 || cramped < 500 {
		t.Errorf("only %d drags fitted, %d did not, and %d met the longest word", fitted, others, cramped)
	}
}

func TestDragsWrittenOut(t *testing.T) {
	auto, fixed := impl.TblCol{}, func(n int) impl.TblCol { return impl.TblCol{Kind: impl.ColFixed, N: n} }
	bare := []impl.TblRow{{}}
	cases := []struct {
		name           string
		table          impl.TblTable
		width, col, by int
		want           []impl.TblCol
		fits           bool
	}{
		{"wider", onlyOf(1, auto, 0), 9, 0, 4, []impl.TblCol{fixed(13)}, true},
		{"narrower", onlyOf(1, auto, 0), 9, 0, -4, []impl.TblCol{fixed(5)}, true},
		{"as it is", onlyOf(1, auto, 0), 9, 0, 0, []impl.TblCol{fixed(9)}, true},
		{"to just 0", onlyOf(1, auto, 0), 9, 0, -9, []impl.TblCol{fixed(0)}, true},
		{"below 0", onlyOf(1, auto, 0), 9, 0, -10, []impl.TblCol{auto}, false},
		{"to just the widest", onlyOf(1, auto, 0), 9, 0, 51, []impl.TblCol{fixed(60)}, true},
		{"beyond the widest", onlyOf(1, auto, 0), 9, 0, 52, []impl.TblCol{auto}, false},
		{"by just the most", impl.TblTable{Rows: bare, Cols: []impl.TblCol{fixed(0), auto}}, 9, 0, 60, []impl.TblCol{fixed(60), auto}, true},
		{"by just the least", impl.TblTable{Rows: bare, Cols: []impl.TblCol{auto, fixed(60)}}, 0, 1, -60, []impl.TblCol{auto, fixed(0)}, true},
		{"by just the least, to just the widest", onlyOf(1, auto, 0), 120, 0, -60, []impl.TblCol{fixed(60)}, true},
		{"by just the least, not to the widest", onlyOf(1, auto, 0), 121, 0, -60, []impl.TblCol{auto}, false},
		{"by less than the least", onlyOf(1, auto, 0), 121, 0, -61, []impl.TblCol{auto}, false},
		{"by less than the least, to the middle", onlyOf(1, auto, 0), 100, 0, -70, []impl.TblCol{auto}, false},
		{"by the least number", onlyOf(1, auto, 0), 100, 0, math.MinInt, []impl.TblCol{auto}, false},
		{"by the greatest number", onlyOf(1, auto, 0), 100, 0, math.MaxInt, []impl.TblCol{auto}, false},
		{"a part", onlyOf(1, impl.TblCol{Kind: impl.ColPart, N: 100}, 0), 20, 0, 1, []impl.TblCol{fixed(21)}, true},
		{"wider than is said, for its word", onlyOf(1, fixed(1), 0), 20, 0, 1, []impl.TblCol{fixed(3)}, true},
		{"by a width of 0", onlyOf(2, auto, 1), 0, 1, 3, []impl.TblCol{auto, fixed(5)}, true},
		{"by the greatest width", onlyOf(5, auto, 0), 300, 4, 0, []impl.TblCol{auto, auto, auto, auto, fixed(60)}, true},
		{"the greatest width, beyond the widest", onlyOf(5, auto, 0), 300, 4, 1, slices.Repeat([]impl.TblCol{auto}, 5), false},
		{"a column of which nothing is said", impl.TblTable{Rows: plainRows(1, 2), Cols: []impl.TblCol{auto}}, 20, 1, 1, []impl.TblCol{auto}, false},
		{"no columns of which something is said", impl.TblTable{Rows: plainRows(1, 2)}, 20, 0, 1, nil, false},
		{"a column below 0", onlyOf(2, auto, 0), 20, -1, 1, []impl.TblCol{auto, auto}, false},
		{"a column behind all", onlyOf(2, auto, 0), 20, math.MaxInt, 1, []impl.TblCol{auto, auto}, false},
	}
	for _, c := range cases {
		want := c.table
		want.Cols = c.want
		if got, ok := impl.EdtDrag(c.table, c.width, c.col, c.by); ok != c.fits || !sameTable(got, want) {
			t.Errorf("%s: %v and %v, not %v and %v", c.name, got.Cols, ok, c.want, c.fits)
		}
	}
}

func TestDragsByWrongWidths(t *testing.T) {
	for _, x := range editedTables()[:40] {
		for _, width := range []int{math.MinInt, -300, -1, impl.WidMax + 1, math.MaxInt} {
			for col := -1; col <= len(x.Cols); col++ {
				for _, by := range []int{math.MinInt, -61, -1, 0, 1, 61} {
					if y, ok := impl.EdtDrag(x, width, col, by); ok || !sameTable(y, impl.TblTable{}) {
						t.Fatalf("%v, width %d: column %d by %d: %v, %v", x, width, col, by, y, ok)
					}
				}
			}
		}
	}
}

// A table with more columns than may be shared among has widths all the same: those of which something is said may be dragged.
func TestDragsOfTheWidestTable(t *testing.T) {
	x := wideTable()
	if y, ok := impl.EdtDrag(x, 300, 0, 1); ok || !sameTable(y, x) {
		t.Errorf("nothing is said of columns, but %v", y.Cols)
	}
	x.Cols = make([]impl.TblCol, impl.TblMaxCol)
	for col := range x.Cols {
		checkDrag(t, x, 300, col, 60-impl.WidCols(x, 300)[col], leastByTexts(x, col))
	}
}
