package tests

import (
	"math"
	"slices"
	"testing"

	"loop.example/panework/impl"
)

// tableWidths are widths at which a table is looked at: all edges, and those about its floor.
func tableWidths(x impl.TblTable) []int {
	list := []int{0, 1, 7, 40, 99, 100, 101, 250, impl.WidMax - 1, impl.WidMax}
	floor, wish := impl.ColFloor(x), impl.ColWish(x)
	for _, w := range []int{floor - 1, floor, floor + 1, floor + 2, floor + 13, together(wish) + x.Gap*(len(wish)-1)} {
		if w >= 0 && w <= impl.WidMax {
			list = append(list, w)
		}
	}
	return list
}

// plainlyUpTo is what each gets, no more than it wants, and what is left.
func plainlyUpTo(total int, wants []int) ([]int, int) {
	if total >= together(wants) {
		return wants, total - together(wants)
	}
	return plainlyShared(total, wants), 0
}

func added(a []int, b []int) []int {
	sums := slices.Clone(a)
	for k := range b {
		sums[k] += b[k]
	}
	return sums
}

// onesOf has a 1 for each column of a kind, a 0 for each other one.
func onesOf(x impl.TblTable, many int, kind int) []int {
	ones := make([]int, many)
	for col := range ones {
		if k, _ := plainlySaid(x, col); k == kind {
			ones[col] = 1
		}
	}
	return ones
}

// plainlyCols are columns, share behind share, with a weight for each column.
func plainlyCols(x impl.TblTable, width int) []int {
	cols := plainlyLeast(x)
	left := width - together(cols) - x.Gap*(len(cols)-1)
	if left <= 0 {
		return cols
	}
	autos, parts := onesOf(x, len(cols), impl.ColAuto), onesOf(x, len(cols), impl.ColPart)
	wants := make([]int, len(cols))
	for col := range wants {
		if _, n := plainlySaid(x, col); parts[col] == 1 {
			wants[col] = max(0, width*n/100-cols[col])
		}
	}
	gets, left := plainlyUpTo(left, wants)
	cols = added(cols, gets)
	wish := plainlyWish(x)
	for col := range wants {
		wants[col] = autos[col] * (wish[col] - cols[col])
	}
	gets, left = plainlyUpTo(left, wants)
	cols = added(cols, gets)
	switch {
	case together(autos) > 0:
		return added(cols, plainlyShared(left, autos))
	case together(parts) > 0:
		return added(cols, plainlyShared(left, parts))
	}
	return cols
}

func TestWidthsWrittenOut(t *testing.T) {
	auto := impl.TblCol{}
	fixed := func(n int) impl.TblCol { return impl.TblCol{Kind: impl.ColFixed, N: n} }
	part := func(n int) impl.TblCol { return impl.TblCol{Kind: impl.ColPart, N: n} }
	row := rowsOf([]impl.TblCell{worded("ab cd", 1), worded("abcd efg", 1), worded("a b c", 1)})
	cases := []struct {
		said  []impl.TblCol
		gap   int
		width int
		want  []int
	}{
		// At least 2, 4, 1; they would be 5, 8, 5.
		{nil, 0, 0, []int{2, 4, 1}}, {nil, 0, 7, []int{2, 4, 1}}, {nil, 1, 9, []int{2, 4, 1}}, {nil, 1, 8, []int{2, 4, 1}},
		{nil, 0, 8, []int{2, 5, 1}}, {nil, 1, 11, []int{2, 5, 2}}, {nil, 0, 10, []int{3, 5, 2}}, {nil, 0, 18, []int{5, 8, 5}},
		{nil, 0, 19, []int{6, 8, 5}}, {nil, 3, 26, []int{6, 9, 5}}, {nil, 0, 300, []int{99, 102, 99}},
		// Parts come ahead of wishes, and are of all of the width.
		{[]impl.TblCol{part(50)}, 0, 8, []int{3, 4, 1}}, {[]impl.TblCol{part(50)}, 0, 10, []int{5, 4, 1}},
		{[]impl.TblCol{part(50)}, 1, 19, []int{9, 6, 2}}, {[]impl.TblCol{part(50)}, 0, 40, []int{20, 12, 8}},
		{[]impl.TblCol{part(1)}, 0, 99, []int{2, 50, 47}}, {[]impl.TblCol{part(3)}, 0, 100, []int{3, 50, 47}}, {[]impl.TblCol{part(3)}, 0, 99, []int{2, 50, 47}},
		// Two parts lack 98 and 46; then there is none for wishes.
		{[]impl.TblCol{part(100), part(50)}, 0, 100, []int{65, 34, 1}},
		{[]impl.TblCol{auto, part(10), part(10)}, 0, 60, []int{48, 6, 6}},
		// Of columns with a width of their own nobody gets more.
		{[]impl.TblCol{fixed(1), fixed(9)}, 0, 14, []int{2, 9, 3}}, {[]impl.TblCol{fixed(1), fixed(9)}, 0, 50, []int{2, 9, 39}},
		{[]impl.TblCol{fixed(0), fixed(0), fixed(60)}, 2, 300, []int{2, 4, 60}},
		// Without others what is left goes to parts, alike.
		{[]impl.TblCol{fixed(3), part(10), part(20)}, 0, 100, []int{3, 44, 53}}, {[]impl.TblCol{part(1), part(1), part(1)}, 0, 30, []int{10, 12, 8}},
		{[]impl.TblCol{part(10), fixed(5), part(20)}, 0, 20, []int{7, 5, 8}},
		{[]impl.TblCol{fixed(3), part(10), fixed(7)}, 1, 100, []int{3, 88, 7}},
		// A column behind those with cells, of which nothing but that is said, gets its part of the rest.
		{[]impl.TblCol{auto, auto, auto, auto}, 0, 38, []int{10, 13, 10, 5}},
	}
	for _, c := range cases {
		x := impl.TblTable{Cols: c.said, Gap: c.gap, Rows: row}
		if got := impl.WidCols(x, c.width); !slices.Equal(got, c.want) {
			t.Errorf("%v, gap %d, width %d: %v, not %v", c.said, c.gap, c.width, got, c.want)
		}
	}
	if got := impl.WidCols(exampleTable(), 40); !slices.Equal(got, []int{17, 12, 7}) {
		t.Errorf("the example: %v", got)
	}
}

func TestWidthsAreAsTheyAreWritten(t *testing.T) {
	for i, x := range filledTables() {
		for k, width := range tableWidths(x) {
			// Every table is looked at by some of the widths, and the first ones by all.
			if i > 40 && (i+k)%4 != 0 {
				continue
			}
			if got, want := impl.WidCols(x, width), plainlyCols(x, width); !slices.Equal(got, want) {
				t.Fatalf("%v, width %d: %v, not %v", x, width, got, want)
			}
		}
	}
}

func TestPromise2AllOfTheWidthIsUsed(t *testing.T) {
	for _, x := range filledTables() {
		floor, all := impl.ColFloor(x), impl.ColAllFixed(x)
		for _, width := range tableWidths(x) {
			want := width
			if all || width < floor {
				want = floor
			}
			cols := impl.WidCols(x, width)
			if got := impl.WidTable(x, width); got != want || got != together(cols)+x.Gap*(len(cols)-1) {
				t.Fatalf("%v, width %d: %d is used, by %v", x, width, got, cols)
			}
		}
	}
}

func TestPromise3NoColumnIsLessWideThanItMustBe(t *testing.T) {
	for _, x := range filledTables() {
		least, cells := impl.ColLeast(x), impl.GrdOf(x).Cells
		for _, width := range tableWidths(x) {
			cols := impl.WidCols(x, width)
			if len(cols) != len(least) {
				t.Fatalf("%v, width %d: %v, but at least %v", x, width, cols, least)
			}
			for col, wide := range cols {
				kind, _ := plainlySaid(x, col)
				if wide < least[col] || kind == impl.ColFixed && wide != least[col] {
					t.Fatalf("%v, width %d: column %d is %d wide, at least %d", x, width, col, wide, least[col])
				}
			}
			for _, c := range cells {
				wide := impl.WidCell(cols, x.Gap, c)
				if wide != cellWide(x, cols, c) || wide < longestWord(textAt(x, c)) {
					t.Fatalf("%v, width %d: cell %v is %d wide, by %v", x, width, c, wide, cols)
				}
			}
		}
	}
}

func TestPromise31PartsAreGiven(t *testing.T) {
	met := 0
	for _, x := range filledTables() {
		least, floor := impl.ColLeast(x), impl.ColFloor(x)
		for _, width := range tableWidths(x) {
			lack := 0
			for col := range least {
				if kind, n := plainlySaid(x, col); kind == impl.ColPart {
					lack += max(0, width*n/100-least[col])
				}
			}
			if lack == 0 || lack > width-floor {
				continue
			}
			met++
			for col, wide := range impl.WidCols(x, width) {
				if kind, n := plainlySaid(x, col); kind == impl.ColPart && wide < width*n/100 {
					t.Fatalf("%v, width %d: column %d is %d wide", x, width, col, wide)
				}
			}
		}
	}
	if met < 1000 {
		t.Errorf("only %d tables had room for their parts", met)
	}
}

func TestPromise32OneMoreIsUsed(t *testing.T) {
	for i, x := range filledTables() {
		if i%12 != 0 && i > 24 {
			continue
		}
		floor, all := impl.ColFloor(x), impl.ColAllFixed(x)
		for width := range impl.WidMax {
			more := 1
			if all || width < floor {
				more = 0
			}
			if got := impl.WidTable(x, width+1) - impl.WidTable(x, width); got != more {
				t.Fatalf("%v: %d more by the width %d", x, got, width+1)
			}
		}
	}
}

func TestPromise35OneColumn(t *testing.T) {
	d := &dice{state: 6}
	for said := range 2 {
		for rows := range impl.TblMaxRow + 1 {
			x := filled(d, impl.TblTable{Rows: plainRows(max(1, rows), min(1, rows)), Gap: rows % 4})
			x.Cols = make([]impl.TblCol, said)
			for width := range impl.WidMax + 1 {
				if got := impl.WidCols(x, width); !slices.Equal(got, []int{max(width, impl.ColFloor(x))}) {
					t.Fatalf("%v, width %d: %v", x, width, got)
				}
			}
		}
	}
}

func TestWidthsThatMayNotBe(t *testing.T) {
	for _, x := range []impl.TblTable{exampleTable(), onlyOf(8, impl.TblCol{Kind: impl.ColFixed, N: 60}, 3), plainTable(1, 0, 0)} {
		for _, width := range []int{math.MinInt, -300, -1, impl.WidMax + 1, 301, math.MaxInt} {
			if impl.WidTable(x, width) != 0 || len(impl.WidCols(x, width)) != 0 {
				t.Errorf("%v: by %d it is %v", x, width, impl.WidCols(x, width))
			}
		}
	}
	for _, x := range wronglySaid() {
		for _, width := range []int{math.MinInt, -1, 0, 1, 50, impl.WidMax, impl.WidMax + 1, math.MaxInt} {
			if impl.WidTable(x, width) != 0 || len(impl.WidCols(x, width)) != 0 {
				t.Errorf("%v: by %d it is %v", x, width, impl.WidCols(x, width))
			}
		}
	}
}

// someColumns are any columns: none, plain ones, ones that no table has, and those at which sums turn round.
func someColumns() [][]int {
	list := [][]int{nil, {}, {0}, {5}, {3, 4}, {0, 0, 0}, {1, 2, 3, 4, 5}, {-3, 7, -9, 0}, {math.MaxInt, 1, math.MinInt, math.MaxInt}, make([]int, 200)}
	for _, x := range filledTables()[:20] {
		list = append(list, impl.WidCols(x, 80))
	}
	return list
}

var someGaps = []int{0, 1, 2, 3, 50, -1, -7, math.MaxInt, math.MinInt}

func TestPromise33WhereColumnsBeginAndEnd(t *testing.T) {
	for _, cols := range someColumns() {
		for _, gap := range someGaps {
			at := 0
			for col, wide := range cols {
				if got := impl.WidAt(cols, gap, col); got != at {
					t.Fatalf("%v, gap %d: column %d begins at %d, not %d", cols, gap, col, got, at)
				}
				if got := impl.WidEnd(cols, gap, col); got != at+wide {
					t.Fatalf("%v, gap %d: column %d ends at %d, not %d", cols, gap, col, got, at+wide)
				}
				at += wide + gap
			}
			// Behind the last column all are ahead; there is none that ends.
			for _, col := range []int{len(cols), len(cols) + 1, len(cols) + 300, math.MaxInt - 1, math.MaxInt} {
				if got := impl.WidAt(cols, gap, col); got != at || impl.WidEnd(cols, gap, col) != 0 {
					t.Fatalf("%v, gap %d: column %d begins at %d, not %d, and ends at %d", cols, gap, col, got, at, impl.WidEnd(cols, gap, col))
				}
			}
			for _, col := range []int{-1, -2, -300, math.MinInt, math.MinInt + 1} {
				if impl.WidAt(cols, gap, col) != 0 || impl.WidEnd(cols, gap, col) != 0 {
					t.Fatalf("%v, gap %d: column %d is there", cols, gap, col)
				}
			}
		}
	}
}

func TestPromise34CellsFromFirstToLastColumn(t *testing.T) {
	for _, cols := range someColumns() {
		for _, gap := range someGaps {
			for first := range min(len(cols), 12) {
				for last := first; last < min(len(cols), 12); last++ {
					c := impl.GrdCell{Row: 3, Rows: 2, Col: first, Cols: last - first + 1, In: 1}
					if got, want := impl.WidCell(cols, gap, c), impl.WidEnd(cols, gap, last)-impl.WidAt(cols, gap, first); got != want {
						t.Fatalf("%v, gap %d: cell %v is %d wide, not %d", cols, gap, c, got, want)
					}
				}
			}
		}
	}
	if got := impl.WidCell([]int{3, 4, 5}, 2, impl.GrdCell{Col: 1, Cols: 2}); got != 11 {
		t.Errorf("4 and 5, with 2 between, are %d", got)
	}
}

// plainlyCellWide asks each column whether the cell goes over it.
func plainlyCellWide(cols []int, gap int, c impl.GrdCell) int {
	c.Row, c.Rows = 0, 1
	wide, some := 0, false
	for col := range cols {
		if hasSlot(c, 0, col) {
			if some {
				wide += gap
			}
			wide, some = wide+cols[col], true
		}
	}
	return wide
}

func TestCellsAtAnyPlace(t *testing.T) {
	for _, cols := range someColumns()[:9] {
		for _, first := range oddNumbers {
			for _, many := range oddNumbers {
				for _, gap := range []int{0, 2, -7, math.MaxInt} {
					c := impl.GrdCell{Col: first, Cols: many}
					if got, want := impl.WidCell(cols, gap, c), plainlyCellWide(cols, gap, c); got != want {
						t.Fatalf("%v, gap %d: cell %v is %d wide, not %d", cols, gap, c, got, want)
					}
				}
			}
		}
	}
	for _, c := range []impl.GrdCell{{Cols: 0}, {Col: 2, Cols: 1}, {Col: 2, Cols: math.MaxInt}, {Col: -1, Cols: 1}, {Col: -9, Cols: 9}, {Cols: -1}, {Col: 1, Cols: math.MinInt}} {
		if got := impl.WidCell([]int{3, 4}, 2, c); got != 0 {
			t.Errorf("cell %v has no columns, but is %d wide", c, got)
		}
	}
	// Columns that there are not do not count, nor does what would stand beside them.
	for _, c := range []impl.GrdCell{{Col: 1, Cols: 2}, {Col: 1, Cols: 9}, {Col: 1, Cols: math.MaxInt}} {
		if got := impl.WidCell([]int{3, 4}, 2, c); got != 4 {
			t.Errorf("cell %v is %d wide", c, got)
		}
	}
	if got := impl.WidCell([]int{3, 4}, 2, impl.GrdCell{Col: -3, Cols: 4}); got != 3 {
		t.Errorf("a cell from column -3 on is %d wide", got)
	}
}

func TestPlacesLeaveTheColumns(t *testing.T) {
	room := []int{3, 4, 5, 6}
	cols := room[:2]
	for col := -1; col < 5; col++ {
		impl.WidAt(cols, 1, col)
		impl.WidEnd(cols, 1, col)
		impl.WidCell(cols, 1, impl.GrdCell{Col: col, Cols: 2})
	}
	if !slices.Equal(room, []int{3, 4, 5, 6}) {
		t.Errorf("the columns became %v", room)
	}
}
