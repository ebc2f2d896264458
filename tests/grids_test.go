package tests

import (
	"math"
	"math/big"
	"reflect"
	"slices"
	"testing"

	"loop.example/panework/impl"
)

// dice rolls the same numbers at each run.
type dice struct{ state uint64 }

// roll is a number from 0 on, below n.
func (d *dice) roll(n int) int {
	d.state = d.state*6364136223846793005 + 1442695040888963407
	return int(d.state>>33) % n
}

// spans is a cell that goes over so many columns and rows.
func spans(cols int, rows int) impl.TblCell {
	return impl.TblCell{Cols: cols, Rows: rows}
}

// tableOf is a table of rows; two numbers are a cell's columns and rows.
func tableOf(head int, foot int, rows ...[]int) impl.TblTable {
	t := impl.TblTable{Head: head, Foot: foot}
	for _, list := range rows {
		row := impl.TblRow{}
		for pair := range slices.Chunk(list, 2) {
			row.Cells = append(row.Cells, spans(pair[0], pair[1]))
		}
		t.Rows = append(t.Rows, row)
	}
	return t
}

// wideTable is a table that needs more columns than a grid that is ok may have: what is free between cells is always too narrow.
func wideTable() impl.TblTable {
	return tableOf(0, 0,
		[]int{4, 3, 4, 4, 1, 3, 2, 2, 3, 4},
		[]int{3, 4, 4, 3, 3, 4, 4, 3, 3, 4},
		[]int{1, 4, 4, 2, 3, 4, 4, 3, 3, 4},
		[]int{3, 3, 4, 2, 3, 3, 4, 2, 3, 4},
		[]int{4, 4, 4, 4, 4, 4, 4, 4, 4, 4},
		[]int{4, 4, 4, 4, 4, 3, 4, 4, 4, 4},
		[]int{4, 3, 4, 2, 4, 2, 4, 2, 4, 4},
		[]int{4, 2, 4, 3, 4, 3, 4, 4, 4, 2},
	)
}

func rolledTable(d *dice) impl.TblTable {
	most := 1 + d.roll(impl.TblMaxSpn)
	t := impl.TblTable{Cols: make([]impl.TblCol, d.roll(impl.TblMaxCol+1)), Gap: d.roll(4)}
	for range 1 + d.roll(impl.TblMaxRow) {
		row := impl.TblRow{Whole: d.roll(2) == 0}
		for range d.roll(impl.TblMaxIn + 1) {
			row.Cells = append(row.Cells, spans(1+d.roll(most), 1+d.roll(most)))
		}
		t.Rows = append(t.Rows, row)
	}
	if d.roll(2) == 0 {
		t.Head = d.roll(len(t.Rows) + 1)
		t.Foot = d.roll(len(t.Rows) - t.Head + 1)
	}
	return t
}

// goodTables are tables that are ok: those at edges, and many that are rolled.
func goodTables() []impl.TblTable {
	tables := []impl.TblTable{
		{Rows: make([]impl.TblRow, 1)},
		{Rows: make([]impl.TblRow, impl.TblMaxRow), Cols: make([]impl.TblCol, impl.TblMaxCol)},
		{Rows: plainRows(impl.TblMaxRow, impl.TblMaxIn)},
		{Rows: plainRows(2, 3), Cols: make([]impl.TblCol, 2)},
		{Rows: plainRows(2, 3), Cols: make([]impl.TblCol, 3)},
		{Rows: plainRows(2, 3), Cols: make([]impl.TblCol, 4)},
		tableOf(0, 1, []int{1, 2, 2, 1}, []int{1, 3, 1, 1}, nil),
		tableOf(1, 0, []int{1, 1, 2, 1}, []int{1, 2, 1, 1, 1, 1}, []int{2, 1}),
		tableOf(1, 1, []int{1, 4, 4, 4}, []int{4, 4, 1, 4}, []int{2, 4}),
		tableOf(2, 2, []int{1, 2, 1, 1}, []int{3, 2}, []int{1, 4}, []int{1, 4}, []int{1, 4}, []int{1, 4}),
		tableOf(0, 0, []int{1, 2, 1, 1, 1, 2}, []int{2, 1, 1, 1}),
		tableOf(0, 0, []int{1, 1, 1, 2}, []int{2, 1, 1, 1, 2, 1}),
		tableOf(0, 0, nil, []int{4, 4}, nil, []int{1, 1}, nil),
		tableOf(3, 0, []int{1, 4}, nil, []int{1, 2}),
		tableOf(0, 3, []int{1, 4}, nil, []int{1, 2}),
		wideTable(),
	}
	d := &dice{state: 1}
	for range 1500 {
		tables = append(tables, rolledTable(d))
	}
	return tables
}

func badTables() []impl.TblTable {
	return []impl.TblTable{
		{}, {Head: 1}, {Cols: make([]impl.TblCol, 2)},
		plainTable(impl.TblMaxRow+1, 0, 0), plainTable(2, 3, 0), plainTable(2, 0, -1), plainTable(3, 2, 2),
		plainTable(2, math.MaxInt, math.MaxInt),
		{Rows: plainRows(1, impl.TblMaxIn+1)},
		{Rows: plainRows(2, 1), Gap: -1},
		{Rows: plainRows(2, 1), Cols: make([]impl.TblCol, impl.TblMaxCol+1)},
		{Rows: plainRows(2, 1), Cols: []impl.TblCol{{N: 1}}},
		tableOf(0, 0, []int{1, 1}, []int{1, 0}), tableOf(0, 0, []int{5, 1}), tableOf(0, 0, []int{1, 1, 1, 5}),
		tableOf(0, 0, []int{math.MaxInt, math.MaxInt}), tableOf(0, 0, []int{-1, 1}),
		{Rows: []impl.TblRow{{Cells: []impl.TblCell{{Text: "A", Cols: 1, Rows: 1}}}}},
	}
}

// goodGrids are the grids of tables, but for those too wide, and grids that are of no table: gaps, cells out of order, the greatest one.
func goodGrids() []impl.GrdGrid {
	most := impl.GrdMaxCol + impl.TblMaxSpn
	grids := []impl.GrdGrid{
		{Rows: 1, Cols: 1},
		{Rows: impl.TblMaxRow, Cols: most},
		{Rows: 1, Cols: 1, Cells: []impl.GrdCell{{Rows: 1, Cols: 1, In: 4}}},
		{Rows: impl.TblMaxRow, Cols: most, Cells: []impl.GrdCell{{Rows: impl.TblMaxRow, Cols: most}}},
		{Rows: impl.TblMaxRow, Cols: most, Cells: []impl.GrdCell{{Row: 7, Col: most - 1, Rows: 1, Cols: 1}, {Row: 0, Col: 0, Rows: 1, Cols: 1}}},
		{Rows: 8, Cols: most, Cells: []impl.GrdCell{{Row: 6, Col: 5, Rows: 2, Cols: most - 5}, {Row: 1, Col: 0, Rows: 7, Cols: 5}}},
		{Rows: 5, Cols: 6, Cells: []impl.GrdCell{{Row: 3, Col: 4, Rows: 2, Cols: 2}, {Row: 0, Col: 1, Rows: 3, Cols: 2}, {Row: 3, Col: 0, Rows: 1, Cols: 1}}},
		{Rows: 3, Cols: 3, Cells: []impl.GrdCell{{Row: 2, Col: 2, Rows: 1, Cols: 1, In: 3}, {Row: 2, Col: 0, Rows: 1, Cols: 1, In: 3}, {Row: 0, Col: 1, Rows: 2, Cols: 1}}},
		{Rows: 6, Cols: 2, Cells: []impl.GrdCell{{Row: 0, Col: 0, Rows: 3, Cols: 1}, {Row: 2, Col: 1, Rows: 3, Cols: 1}}},
	}
	for _, t := range goodTables() {
		if g := impl.GrdOf(t); g.Cols <= most {
			grids = append(grids, g)
		}
	}
	return grids
}

// badGrids are grids that are not ok, each for one reason.
func badGrids() []impl.GrdGrid {
	one := impl.GrdCell{Rows: 1, Cols: 1}
	grids := []impl.GrdGrid{
		{}, {Rows: 1}, {Cols: 1}, {Rows: -1, Cols: 1}, {Rows: 1, Cols: -1}, {Rows: math.MinInt, Cols: math.MinInt},
		{Rows: impl.TblMaxRow + 1, Cols: 1}, {Rows: 1, Cols: impl.GrdMaxCol + impl.TblMaxSpn + 1},
		{Rows: math.MaxInt, Cols: math.MaxInt}, {Rows: math.MaxInt, Cols: math.MaxInt, Cells: []impl.GrdCell{one}},
		{Rows: 2, Cols: 2, Cells: []impl.GrdCell{one, one}},
		{Rows: 3, Cols: 3, Cells: []impl.GrdCell{{Rows: 2, Cols: 2}, {Row: 1, Col: 1, Rows: 2, Cols: 2}}},
		{Rows: 3, Cols: 3, Cells: []impl.GrdCell{{Row: 1, Col: 1, Rows: 1, Cols: 1}, {Rows: 3, Cols: 3}}},
		{Rows: 3, Cols: 3, Cells: []impl.GrdCell{{Rows: 3, Cols: 1}, {Row: 2, Rows: 1, Cols: 3}}},
		impl.GrdOf(wideTable()),
	}
	cells := []impl.GrdCell{
		{}, {Rows: 1}, {Cols: 1}, {Rows: -1, Cols: 1}, {Rows: 1, Cols: -1},
		{Rows: 1, Cols: 1, In: -1}, {Rows: 1, Cols: 1, In: impl.TblMaxIn}, {Rows: 1, Cols: 1, In: math.MaxInt},
		{Row: -1, Rows: 1, Cols: 1}, {Row: -1, Rows: 2, Cols: 1}, {Col: -1, Rows: 1, Cols: 1}, {Col: -1, Rows: 1, Cols: 2},
		{Row: 3, Rows: 1, Cols: 1}, {Row: 2, Rows: 2, Cols: 1}, {Rows: 4, Cols: 1},
		{Col: 4, Rows: 1, Cols: 1}, {Col: 3, Rows: 1, Cols: 2}, {Rows: 1, Cols: 5},
		{Row: 1, Rows: math.MaxInt, Cols: 1}, {Col: 1, Rows: 1, Cols: math.MaxInt},
		{Row: math.MaxInt, Rows: 1, Cols: 1}, {Col: math.MaxInt, Rows: 1, Cols: 1},
		{Row: math.MaxInt, Rows: math.MaxInt, Cols: 1}, {Row: math.MinInt, Rows: math.MaxInt, Cols: 1},
		{Row: math.MinInt, Rows: math.MinInt, Cols: 1}, {Col: math.MinInt, Rows: 1, Cols: math.MinInt},
	}
	for _, c := range cells {
		grids = append(grids, impl.GrdGrid{Rows: 3, Cols: 4, Cells: []impl.GrdCell{c}})
		grids = append(grids, impl.GrdGrid{Rows: 3, Cols: 4, Cells: []impl.GrdCell{{Row: 1, Col: 1, Rows: 1, Cols: 1}, c}})
	}
	return grids
}

// manyCells is a grid with so many cells, in rows of eight.
func manyCells(n int) impl.GrdGrid {
	g := impl.GrdGrid{Rows: 8, Cols: 8}
	for i := range n {
		g.Cells = append(g.Cells, impl.GrdCell{Row: i / 8, Col: i % 8, Rows: 1, Cols: 1, In: i % 5})
	}
	return g
}

// hasSlot works in numbers without bounds.
func hasSlot(c impl.GrdCell, row int, col int) bool {
	along := func(first int, many int, place int) bool {
		from, to := big.NewInt(int64(first)), big.NewInt(int64(first))
		to.Add(to, big.NewInt(int64(many)))
		at := big.NewInt(int64(place))
		return from.Cmp(at) <= 0 && at.Cmp(to) < 0
	}
	return along(c.Row, c.Rows, row) && along(c.Col, c.Cols, col)
}

// board says of each slot of a grid which cells have it, painted cell by cell; every cell must be in it.
func board(t *testing.T, g impl.GrdGrid) [][][]int {
	t.Helper()
	slots := make([][][]int, g.Rows)
	for row := range slots {
		slots[row] = make([][]int, g.Cols)
	}
	for i, c := range g.Cells {
		for row := c.Row; row < c.Row+c.Rows; row++ {
			for col := c.Col; col < c.Col+c.Cols; col++ {
				if row < 0 || row >= g.Rows || col < 0 || col >= g.Cols {
					t.Fatalf("cell %d of %v goes over slot %d, %d", i, g, row, col)
				}
				slots[row][col] = append(slots[row][col], i)
			}
		}
	}
	return slots
}

// rowsInPart counts the rows from a row on that are in its part.
func rowsInPart(x impl.TblTable, row int) int {
	end := len(x.Rows)
	switch {
	case row < x.Head:
		end = x.Head
	case row < len(x.Rows)-x.Foot:
		end = len(x.Rows) - x.Foot
	}
	return end - row
}

func TestPromise1NoSlotIsOfTwoCells(t *testing.T) {
	for _, x := range goodTables() {
		g := impl.GrdOf(x)
		slots := board(t, g)
		for row := range slots {
			for col, cells := range slots[row] {
				want := -1
				if len(cells) > 0 {
					want = cells[0]
				}
				if len(cells) > 1 || impl.GrdAt(g, row, col) != want {
					t.Fatalf("%v: slot %d, %d is of %v, GrdAt %d", x, row, col, cells, impl.GrdAt(g, row, col))
				}
			}
		}
		for row := -1; row <= g.Rows; row++ {
			if impl.GrdAt(g, row, -1) != -1 || impl.GrdAt(g, row, g.Cols) != -1 {
				t.Fatalf("%v: row %d has a slot outside", x, row)
			}
		}
		for col := -1; col <= g.Cols; col++ {
			if impl.GrdAt(g, -1, col) != -1 || impl.GrdAt(g, g.Rows, col) != -1 {
				t.Fatalf("%v: column %d has a slot outside", x, col)
			}
		}
	}
}

func TestPromise1EachCellIsInTheGrid(t *testing.T) {
	for _, x := range goodTables() {
		g := impl.GrdOf(x)
		at, wide := 0, max(1, len(x.Cols))
		for row, r := range x.Rows {
			for in, cell := range r.Cells {
				if at >= len(g.Cells) {
					t.Fatalf("%v has no cell %d", x, at)
				}
				c := g.Cells[at]
				want := impl.GrdCell{Row: row, Col: c.Col, Rows: min(cell.Rows, rowsInPart(x, row)), Cols: cell.Cols, In: in}
				if c != want || c.Col < 0 {
					t.Fatalf("%v: cell %d is %v, not %v", x, at, c, want)
				}
				wide = max(wide, c.Col+c.Cols)
				at++
			}
		}
		if at != len(g.Cells) || g.Rows != len(x.Rows) || g.Cols != wide {
			t.Fatalf("%v: %d cells, %d columns, but %v", x, at, wide, g)
		}
	}
}

func TestPromise1PlacesWrittenOut(t *testing.T) {
	x := tableOf(1, 1, []int{1, 3, 2, 1}, []int{1, 2, 1, 1, 1, 1}, []int{2, 4}, []int{1, 4})
	want := impl.GrdGrid{Rows: 4, Cols: 3, Cells: []impl.GrdCell{
		{Row: 0, Col: 0, Rows: 1, Cols: 1, In: 0}, {Row: 0, Col: 1, Rows: 1, Cols: 2, In: 1},
		{Row: 1, Col: 0, Rows: 2, Cols: 1, In: 0}, {Row: 1, Col: 1, Rows: 1, Cols: 1, In: 1}, {Row: 1, Col: 2, Rows: 1, Cols: 1, In: 2},
		{Row: 2, Col: 1, Rows: 1, Cols: 2, In: 0},
		{Row: 3, Col: 0, Rows: 1, Cols: 1, In: 0},
	}}
	if g := impl.GrdOf(x); !reflect.DeepEqual(g, want) {
		t.Errorf("%v, not %v", g, want)
	}
	// What is said of columns turns how many there are only if that is more.
	for said, cols := range []int{3, 3, 3, 3, 4, 5, 6, 7, 8} {
		x.Cols = make([]impl.TblCol, said)
		if g := impl.GrdOf(x); g.Cols != cols || !reflect.DeepEqual(g.Cells, want.Cells) {
			t.Errorf("something is said of %d columns: %v", said, g)
		}
	}
}

func TestGridOfWhatIsNoTable(t *testing.T) {
	for _, x := range badTables() {
		if g := impl.GrdOf(x); g.Rows != 0 || g.Cols != 0 || len(g.Cells) != 0 {
			t.Errorf("%v has the grid %v", x, g)
		}
	}
}

func TestGridLeavesTheTable(t *testing.T) {
	for i, x := range goodTables() {
		before := goodTables()[i]
		g := impl.GrdOf(x)
		again := impl.GrdOf(x)
		for k := range g.Cells {
			g.Cells[k] = impl.GrdCell{}
		}
		if !reflect.DeepEqual(x, before) || !reflect.DeepEqual(again, impl.GrdOf(before)) {
			t.Fatalf("%v became %v", before, x)
		}
		if i > 40 {
			break
		}
	}
}

func TestPromise12NoneCouldStandFurtherAhead(t *testing.T) {
	for _, x := range goodTables() {
		g := impl.GrdOf(x)
		slots := board(t, g)
		for i, c := range g.Cells {
			if i > 0 && (g.Cells[i-1].Row > c.Row || g.Cells[i-1].Row == c.Row && g.Cells[i-1].In >= c.In) {
				t.Fatalf("%v: cell %d is out of order", x, i)
			}
			for col := range c.Col {
				if !heldAhead(slots, c, col, i) {
					t.Fatalf("%v: cell %d stands in column %d, but could in %d", x, i, c.Col, col)
				}
			}
		}
	}
}

// heldAhead says whether a cell ahead of the i-th has a slot that c would have in column col.
func heldAhead(slots [][][]int, c impl.GrdCell, col int, i int) bool {
	for row := c.Row; row < c.Row+c.Rows; row++ {
		for k := col; k < col+c.Cols; k++ {
			for _, other := range slots[row][k] {
				if other < i {
					return true
				}
			}
		}
	}
	return false
}

func TestGridsThatAreOk(t *testing.T) {
	for _, g := range goodGrids() {
		if !impl.GrdOk(g) {
			t.Fatalf("%v is not ok", g)
		}
	}
	for _, g := range badGrids() {
		if impl.GrdOk(g) {
			t.Errorf("%v is ok", g)
		}
	}
	for n := range 64 {
		if impl.GrdOk(manyCells(n)) != (n <= 40) {
			t.Errorf("%d cells: %v", n, impl.GrdOk(manyCells(n)))
		}
	}
	for n := -2; n <= 120; n++ {
		if impl.GrdOk(impl.GrdGrid{Rows: n, Cols: 1}) != (n >= 1 && n <= 8) || impl.GrdOk(impl.GrdGrid{Rows: 1, Cols: n}) != (n >= 1 && n <= 94) {
			t.Errorf("%d rows, or columns", n)
		}
		g := impl.GrdGrid{Rows: 1, Cols: 1, Cells: []impl.GrdCell{{Rows: 1, Cols: 1, In: n}}}
		if impl.GrdOk(g) != (n >= 0 && n <= 4) {
			t.Errorf("In %d: %v", n, impl.GrdOk(g))
		}
	}
}

func TestGridsOfTwoCells(t *testing.T) {
	for i := range 4 * 4 * 4 * 4 * 4 * 4 {
		a := impl.GrdCell{Row: 1, Col: 1, Rows: 1 + i%2, Cols: 1 + i/2%2}
		b := impl.GrdCell{Row: i / 4 % 4, Col: i / 16 % 4, Rows: i / 64 % 4, Cols: i / 256 % 4}
		g := impl.GrdGrid{Rows: 3 + i/1024%2, Cols: 3 + i/2048%2, Cells: []impl.GrdCell{a, b}}
		want := b.Rows > 0 && b.Cols > 0 && b.Row+b.Rows <= g.Rows && b.Col+b.Cols <= g.Cols
		for row := range g.Rows {
			for col := range g.Cols {
				want = want && !(hasSlot(a, row, col) && hasSlot(b, row, col))
			}
		}
		if impl.GrdOk(g) != want {
			t.Errorf("%v: %v", g, !want)
		}
		g.Cells[0], g.Cells[1] = b, a
		if impl.GrdOk(g) != want {
			t.Errorf("%v: %v", g, !want)
		}
	}
}

func TestCellAtASlotOfAnyGrid(t *testing.T) {
	numbers := []int{math.MinInt, math.MinInt + 1, -2, -1, 0, 1, 2, 3, math.MaxInt - 1, math.MaxInt}
	filler := impl.GrdCell{Row: -1, Col: -1, Rows: 2, Cols: 2}
	for _, first := range numbers {
		for _, many := range numbers {
			down := impl.GrdGrid{Cells: []impl.GrdCell{{Row: first, Rows: many, Cols: 2}, filler}}
			along := impl.GrdGrid{Cells: []impl.GrdCell{{Col: first, Cols: many, Rows: 2}, filler}}
			for _, place := range numbers {
				for _, g := range []impl.GrdGrid{down, along} {
					for other := -2; other <= 3; other++ {
						if got, want := impl.GrdAt(g, place, other), plainlyAt(g, place, other); got != want {
							t.Fatalf("%v: at %d, %d is %d, not %d", g, place, other, got, want)
						}
						if got, want := impl.GrdAt(g, other, place), plainlyAt(g, other, place); got != want {
							t.Fatalf("%v: at %d, %d is %d, not %d", g, other, place, got, want)
						}
					}
				}
			}
		}
	}
	if impl.GrdAt(impl.GrdGrid{Rows: 3, Cols: 3}, 1, 1) != -1 || impl.GrdAt(impl.GrdGrid{}, 0, 0) != -1 {
		t.Error("a grid without cells has one")
	}
}

func plainlyAt(g impl.GrdGrid, row int, col int) int {
	for i, c := range g.Cells {
		if hasSlot(c, row, col) {
			return i
		}
	}
	return -1
}

func TestPromise13EmptySlots(t *testing.T) {
	for _, g := range goodGrids() {
		empty := 0
		for row := range g.Rows {
			for col := range g.Cols {
				if impl.GrdAt(g, row, col) == -1 {
					empty++
				}
			}
		}
		if impl.GrdEmpty(g) != empty {
			t.Fatalf("%v: %d slots are empty, not %d", g, empty, impl.GrdEmpty(g))
		}
	}
	if n := impl.GrdEmpty(impl.GrdGrid{Rows: 8, Cols: 94}); n != 752 {
		t.Errorf("%d slots of the greatest grid are empty", n)
	}
	for _, g := range append(badGrids(), manyCells(41)) {
		if impl.GrdEmpty(g) != 0 {
			t.Errorf("%v: %d slots are empty", g, impl.GrdEmpty(g))
		}
	}
}

// cellsIn is the cells that have a slot in a strip, each once, by where they begin.
func cellsIn(g impl.GrdGrid, in func(impl.GrdCell) bool, by func(impl.GrdCell) int) []int {
	var list []int
	for i, c := range g.Cells {
		if in(c) {
			list = append(list, i)
		}
	}
	slices.SortFunc(list, func(a, b int) int { return by(g.Cells[a]) - by(g.Cells[b]) })
	return list
}

func TestPromise14CellsOfARowAndAColumn(t *testing.T) {
	for _, g := range goodGrids() {
		for row := -1; row <= g.Rows; row++ {
			want := cellsIn(g, func(c impl.GrdCell) bool { return c.Row <= row && row < c.Row+c.Rows }, func(c impl.GrdCell) int { return c.Col })
			if got := impl.GrdRow(g, row); !slices.Equal(got, want) {
				t.Fatalf("%v: row %d has %v, not %v", g, row, got, want)
			}
		}
		for col := -1; col <= g.Cols; col++ {
			want := cellsIn(g, func(c impl.GrdCell) bool { return c.Col <= col && col < c.Col+c.Cols }, func(c impl.GrdCell) int { return c.Row })
			if got := impl.GrdCol(g, col); !slices.Equal(got, want) {
				t.Fatalf("%v: column %d has %v, not %v", g, col, got, want)
			}
		}
		for _, far := range []int{math.MinInt, math.MaxInt} {
			if len(impl.GrdRow(g, far)) != 0 || len(impl.GrdCol(g, far)) != 0 {
				t.Fatalf("%v has something at %d", g, far)
			}
		}
	}
}

func TestPromise14RowsAndColumnsOfAnyGrid(t *testing.T) {
	cells := []impl.GrdCell{
		{Row: 2, Col: 3, Rows: 2, Cols: 1}, {Row: 0, Col: 0, Rows: 6, Cols: 6},
		{Row: 7, Col: 93, Rows: 1, Cols: 1}, {Row: 8, Col: 94, Rows: 1, Cols: 1}, {Row: 7, Col: 94, Rows: 2, Cols: 1}, {Row: 8, Col: 93, Rows: 1, Cols: 1},
		{Row: 40, Col: -3, Rows: 1, Cols: 5}, {Row: -3, Col: 200, Rows: 5, Cols: 1}, {Row: 50, Col: -9, Rows: 1, Cols: 9}, {Row: -9, Col: 50, Rows: 9, Cols: 1},
	}
	// However great a grid says it is, the same slots are looked at.
	for _, g := range []impl.GrdGrid{{Cells: cells}, {Rows: -1, Cols: 2, Cells: cells}, {Rows: math.MaxInt, Cols: math.MaxInt, Cells: cells}} {
		rows := map[int][]int{-10: nil, -1: {9}, 0: {1}, 1: {1}, 2: {1, 0, 1}, 3: {1, 0, 1}, 4: {1}, 6: nil, 7: {2}, 8: {5}, 40: {6}, 50: nil}
		for row, want := range rows {
			if got := impl.GrdRow(g, row); !slices.Equal(got, want) {
				t.Errorf("row %d has %v, not %v", row, got, want)
			}
		}
		cols := map[int][]int{-1: nil, 0: {1}, 2: {1}, 3: {1, 0, 1}, 4: {1}, 6: nil, 93: {2}, 94: {4}, 200: {7}, 50: nil}
		for col, want := range cols {
			if got := impl.GrdCol(g, col); !slices.Equal(got, want) {
				t.Errorf("column %d has %v, not %v", col, got, want)
			}
		}
	}
}

func TestPromise14AnyGridByItsSlots(t *testing.T) {
	for _, g := range badGrids() {
		for n := -2; n <= 100; n++ {
			if got, want := impl.GrdRow(g, n), plainlyMet(g, 94, n, 0, 0, 1); !slices.Equal(got, want) {
				t.Errorf("%v: row %d has %v, not %v", g, n, got, want)
			}
			if got, want := impl.GrdCol(g, n), plainlyMet(g, 8, 0, n, 1, 0); !slices.Equal(got, want) {
				t.Errorf("%v: column %d has %v, not %v", g, n, got, want)
			}
		}
	}
}

// plainlyMet is the cells met in so many steps from a slot on, without those of the slot ahead.
func plainlyMet(g impl.GrdGrid, steps int, row int, col int, down int, along int) []int {
	all := make([]int, steps)
	for i := range all {
		all[i] = impl.GrdAt(g, row+i*down, col+i*along)
	}
	return slices.DeleteFunc(slices.Compact(all), func(cell int) bool { return cell == -1 })
}

func TestPromise15CellsAreFound(t *testing.T) {
	for _, x := range goodTables() {
		g := impl.GrdOf(x)
		at := 0
		for row := -1; row <= len(x.Rows); row++ {
			for in := -1; in <= impl.TblMaxIn; in++ {
				want := -1
				if row >= 0 && row < len(x.Rows) && in >= 0 && in < len(x.Rows[row].Cells) {
					want = at
					at++
				}
				if got := impl.GrdFind(g, row, in); got != want {
					t.Fatalf("%v: cell %d of row %d is %d, not %d", x, in, row, got, want)
				}
			}
		}
	}
}

func TestPromise15FirstOfAnyGrid(t *testing.T) {
	for _, g := range append(goodGrids(), badGrids()...) {
		for i, c := range g.Cells {
			want := slices.IndexFunc(g.Cells, func(other impl.GrdCell) bool { return other.Row == c.Row && other.In == c.In })
			if got := impl.GrdFind(g, c.Row, c.In); got != want || got > i {
				t.Fatalf("%v: cell %d is found as %d, not %d", g, i, got, want)
			}
		}
		for _, far := range []int{math.MinInt + 1, -7, 1000, math.MaxInt - 1} {
			if impl.GrdFind(g, far, 0) != -1 || impl.GrdFind(g, 0, far) != -1 {
				t.Fatalf("%v has a cell at %d", g, far)
			}
		}
	}
}

func TestPromise16Blocks(t *testing.T) {
	for _, g := range goodGrids() {
		var want []int
		for row := range g.Rows {
			if !slices.ContainsFunc(g.Cells, func(c impl.GrdCell) bool { return c.Row < row && row <= c.Row+c.Rows-1 }) {
				want = append(want, row)
			}
		}
		got := impl.GrdBlocks(g)
		if !slices.Equal(got, want) || got[0] != 0 {
			t.Fatalf("%v has the blocks %v, not %v", g, got, want)
		}
	}
	for _, g := range append(badGrids(), manyCells(41)) {
		if list := impl.GrdBlocks(g); len(list) != 0 {
			t.Errorf("%v has the blocks %v", g, list)
		}
	}
}

func TestPromise16BlocksWrittenOut(t *testing.T) {
	tables := []impl.TblTable{
		tableOf(0, 0, []int{1, 1}, []int{1, 1}, []int{1, 1}),
		tableOf(0, 0, []int{1, 1}, []int{1, 2}, nil, []int{1, 1}),
		tableOf(0, 0, []int{1, 2}, []int{1, 2}, []int{1, 1}),
		tableOf(0, 0, []int{1, 4}, nil, nil, []int{1, 4}, nil),
		tableOf(1, 1, []int{1, 4}, []int{1, 4}, nil, []int{1, 4}),
		tableOf(0, 0, nil, nil),
	}
	blocks := [][]int{{0, 1, 2}, {0, 1, 3}, {0}, {0}, {0, 1, 3}, {0, 1}}
	for i, x := range tables {
		if got := impl.GrdBlocks(impl.GrdOf(x)); !slices.Equal(got, blocks[i]) {
			t.Errorf("%v has the blocks %v, not %v", x, got, blocks[i])
		}
	}
}

func TestPromise17CellsOverOneSlot(t *testing.T) {
	d := &dice{state: 17}
	for range 400 {
		x, longest := impl.TblTable{}, 1
		for range 1 + d.roll(impl.TblMaxRow) {
			row := plainRows(1, d.roll(impl.TblMaxIn+1))[0]
			longest = max(longest, len(row.Cells))
			x.Rows = append(x.Rows, row)
		}
		x.Head = d.roll(len(x.Rows) + 1)
		x.Foot = d.roll(len(x.Rows) - x.Head + 1)
		g := impl.GrdOf(x)
		if g.Cols != longest || len(g.Cells) != impl.TblCells(x) {
			t.Fatalf("%v: %d columns, not %d", x, g.Cols, longest)
		}
		for _, c := range g.Cells {
			if c.Col != c.In || c.Rows != 1 || c.Cols != 1 {
				t.Fatalf("%v: cell %d of row %d is %v", x, c.In, c.Row, c)
			}
		}
	}
	if g := impl.GrdOf(impl.TblTable{Rows: make([]impl.TblRow, 3)}); g.Rows != 3 || g.Cols != 1 || len(g.Cells) != 0 {
		t.Errorf("rows without cells have the grid %v", g)
	}
}

func TestPromise19AllCellsAreInTheGrid(t *testing.T) {
	for _, x := range goodTables() {
		count := 0
		for _, row := range x.Rows {
			count += len(row.Cells)
		}
		if impl.TblCells(x) != count || len(impl.GrdOf(x).Cells) != count {
			t.Fatalf("%v: %d cells, %d counted, %d in the grid", x, count, impl.TblCells(x), len(impl.GrdOf(x).Cells))
		}
	}
	for _, x := range badTables() {
		if len(impl.GrdOf(x).Cells) != 0 {
			t.Errorf("%v has cells in its grid", x)
		}
	}
}

func TestGridOfTheDocument(t *testing.T) {
	x := tableOf(1, 0, []int{1, 1, 2, 1}, []int{1, 2, 1, 1, 1, 1}, []int{2, 1})
	g := impl.GrdOf(x)
	for row, want := range []string{"abb", "cde", "cff"} {
		for col := range want {
			if got := impl.GrdAt(g, row, col); got != int(want[col]-'a') {
				t.Errorf("slot %d, %d is of %d", row, col, got)
			}
		}
	}
	if g := impl.GrdOf(wideTable()); g.Cols != 107 || impl.GrdOk(g) {
		t.Errorf("the wide table has %d columns", g.Cols)
	}
}
