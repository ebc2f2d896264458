package tests

import (
	"math"
	"math/big"
	"reflect"
	"slices"
	"strings"
	"sync"
	"testing"

	"loop.example/panework/impl"
)

type rect = impl.QryRect

// placed is a table laid out: its grid, how wide and high it is, and where its cells are.
type placed struct {
	table   impl.TblTable
	width   int
	grid    impl.GrdGrid
	cols    []int
	heights []int
	rects   []rect
}

func placedOf(x impl.TblTable, width int) placed {
	return placed{x, width, impl.GrdOf(x), impl.WidCols(x, width), impl.HgtRows(x, width), impl.QryRects(x, width)}
}

func (p placed) wide() int { return together(p.cols) + p.table.Gap*(len(p.cols)-1) }

func (p placed) high() int { return together(p.heights) }

// bareTables are tables without lines, without width, or without cells.
func bareTables() []impl.TblTable {
	bare := impl.TblCell{Cols: 1, Rows: 1}
	return []impl.TblTable{
		{Rows: make([]impl.TblRow, 1)}, {Rows: make([]impl.TblRow, 8)}, {Rows: make([]impl.TblRow, 8), Cols: make([]impl.TblCol, 8), Gap: 3},
		{Rows: make([]impl.TblRow, 2), Cols: []impl.TblCol{{Kind: impl.ColFixed}, {Kind: impl.ColFixed}}},
		{Rows: rowsOf([]impl.TblCell{bare, bare}, []impl.TblCell{bare}), Cols: []impl.TblCol{{Kind: impl.ColFixed, N: 9}, {}}},
		{Rows: rowsOf([]impl.TblCell{spans(4, 4)}), Gap: 3},
		// Some columns, and some rows, have words; others do not.
		{Rows: rowsOf([]impl.TblCell{bare, tall(2, 1), bare}, []impl.TblCell{bare, bare}, []impl.TblCell{bare, bare, tall(3, 1)}), Gap: 1},
		{Rows: rowsOf([]impl.TblCell{bare, spans(2, 2)}, []impl.TblCell{bare}, []impl.TblCell{tall(1, 1)})},
	}
}

// manyPlaced are many tables by some widths each.
var manyPlaced = sync.OnceValue(func() []placed {
	var list []placed
	tables := slices.Concat(bareTables(), filledTables())
	for k, x := range tables {
		// Of the many that are rolled some are enough; those at edges are ahead of them, and the widest ones at the end.
		if k > 120 && k < len(tables)-4 && k%3 > 0 {
			continue
		}
		for _, width := range lookedAt(x, k) {
			list = append(list, placedOf(x, width))
		}
	}
	return list
})

// plainlyRects are the places of cells, column by column and row by row.
func plainlyRects(x impl.TblTable, width int) []rect {
	cols, rows := plainlyCols(x, width), plainlyHigh(x, plainlyLines(x, width))
	var list []rect
	for _, c := range impl.GrdOf(x).Cells {
		r := rect{Y: together(rows[:c.Row]), Wide: cellWide(x, cols, c), High: together(rows[c.Row : c.Row+c.Rows])}
		for _, wide := range cols[:c.Col] {
			r.X += wide + x.Gap
		}
		list = append(list, r)
	}
	return list
}

// plainlyPicture paints the lines of cells, letter by letter, into rows of blanks.
func plainlyPicture(x impl.TblTable, width int) []string {
	cols, lines := plainlyCols(x, width), plainlyLines(x, width)
	wide := together(cols) + x.Gap*(len(cols)-1)
	board := make([][]byte, together(plainlyHigh(x, lines)))
	for y := range board {
		board[y] = []byte(strings.Repeat(" ", wide))
	}
	for i, r := range plainlyRects(x, width) {
		for k, line := range lines[i] {
			for n := range line {
				board[r.Y+k][r.X+n] = line[n]
			}
		}
	}
	var picture []string
	for _, line := range board {
		picture = append(picture, string(line))
	}
	return picture
}

// quad is a place as a test writes it out: x, y, wide, high.
type quad = [4]int

func rectsOf(list []quad) []rect {
	var rects []rect
	for _, n := range list {
		rects = append(rects, rect{X: n[0], Y: n[1], Wide: n[2], High: n[3]})
	}
	return rects
}

func TestPlacesWrittenOut(t *testing.T) {
	fixed := func(n int) impl.TblCol { return impl.TblCol{Kind: impl.ColFixed, N: n} }
	cases := []struct {
		name    string
		table   impl.TblTable
		width   int
		rects   []quad
		picture []string
	}{
		{"one cell", impl.TblTable{Rows: rowsOf([]impl.TblCell{worded("a an", 1)})}, 6, []quad{{0, 0, 6, 1}}, []string{"a an  "}},
		{"one cell, as narrow as can be", impl.TblTable{Rows: rowsOf([]impl.TblCell{worded("a an", 1)})}, 0, []quad{{0, 0, 2, 2}}, []string{"a ", "an"}},
		{"side by side", impl.TblTable{Rows: rowsOf([]impl.TblCell{worded("ab", 1), worded("cde", 1)})}, 0, []quad{{0, 0, 2, 1}, {2, 0, 3, 1}}, []string{"abcde"}},
		{"with a gap", impl.TblTable{Gap: 3, Rows: rowsOf([]impl.TblCell{worded("ab", 1), worded("cde", 1)})}, 0, []quad{{0, 0, 2, 1}, {5, 0, 3, 1}}, []string{"ab   cde"}},
		{"below each other", impl.TblTable{Rows: rowsOf([]impl.TblCell{worded("ab c", 1)}, nil, []impl.TblCell{worded("d", 1)})}, 0, []quad{{0, 0, 2, 2}, {0, 2, 2, 1}}, []string{"ab", "c ", "d "}},
		{"over a gap", impl.TblTable{Gap: 2, Rows: rowsOf([]impl.TblCell{worded("a b", 2)}, []impl.TblCell{worded("c", 1), worded("d", 1)})}, 0, []quad{{0, 0, 4, 1}, {0, 1, 1, 1}, {3, 1, 1, 1}}, []string{"a b ", "c  d"}},
		{"over two rows", impl.TblTable{Gap: 1, Rows: []impl.TblRow{{Cells: []impl.TblCell{tall(3, 2), worded("c", 1)}}, {Cells: []impl.TblCell{worded("d", 1)}}}}, 0, []quad{{0, 0, 2, 3}, {3, 0, 1, 1}, {3, 1, 1, 2}}, []string{"ab c", "ab d", "ab  "}},
		{"a column without width", impl.TblTable{Gap: 1, Rows: rowsOf([]impl.TblCell{worded("a", 1), worded("", 1), worded("b", 1)})}, 0, []quad{{0, 0, 1, 1}, {2, 0, 0, 1}, {3, 0, 1, 1}}, []string{"a  b"}},
		{"a row without lines", impl.TblTable{Rows: rowsOf([]impl.TblCell{worded("a", 1)}, []impl.TblCell{worded("", 1)}, []impl.TblCell{worded("b", 1)})}, 2, []quad{{0, 0, 2, 1}, {0, 1, 2, 0}, {0, 1, 2, 1}}, []string{"a ", "b "}},
		{"a column that no cell has", impl.TblTable{Gap: 1, Cols: []impl.TblCol{{}, fixed(4)}, Rows: rowsOf([]impl.TblCell{worded("ab", 1)})}, 0, []quad{{0, 0, 2, 1}}, []string{"ab     "}},
		{"wider than it may be", impl.TblTable{Cols: []impl.TblCol{fixed(3), fixed(4)}, Rows: rowsOf([]impl.TblCell{worded("ab", 1), worded("cd", 1)})}, 5, []quad{{0, 0, 3, 1}, {3, 0, 4, 1}}, []string{"ab cd  "}},
		{"without lines", impl.TblTable{Cols: []impl.TblCol{fixed(3)}, Rows: rowsOf([]impl.TblCell{worded("", 1)})}, 9, []quad{{0, 0, 3, 0}}, nil},
		{"without width and lines", impl.TblTable{Rows: rowsOf([]impl.TblCell{worded("", 1), worded("", 1)})}, 0, []quad{{0, 0, 0, 0}, {0, 0, 0, 0}}, nil},
		{"without cells", impl.TblTable{Rows: make([]impl.TblRow, 3)}, 20, nil, nil},
	}
	for _, c := range cases {
		if got := impl.QryRects(c.table, c.width); !slices.Equal(got, rectsOf(c.rects)) {
			t.Errorf("%s: cells are at %v, not %v", c.name, got, c.rects)
		}
		if got := impl.QryPicture(c.table, c.width); !slices.Equal(got, c.picture) {
			t.Errorf("%s: it looks like %q, not %q", c.name, got, c.picture)
		}
	}
}

func TestPlacesOfTheExample(t *testing.T) {
	x := exampleTable()
	g := impl.GrdOf(x)
	picture := []string{
		"the meadow         lighthouse over      ",
		"a an the over      a an          under  ",
		"under              the lighthouse       ",
	}
	if got := impl.QryPicture(x, 40); !slices.Equal(got, picture) {
		t.Errorf("it looks like %q", got)
	}
	want := rectsOf([]quad{{0, 0, 17, 1}, {19, 0, 21, 1}, {0, 1, 17, 2}, {19, 1, 12, 1}, {33, 1, 7, 1}, {19, 2, 21, 1}})
	if got := impl.QryRects(x, 40); !slices.Equal(got, want) {
		t.Errorf("its cells are at %v", got)
	}
	if got := impl.QrySlots(g); !slices.Equal(got, []string{"abb", "cde", "cff"}) {
		t.Errorf("its slots are %q", got)
	}
	// From a to d there is b, which goes on to the last column, and c, which goes on to the last row.
	if got := impl.QryRange(g, 0, 3); got != (impl.GrdCell{Rows: 3, Cols: 3}) {
		t.Errorf("from a to d is %v", got)
	}
	if got := impl.QryRange(g, 3, 4); got != (impl.GrdCell{Row: 1, Col: 1, Rows: 1, Cols: 2}) {
		t.Errorf("from d to e is %v", got)
	}
}

func TestPlacesAreAsTheyAreWritten(t *testing.T) {
	for _, p := range manyPlaced() {
		if want := plainlyRects(p.table, p.width); !slices.Equal(p.rects, want) {
			t.Fatalf("%v, width %d: cells are at %v, not %v", p.table, p.width, p.rects, want)
		}
		if got, want := impl.QryPicture(p.table, p.width), plainlyPicture(p.table, p.width); !slices.Equal(got, want) {
			t.Fatalf("%v, width %d: it looks like %q, not %q", p.table, p.width, got, want)
		}
	}
}

func TestPromise10NoTwoCellsAreAtOnePlace(t *testing.T) {
	taken := 0
	for _, p := range manyPlaced() {
		wide, high := p.wide(), p.high()
		owners := make([]int, wide*high)
		for i, r := range p.rects {
			if r.X < 0 || r.Y < 0 || r.Wide < 0 || r.High < 0 || r.X+r.Wide > wide || r.Y+r.High > high {
				t.Fatalf("%v, width %d: cell %d is at %v, but the table is %d wide and %d high", p.table, p.width, i, r, wide, high)
			}
			for y := r.Y; y < r.Y+r.High; y++ {
				for x := r.X; x < r.X+r.Wide; x++ {
					if owner := owners[y*wide+x]; owner > 0 {
						t.Fatalf("%v, width %d: %d, %d is of cells %d and %d", p.table, p.width, x, y, owner-1, i)
					}
					owners[y*wide+x] = i + 1
					taken++
				}
			}
		}
	}
	if taken < 100000 {
		t.Errorf("only %d places were of a cell", taken)
	}
}

func lettersOf(text string) int {
	return len(strings.ReplaceAll(text, " ", ""))
}

func TestPromise11WhatIsSeenIsWhatIsThere(t *testing.T) {
	seen := 0
	for _, p := range manyPlaced() {
		picture := impl.QryPicture(p.table, p.width)
		if len(picture) != p.high() {
			t.Fatalf("%v, width %d: %d lines, not %d", p.table, p.width, len(picture), p.high())
		}
		for _, line := range picture {
			if len(line) != impl.WidTable(p.table, p.width) || strings.Trim(line, "abcdefghijklmnopqrstuvwxyz ") != "" {
				t.Fatalf("%v, width %d: the line %q", p.table, p.width, line)
			}
		}
		letters := 0
		lines := impl.HgtLines(p.table, p.width)
		for i, c := range p.grid.Cells {
			letters += lettersOf(textAt(p.table, c))
			for k, line := range lines[i] {
				if r := p.rects[i]; !strings.HasPrefix(picture[r.Y+k][r.X:], line) {
					t.Fatalf("%v, width %d: line %d of cell %d, %q, is not at %v in %q", p.table, p.width, k, i, line, r, picture)
				}
			}
		}
		if got := lettersOf(strings.Join(picture, "")); got != letters {
			t.Fatalf("%v, width %d: %d letters are seen, not %d, in %q", p.table, p.width, got, letters, picture)
		}
		seen += letters
	}
	if seen < 100000 {
		t.Errorf("only %d letters were seen", seen)
	}
}

// A picture is the same at each call, also while others are put together.
func TestPromise11PicturesAtTheSameTime(t *testing.T) {
	tables := filledTables()[:24]
	pictures := make([][]string, 10*len(tables))
	var drawn sync.WaitGroup
	for k := range pictures {
		drawn.Go(func() { pictures[k] = impl.QryPicture(tables[k%len(tables)], 30) })
	}
	drawn.Wait()
	for k, picture := range pictures {
		if want := plainlyPicture(tables[k%len(tables)], 30); !slices.Equal(picture, want) {
			t.Fatalf("%v looks like %q, not %q", tables[k%len(tables)], picture, want)
		}
	}
}

func TestPromise51PlacesByColumnsAndRows(t *testing.T) {
	for _, p := range manyPlaced() {
		if len(p.rects) != len(p.grid.Cells) {
			t.Fatalf("%v, width %d: %d cells, but places %v", p.table, p.width, len(p.grid.Cells), p.rects)
		}
		for i, c := range p.grid.Cells {
			want := rect{X: impl.WidAt(p.cols, p.table.Gap, c.Col), Y: impl.HgtAt(p.heights, c.Row), Wide: impl.WidCell(p.cols, p.table.Gap, c), High: impl.HgtCell(p.heights, c)}
			if p.rects[i] != want {
				t.Fatalf("%v, width %d: cell %v is at %v, not %v", p.table, p.width, c, p.rects[i], want)
			}
		}
	}
}

// smallPlaced are some of those above whose places are few enough to be asked one by one.
func smallPlaced() []placed {
	var list []placed
	for k, p := range manyPlaced() {
		if places := p.wide() * p.high(); places < 400 && k%3 == 0 || places < 40 {
			list = append(list, p)
		}
	}
	return list
}

func TestPromise52TheCellAtAPlace(t *testing.T) {
	hits, misses := 0, 0
	for _, p := range smallPlaced()[:400] {
		for y := -1; y <= p.high(); y++ {
			for x := -1; x <= p.wide(); x++ {
				want := -1
				for i, r := range p.rects {
					if r.X <= x && x < r.X+r.Wide && r.Y <= y && y < r.Y+r.High {
						want = i
					}
				}
				if got := impl.QryHit(p.table, p.width, x, y); got != want {
					t.Fatalf("%v, width %d: at %d, %d is cell %d, not %d, of %v", p.table, p.width, x, y, got, want, p.rects)
				}
				if want < 0 {
					misses++
				} else {
					hits++
				}
			}
		}
	}
	if hits < 5000 || misses < 5000 {
		t.Errorf("only %d hits and %d misses", hits, misses)
	}
}

func TestPromise52WrittenOut(t *testing.T) {
	// By 40: a is 17 wide, then a gap of 2; b goes over two columns, and the gap between them.
	cases := []struct{ x, y, want int }{
		{0, 0, 0}, {16, 0, 0}, {17, 0, -1}, {18, 0, -1}, {19, 0, 1}, {31, 0, 1}, {39, 0, 1}, {40, 0, -1},
		{0, 1, 2}, {16, 2, 2}, {17, 2, -1}, {0, 3, -1}, {0, -1, -1}, {-1, 0, -1}, {-1, -1, -1},
		{18, 1, -1}, {19, 1, 3}, {30, 1, 3}, {31, 1, -1}, {32, 1, -1}, {33, 1, 4}, {39, 1, 4}, {40, 1, -1},
		{19, 2, 5}, {31, 2, 5}, {39, 2, 5}, {40, 2, -1}, {39, 3, -1}, {19, 3, -1},
		{math.MaxInt, 0, -1}, {0, math.MaxInt, -1}, {math.MinInt, 0, -1}, {0, math.MinInt, -1}, {math.MaxInt, math.MaxInt, -1}, {math.MinInt, math.MinInt, -1},
	}
	for _, c := range cases {
		if got := impl.QryHit(exampleTable(), 40, c.x, c.y); got != c.want {
			t.Errorf("at %d, %d is %d, not %d", c.x, c.y, got, c.want)
		}
	}
}

// The first and the last place of each cell are of it; the one behind is not.
func TestPromise52EdgesOfCells(t *testing.T) {
	for _, p := range manyPlaced()[:400] {
		for i, r := range p.rects {
			if r.Wide == 0 || r.High == 0 {
				if got := impl.QryHit(p.table, p.width, r.X, r.Y); got == i {
					t.Fatalf("%v, width %d: cell %d is at its first place, though it has none: %v", p.table, p.width, i, r)
				}
				continue
			}
			for _, x := range []int{r.X, r.X + r.Wide - 1} {
				for _, y := range []int{r.Y, r.Y + r.High - 1} {
					if got := impl.QryHit(p.table, p.width, x, y); got != i {
						t.Fatalf("%v, width %d: at %d, %d is cell %d, not %d", p.table, p.width, x, y, got, i)
					}
				}
			}
			for _, at := range [][2]int{{r.X - 1, r.Y}, {r.X, r.Y - 1}, {r.X + r.Wide, r.Y}, {r.X, r.Y + r.High}} {
				if got := impl.QryHit(p.table, p.width, at[0], at[1]); got == i {
					t.Fatalf("%v, width %d: cell %d is at %v, beside %v", p.table, p.width, i, at, r)
				}
			}
		}
	}
}

// plainlyAlong says whether a place is one of so many from a first one on, in numbers without bounds.
func plainlyAlong(first int, many int, place int) bool {
	from, at := big.NewInt(int64(first)), big.NewInt(int64(place))
	behind := new(big.Int).Add(from, big.NewInt(int64(many)))
	return from.Cmp(at) <= 0 && at.Cmp(behind) < 0
}

func TestPlacesInAnything(t *testing.T) {
	for _, first := range oddNumbers {
		for _, many := range oddNumbers {
			for _, place := range oddNumbers {
				want := plainlyAlong(first, many, place)
				if got := impl.QryIn(rect{X: first, Wide: many, Y: 5, High: 2}, place, 6); got != want {
					t.Fatalf("%d is one of %d from %d on: %v", place, many, first, got)
				}
				if got := impl.QryIn(rect{Y: first, High: many, X: -3, Wide: 1}, -3, place); got != want {
					t.Fatalf("line %d is one of %d from %d on: %v", place, many, first, got)
				}
				// Both must be so.
				if impl.QryIn(rect{X: first, Wide: many, Y: 5, High: 2}, place, 7) || impl.QryIn(rect{Y: first, High: many, X: -3, Wide: 1}, -2, place) {
					t.Fatalf("%d, of %d from %d on, is beside it", place, many, first)
				}
			}
		}
	}
}

func placesIn(r rect, from int, behind int) int {
	count := 0
	for y := from; y < behind; y++ {
		for x := from; x < behind; x++ {
			if impl.QryIn(r, x, y) {
				count++
			}
		}
	}
	return count
}

func TestPromise53AsManyPlacesAsItsArea(t *testing.T) {
	for wide := range 7 {
		for high := range 7 {
			for _, at := range [][2]int{{0, 0}, {-4, 2}, {3, -5}, {-9, -9}} {
				r := rect{X: at[0], Y: at[1], Wide: wide, High: high}
				if got := impl.QryArea(r); got != wide*high || placesIn(r, -12, 12) != got {
					t.Fatalf("%v has the area %d, but %d places", r, got, placesIn(r, -12, 12))
				}
			}
		}
	}
	for _, p := range smallPlaced()[:300] {
		for _, r := range p.rects {
			if got := impl.QryArea(r); placesIn(r, -1, 1+max(p.wide(), p.high())) != got {
				t.Fatalf("%v, width %d: %v has the area %d", p.table, p.width, r, got)
			}
		}
	}
	for _, c := range []struct{ wide, high, want int }{{0, 9, 0}, {9, 0, 0}, {21, 3, 63}, {-2, 5, -10}, {1, math.MaxInt, math.MaxInt}, {0, math.MinInt, 0}} {
		if got := impl.QryArea(rect{X: 7, Y: 8, Wide: c.wide, High: c.high}); got != c.want {
			t.Errorf("%d times %d is %d", c.wide, c.high, got)
		}
	}
}

// firstPlace is where a slot begins, counted column by column and row by row.
func (p placed) firstPlace(row int, col int) (int, int) {
	x, y := 0, 0
	for _, wide := range p.cols[:col] {
		x += wide + p.table.Gap
	}
	for _, high := range p.heights[:row] {
		y += high
	}
	return x, y
}

func TestPromise55TheFirstPlaceOfASlot(t *testing.T) {
	empty, held := 0, 0
	for k, p := range manyPlaced() {
		if k%3 > 0 && k > 200 {
			continue
		}
		for row, high := range p.heights {
			for col, wide := range p.cols {
				if high == 0 || wide == 0 || (row+col+k)%5 > 0 {
					continue
				}
				x, y := p.firstPlace(row, col)
				want := impl.GrdAt(p.grid, row, col)
				if got := impl.QryHit(p.table, p.width, x, y); got != want {
					t.Fatalf("%v, width %d: slot %d, %d is of %d, but at %d, %d is %d", p.table, p.width, row, col, want, x, y, got)
				}
				if want < 0 {
					empty++
				} else {
					held++
				}
			}
		}
	}
	if empty < 500 || held < 1000 {
		t.Errorf("only %d slots of no cell, and %d of one", empty, held)
	}
}

func TestPromise55BeyondTheTableIsNone(t *testing.T) {
	far := []int{math.MinInt, math.MinInt + 1, -300, -1, math.MaxInt - 1, math.MaxInt}
	for k, p := range manyPlaced() {
		if k%20 > 0 && k > 100 {
			continue
		}
		xs := append([]int{p.wide(), p.wide() + 1}, far...)
		ys := append([]int{p.high(), p.high() + 1}, far...)
		for _, x := range xs {
			for _, y := range append([]int{0, p.high() / 2, p.high() - 1}, ys...) {
				if got := impl.QryHit(p.table, p.width, x, y); got != -1 {
					t.Fatalf("%v, width %d: beyond it, at %d, %d, is %d", p.table, p.width, x, y, got)
				}
			}
		}
		for _, y := range ys {
			for _, x := range []int{0, p.wide() / 2, p.wide() - 1} {
				if got := impl.QryHit(p.table, p.width, x, y); got != -1 {
					t.Fatalf("%v, width %d: beyond it, at %d, %d, is %d", p.table, p.width, x, y, got)
				}
			}
		}
	}
}

// A table may have more columns than a grid that is ok; its cells are at their places, too.
func TestPlacesOfTheWidestTable(t *testing.T) {
	x := wideTable()
	for row := range x.Rows {
		x.Rows[row].Cells[4].Text = "ab cde"
	}
	g := impl.GrdOf(x)
	if impl.GrdOk(g) {
		t.Fatal("its grid is ok")
	}
	for _, width := range []int{0, 200, impl.WidMax} {
		if got := impl.QryRects(x, width); len(got) != 40 || !slices.Equal(got, plainlyRects(x, width)) {
			t.Errorf("width %d: its cells are at %v", width, got)
		}
		if got := impl.QryPicture(x, width); len(got) == 0 || !slices.Equal(got, plainlyPicture(x, width)) {
			t.Errorf("width %d: it looks like %q", width, got)
		}
	}
	// Of its grid there is no more to tell.
	if got := impl.QrySlots(g); len(got) != 0 {
		t.Errorf("its slots are %q", got)
	}
	if got := impl.QryRange(g, 0, 1); got != (impl.GrdCell{}) {
		t.Errorf("from its first cell to the second one is %v", got)
	}
}

func checkNotPlaced(t *testing.T, x impl.TblTable, width int) {
	t.Helper()
	if rects, picture := impl.QryRects(x, width), impl.QryPicture(x, width); len(rects) != 0 || len(picture) != 0 {
		t.Errorf("%v, width %d: %v, %q", x, width, rects, picture)
	}
	for _, at := range [][2]int{{0, 0}, {1, 0}, {0, 1}, {-1, -1}, {math.MaxInt, math.MaxInt}, {math.MinInt, 0}} {
		if got := impl.QryHit(x, width, at[0], at[1]); got != -1 {
			t.Errorf("%v, width %d: at %v is %d", x, width, at, got)
		}
	}
}

func TestPlacesThatMayNotBe(t *testing.T) {
	for _, x := range append(filledTables()[:12], wideTable()) {
		for _, width := range []int{math.MinInt, -300, -1, impl.WidMax + 1, math.MaxInt} {
			checkNotPlaced(t, x, width)
		}
		for _, width := range []int{0, impl.WidMax} {
			if got := impl.QryRects(x, width); len(got) != impl.TblCells(x) {
				t.Errorf("%v, width %d: %v", x, width, got)
			}
		}
	}
	for _, x := range wronglyBordered() {
		for _, width := range []int{math.MinInt, -1, 0, 1, 50, impl.WidMax, impl.WidMax + 1, math.MaxInt} {
			checkNotPlaced(t, x, width)
		}
	}
}

func TestPlacesLeaveTheTable(t *testing.T) {
	before := filledTables()[:60]
	for k, x := range filledTables()[:60] {
		rects, picture := impl.QryRects(x, 20), impl.QryPicture(x, 20)
		impl.QryHit(x, 20, 3, 1)
		for n := range rects[:cap(rects)] {
			rects[:cap(rects)][n] = rect{X: 77, Y: 77, Wide: 77, High: 77}
		}
		for n := range picture[:cap(picture)] {
			picture[:cap(picture)][n] = "spoilt"
		}
		if !reflect.DeepEqual(x, before[k]) {
			t.Fatalf("%v became %v", before[k], x)
		}
		if !slices.Equal(impl.QryRects(x, 20), plainlyRects(x, 20)) || !slices.Equal(impl.QryPicture(x, 20), plainlyPicture(x, 20)) {
			t.Fatalf("%v: its places or its picture were kept", x)
		}
	}
}
