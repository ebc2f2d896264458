package tests

import (
	"math"
	"reflect"
	"slices"
	"testing"

	"loop.example/panework/impl"
)

// painted is a grid as a test draws it: a letter for each cell, in the order of letters, a dot where there is none.
func painted(rows ...string) impl.GrdGrid {
	g := impl.GrdGrid{Rows: len(rows), Cols: len(rows[0])}
	for letter := byte('a'); letter <= 'z'; letter++ {
		top, left, bottom, right := len(rows), len(rows[0]), -1, -1
		for row := range rows {
			for col := range rows[row] {
				if rows[row][col] == letter {
					top, left, bottom, right = min(top, row), min(left, col), max(bottom, row), max(right, col)
				}
			}
		}
		if bottom >= 0 {
			g.Cells = append(g.Cells, impl.GrdCell{Row: top, Col: left, Rows: bottom - top + 1, Cols: right - left + 1, In: int(letter-'a') % impl.TblMaxIn})
		}
	}
	return g
}

// overlap says how many slots two parts have in common.
func overlap(a impl.GrdCell, b impl.GrdCell) int {
	down := min(a.Row+a.Rows, b.Row+b.Rows) - max(a.Row, b.Row)
	along := min(a.Col+a.Cols, b.Col+b.Cols) - max(a.Col, b.Col)
	return max(0, down) * max(0, along)
}

func slotsIn(c impl.GrdCell) int {
	return c.Rows * c.Cols
}

// allOrNothing says whether a part has of each cell of a grid all or nothing.
func allOrNothing(g impl.GrdGrid, p impl.GrdCell) bool {
	return !slices.ContainsFunc(g.Cells, func(c impl.GrdCell) bool {
		common := overlap(c, p)
		return common > 0 && common < slotsIn(c)
	})
}

// leastPart looks at all parts of a grid that have two cells, and of each cell all or nothing, for the least one.
func leastPart(g impl.GrdGrid, a int, b int) impl.GrdCell {
	first, second := g.Cells[a], g.Cells[b]
	best := impl.GrdCell{Rows: g.Rows, Cols: g.Cols}
	for row := 0; row <= min(first.Row, second.Row); row++ {
		for col := 0; col <= min(first.Col, second.Col); col++ {
			for bottom := max(first.Row+first.Rows, second.Row+second.Rows); bottom <= g.Rows; bottom++ {
				for right := max(first.Col+first.Cols, second.Col+second.Cols); right <= g.Cols; right++ {
					p := impl.GrdCell{Row: row, Col: col, Rows: bottom - row, Cols: right - col}
					if slotsIn(p) < slotsIn(best) && allOrNothing(g, p) {
						best = p
					}
				}
			}
		}
	}
	return best
}

// turned is a part of a grid, turned over its diagonal: rows are columns.
func turned(c impl.GrdCell) impl.GrdCell {
	return impl.GrdCell{Row: c.Col, Col: c.Row, Rows: c.Cols, Cols: c.Rows, In: c.In}
}

// upended is a part of a grid, from below and from the right.
func upended(g impl.GrdGrid, c impl.GrdCell) impl.GrdCell {
	c.Row, c.Col = g.Rows-c.Row-c.Rows, g.Cols-c.Col-c.Cols
	return c
}

func withCells(g impl.GrdGrid, change func(impl.GrdCell) impl.GrdCell) impl.GrdGrid {
	var cells []impl.GrdCell
	for _, c := range g.Cells {
		cells = append(cells, change(c))
	}
	g.Cells = cells
	return g
}

// checkRange asks for the range of two cells, in both orders, and in the grid from below and turned.
func checkRange(t *testing.T, name string, g impl.GrdGrid, a int, b int, want impl.GrdCell) {
	t.Helper()
	over := withCells(g, func(c impl.GrdCell) impl.GrdCell { return upended(g, c) })
	aside := withCells(g, turned)
	aside.Rows, aside.Cols = g.Cols, g.Rows
	for _, pair := range [][2]int{{a, b}, {b, a}} {
		if got := impl.QryRange(g, pair[0], pair[1]); got != want {
			t.Errorf("%s: from %d to %d is %v, not %v", name, pair[0], pair[1], got, want)
		}
		if got := impl.QryRange(over, pair[0], pair[1]); got != upended(g, want) {
			t.Errorf("%s: from below, from %d to %d is %v, not %v", name, pair[0], pair[1], got, upended(g, want))
		}
		if got := impl.QryRange(aside, pair[0], pair[1]); got != turned(want) {
			t.Errorf("%s: turned, from %d to %d is %v, not %v", name, pair[0], pair[1], got, turned(want))
		}
	}
}

func TestRangesWrittenOut(t *testing.T) {
	cases := []struct {
		name string
		grid impl.GrdGrid
		a, b int
		want [4]int
	}{
		{"the only cell", painted("a"), 0, 0, [4]int{0, 0, 1, 1}},
		{"a cell and itself", painted("abb", "cde", "cff"), 1, 1, [4]int{0, 1, 1, 2}},
		{"a cell over all, and itself", painted("aaa", "aaa"), 0, 0, [4]int{0, 0, 2, 3}},
		{"side by side", painted("abc", "def"), 0, 1, [4]int{0, 0, 1, 2}},
		{"below each other", painted("abc", "def"), 1, 4, [4]int{0, 1, 2, 1}},
		{"from corner to corner", painted("abc", "def", "ghi"), 1, 5, [4]int{0, 1, 2, 2}},
		{"from the other corners", painted("abc", "def", "ghi"), 2, 3, [4]int{0, 0, 2, 3}},
		{"what is all in it makes it no greater", painted("abbc", "dddd"), 0, 2, [4]int{0, 0, 1, 4}},
		{"slots that no cell has are no matter", painted("a...", "..b.", "...c"), 0, 1, [4]int{0, 0, 2, 3}},
		{"what is beside it stays out", painted("abbc", "abbc", "dddd"), 1, 1, [4]int{0, 1, 2, 2}},
		{"one goes on to the right", painted("ab.", "cdd"), 0, 3, [4]int{0, 0, 2, 3}},
		{"one between goes on to the right", painted("a..", ".bb", "c..", "d.."), 0, 2, [4]int{0, 0, 3, 1}},
		{"one between goes on on one side", painted("a..", "bbb", "c..", "d.."), 0, 2, [4]int{0, 0, 3, 3}},
		{"one between goes on on both sides", painted("..a..", ".bbb.", "..c.."), 0, 2, [4]int{0, 1, 3, 3}},
		{"one meets it in a corner alone", painted("a..", ".cc", "bcc"), 0, 1, [4]int{0, 0, 3, 1}},
		{"one has a corner of it", painted("a...", ".cc.", "bcc.", "..d."), 0, 3, [4]int{0, 0, 4, 3}},
		// What e brings, d meets; what d brings, c; and so on: each comes ahead of the one that brings it in.
		{"grows often, against the order of cells", painted("fegcc.", ".eddb.", "..aab.", "..aa..", "h....."), 5, 6, [4]int{0, 0, 4, 5}},
		{"grows often, in the order of cells", painted("acbee.", ".cddf.", "..ggf.", "..gg..", "h....."), 0, 1, [4]int{0, 0, 4, 5}},
		// A pinwheel: none of the four can be in it without the next one.
		{"a pinwheel", painted("aab", "ceb", "cdd"), 0, 4, [4]int{0, 0, 3, 3}},
		{"the middle of a pinwheel", painted("aab", "ceb", "cdd"), 4, 4, [4]int{1, 1, 1, 1}},
		{"two sides of a pinwheel", painted("aab.", "ceb.", "cdd.", "...."), 1, 2, [4]int{0, 0, 3, 3}},
		{"two in one row, and one over all below", painted("abc", "ddd"), 0, 2, [4]int{0, 0, 1, 3}},
	}
	for _, c := range cases {
		if !impl.GrdOk(c.grid) {
			t.Fatalf("%s: the grid %v is not ok", c.name, c.grid)
		}
		want := impl.GrdCell{Row: c.want[0], Col: c.want[1], Rows: c.want[2], Cols: c.want[3]}
		if least := leastPart(c.grid, c.a, c.b); least != want {
			t.Errorf("%s: the least part is %v, not %v", c.name, least, want)
		}
		checkRange(t, c.name, c.grid, c.a, c.b, want)
	}
}

// plainlyRange follows the document's words: one cell that is not all in it at a time.
func plainlyRange(g impl.GrdGrid, a int, b int) impl.GrdCell {
	least := func(a impl.GrdCell, b impl.GrdCell) impl.GrdCell {
		top, left := min(a.Row, b.Row), min(a.Col, b.Col)
		bottom, right := max(a.Row+a.Rows, b.Row+b.Rows), max(a.Col+a.Cols, b.Col+b.Cols)
		return impl.GrdCell{Row: top, Col: left, Rows: bottom - top, Cols: right - left}
	}
	p := least(g.Cells[a], g.Cells[b])
	for {
		i := slices.IndexFunc(g.Cells, func(c impl.GrdCell) bool {
			common := overlap(c, p)
			return common > 0 && common < slotsIn(c)
		})
		if i < 0 {
			return p
		}
		p = least(p, g.Cells[i])
	}
}

// rolledGrid is a grid that is ok, of no table: cells anywhere, in any order, where there is room.
func rolledGrid(d *dice) impl.GrdGrid {
	g := impl.GrdGrid{Rows: 1 + d.roll(impl.TblMaxRow), Cols: 1 + d.roll(12)}
	for range 4 + d.roll(60) {
		c := impl.GrdCell{Row: d.roll(g.Rows), Col: d.roll(g.Cols), In: d.roll(impl.TblMaxIn)}
		c.Rows, c.Cols = 1+d.roll(min(3, g.Rows-c.Row)), 1+d.roll(min(3, g.Cols-c.Col))
		free := !slices.ContainsFunc(g.Cells, func(other impl.GrdCell) bool { return overlap(other, c) > 0 })
		if free && len(g.Cells) < impl.TblMaxRow*impl.TblMaxIn {
			g.Cells = append(g.Cells, c)
		}
	}
	return g
}

func rolledGrids() []impl.GrdGrid {
	var list []impl.GrdGrid
	d := &dice{state: 54}
	for range 400 {
		list = append(list, rolledGrid(d))
	}
	return list
}

// somePairs are two cells each of a grid: all of a small one, some of another one.
func somePairs(g impl.GrdGrid) [][2]int {
	var list [][2]int
	many := len(g.Cells)
	for a := range many {
		for b := range many {
			if many < 8 || (a*many+b)%37 == 0 {
				list = append(list, [2]int{a, b})
			}
		}
	}
	return list
}

func TestPromise54RangesHaveAllOrNothing(t *testing.T) {
	grown := 0
	for _, g := range append(rolledGrids(), goodGrids()...) {
		for _, pair := range somePairs(g) {
			a, b := g.Cells[pair[0]], g.Cells[pair[1]]
			got := impl.QryRange(g, pair[0], pair[1])
			if overlap(a, got) != slotsIn(a) || overlap(b, got) != slotsIn(b) {
				t.Fatalf("%v: from %v to %v is %v, that has not both", g, a, b, got)
			}
			if !allOrNothing(g, got) {
				t.Fatalf("%v: from %v to %v is %v, that has a part of a cell", g, a, b, got)
			}
			if got.In != 0 || got.Row < 0 || got.Col < 0 || got.Row+got.Rows > g.Rows || got.Col+got.Cols > g.Cols {
				t.Fatalf("%v: from %v to %v is %v, beyond the grid", g, a, b, got)
			}
			if other := impl.QryRange(g, pair[1], pair[0]); other != got {
				t.Fatalf("%v: from %v to %v is %v, but back %v", g, a, b, got, other)
			}
			if want := plainlyRange(g, pair[0], pair[1]); got != want {
				t.Fatalf("%v: from %v to %v is %v, not %v", g, a, b, got, want)
			}
			if got.Rows > max(a.Row+a.Rows, b.Row+b.Rows)-min(a.Row, b.Row) {
				grown++
			}
		}
	}
	if grown < 1000 {
		t.Errorf("only %d ranges had more rows than both cells", grown)
	}
}

func TestPromise54NoLesserPartIsOne(t *testing.T) {
	for _, g := range rolledGrids()[:200] {
		for _, pair := range somePairs(g) {
			if got, want := impl.QryRange(g, pair[0], pair[1]), leastPart(g, pair[0], pair[1]); got != want {
				t.Fatalf("%v: from %d to %d is %v, not %v", g, pair[0], pair[1], got, want)
			}
		}
	}
}

// Whichever number cells have, what they are in is the same.
func TestPromise54RangesHangOnNoOrder(t *testing.T) {
	for _, g := range append(rolledGrids(), goodGrids()[:200]...) {
		back := g
		back.Cells = slices.Clone(g.Cells)
		slices.Reverse(back.Cells)
		last := len(g.Cells) - 1
		for _, pair := range somePairs(g) {
			if got, want := impl.QryRange(back, last-pair[0], last-pair[1]), impl.QryRange(g, pair[0], pair[1]); got != want {
				t.Fatalf("%v: from %d to %d is %v, but %v if cells stand the other way round", g, pair[0], pair[1], want, got)
			}
		}
	}
}

func TestPromise54ACellAndItself(t *testing.T) {
	for _, g := range append(rolledGrids(), goodGrids()...) {
		for i, c := range g.Cells {
			// A range is no cell of a row.
			c.In = 0
			if got := impl.QryRange(g, i, i); got != c {
				t.Fatalf("%v: of cell %d alone it is %v, not %v", g, i, got, c)
			}
		}
	}
}

func TestRangesThatAreNone(t *testing.T) {
	none := impl.GrdCell{}
	for _, g := range append(badGrids(), manyCells(41)) {
		for _, pair := range [][2]int{{0, 0}, {0, 1}, {1, 0}, {1, 1}, {-1, 0}, {math.MaxInt, math.MinInt}} {
			if got := impl.QryRange(g, pair[0], pair[1]); got != none {
				t.Errorf("%v is not ok, but from %d to %d is %v", g, pair[0], pair[1], got)
			}
		}
	}
	for _, g := range append(goodGrids()[:40], manyCells(40)) {
		many := len(g.Cells)
		for _, wrong := range []int{math.MinInt, -2, -1, many, many + 1, math.MaxInt} {
			for _, other := range []int{wrong, 0, many - 1, many, -1} {
				if got := impl.QryRange(g, wrong, other); got != none {
					t.Errorf("%v: from %d to %d is %v", g, wrong, other, got)
				}
				if got := impl.QryRange(g, other, wrong); got != none {
					t.Errorf("%v: from %d to %d is %v", g, other, wrong, got)
				}
			}
		}
	}
}

func TestPromise20LettersOfSlots(t *testing.T) {
	dots, letters := 0, 0
	for _, g := range append(rolledGrids(), goodGrids()...) {
		slots := impl.QrySlots(g)
		if len(slots) != g.Rows {
			t.Fatalf("%v: %q", g, slots)
		}
		for row, text := range slots {
			if len(text) != g.Cols {
				t.Fatalf("%v: row %d is %q", g, row, text)
			}
			for col := range text {
				want := byte('.')
				if at := impl.GrdAt(g, row, col); at >= 0 {
					want = "abcdefghijklmnopqrstuvwxyzabcdefghijklmn"[at]
					letters++
				} else {
					dots++
				}
				if text[col] != want {
					t.Fatalf("%v: slot %d, %d is %q, not %q", g, row, col, text[col], want)
				}
			}
		}
	}
	if dots < 5000 || letters < 5000 {
		t.Errorf("only %d dots, and %d letters", dots, letters)
	}
}

func TestPromise20WrittenOut(t *testing.T) {
	for _, want := range [][]string{{"."}, {"a"}, {"...", "..."}, {"abb", "cde", "cff"}, {".a.", "b.c"}, {"aa..", "aab.", "..b."}} {
		if got := impl.QrySlots(painted(want...)); !slices.Equal(got, want) {
			t.Errorf("%q, not %q", got, want)
		}
	}
	// There are 26 letters: the 27th cell has the first one again.
	if got := impl.QrySlots(manyCells(26)); !slices.Equal(got, []string{"abcdefgh", "ijklmnop", "qrstuvwx", "yz......", "........", "........", "........", "........"}) {
		t.Errorf("of 26 cells: %q", got)
	}
	if got := impl.QrySlots(manyCells(27)); !slices.Equal(got, []string{"abcdefgh", "ijklmnop", "qrstuvwx", "yza.....", "........", "........", "........", "........"}) {
		t.Errorf("of 27 cells: %q", got)
	}
	if got := impl.QrySlots(manyCells(40)); !slices.Equal(got, []string{"abcdefgh", "ijklmnop", "qrstuvwx", "yzabcdef", "ghijklmn", "........", "........", "........"}) {
		t.Errorf("of 40 cells: %q", got)
	}
	for _, g := range append(badGrids(), manyCells(41)) {
		if got := impl.QrySlots(g); len(got) != 0 {
			t.Errorf("%v is not ok, but has %q", g, got)
		}
	}
}

func TestRangesLeaveTheGrid(t *testing.T) {
	before := rolledGrids()[:60]
	for k, g := range rolledGrids()[:60] {
		for _, pair := range somePairs(g) {
			impl.QryRange(g, pair[0], pair[1])
		}
		slots := impl.QrySlots(g)
		want := slices.Clone(slots)
		for n := range slots[:cap(slots)] {
			slots[:cap(slots)][n] = "spoilt"
		}
		if !reflect.DeepEqual(g, before[k]) {
			t.Fatalf("%v became %v", before[k], g)
		}
		if again := impl.QrySlots(g); !slices.Equal(again, want) {
			t.Fatalf("%v: its slots were kept: %q", g, again)
		}
	}
}
