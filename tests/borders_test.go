package tests

import (
	"math"
	"reflect"
	"slices"
	"testing"

	"loop.example/panework/impl"
)

// risingBorders are all borders that are ok, each beaten by all behind it.
func risingBorders() []impl.BrdLine {
	return []impl.BrdLine{
		{},
		{Style: 1, Width: 1}, {Style: 2, Width: 1}, {Style: 3, Width: 1},
		{Style: 1, Width: 2}, {Style: 2, Width: 2}, {Style: 3, Width: 2},
		{Style: 1, Width: 3}, {Style: 2, Width: 3}, {Style: 3, Width: 3},
		{Style: 4},
	}
}

// anyBorders are borders that are ok, and many that are not: hidden ones that are wide, styles that there are not, widths below 0.
func anyBorders() []impl.BrdLine {
	list := risingBorders()
	numbers := []int{math.MinInt, -1, 0, 1, 3, 4, 5, math.MaxInt}
	for _, style := range numbers {
		for _, width := range numbers {
			list = append(list, impl.BrdLine{Style: style, Width: width})
		}
	}
	return list
}

// plainlyBeats follows the document's words.
func plainlyBeats(a impl.BrdLine, b impl.BrdLine) bool {
	const hidden = 4
	if a.Style == hidden && b.Style == hidden || a.Style != hidden && b.Style == hidden {
		return false
	}
	if a.Style == hidden {
		return true
	}
	return a.Width > b.Width || a.Width == b.Width && a.Style > b.Style
}

func TestPromise39BordersInTheirOrder(t *testing.T) {
	for i, a := range risingBorders() {
		if !impl.BrdOk(a) {
			t.Errorf("%v is not ok", a)
		}
		for k, b := range risingBorders() {
			if impl.BrdBeats(a, b) != (i > k) {
				t.Errorf("%v beats %v: %v", a, b, impl.BrdBeats(a, b))
			}
		}
	}
}

func TestPromise39OfTwoThatAreOkOneBeats(t *testing.T) {
	var ok []impl.BrdLine
	for _, style := range oddNumbers {
		for _, width := range oddNumbers {
			if b := (impl.BrdLine{Style: style, Width: width}); impl.BrdOk(b) {
				ok = append(ok, b)
			}
		}
	}
	if len(ok) != 11 {
		t.Fatalf("%d borders are ok", len(ok))
	}
	for _, a := range ok {
		for _, b := range ok {
			if (impl.BrdBeats(a, b) != impl.BrdBeats(b, a)) != (a != b) {
				t.Errorf("%v and %v: %v, %v", a, b, impl.BrdBeats(a, b), impl.BrdBeats(b, a))
			}
		}
	}
}

func TestPromise39IsAnOrderOfAnyBorders(t *testing.T) {
	all := anyBorders()
	for _, a := range all {
		for _, b := range all {
			ab, ba := impl.BrdBeats(a, b), impl.BrdBeats(b, a)
			if ab != plainlyBeats(a, b) || ab && ba || a == b && ab {
				t.Fatalf("%v beats %v: %v, and the other way %v", a, b, ab, ba)
			}
			for _, c := range all {
				bc, ac := impl.BrdBeats(b, c), impl.BrdBeats(a, c)
				// Who beats b beats what b beats; who does not beat b does not beat what b does not beat.
				if ab && bc && !ac || !ab && !bc && ac {
					t.Fatalf("%v, %v and %v are in no order", a, b, c)
				}
			}
		}
	}
}

func TestPromise39WhatIsHidden(t *testing.T) {
	hidden := impl.BrdLine{Style: impl.BrdHidden}
	wide := impl.BrdLine{Style: impl.BrdHidden, Width: 7}
	far := impl.BrdLine{Style: impl.BrdHidden + 1, Width: math.MaxInt}
	cases := []struct {
		a, b impl.BrdLine
		want bool
	}{
		{hidden, impl.BrdLine{Style: impl.BrdThick, Width: impl.BrdMax}, true},
		{impl.BrdLine{Style: impl.BrdThick, Width: impl.BrdMax}, hidden, false},
		{hidden, impl.BrdLine{}, true}, {impl.BrdLine{}, hidden, false},
		{hidden, hidden, false}, {wide, hidden, false}, {hidden, wide, false},
		{hidden, far, true}, {far, hidden, false}, {impl.BrdLine{Style: impl.BrdHidden, Width: -1}, far, true},
		{impl.BrdLine{Style: impl.BrdThin, Width: 2}, impl.BrdLine{Style: impl.BrdThick, Width: 1}, true},
		{impl.BrdLine{Style: impl.BrdThick, Width: 1}, impl.BrdLine{Style: impl.BrdThin, Width: 2}, false},
		{impl.BrdLine{Style: impl.BrdTwin, Width: 2}, impl.BrdLine{Style: impl.BrdThin, Width: 2}, true},
		{impl.BrdLine{Style: impl.BrdTwin, Width: 2}, impl.BrdLine{Style: impl.BrdTwin, Width: 2}, false},
		{impl.BrdLine{Style: 1, Width: math.MaxInt}, impl.BrdLine{Style: 1, Width: math.MinInt}, true},
		{impl.BrdLine{Style: math.MinInt, Width: 1}, impl.BrdLine{Style: math.MaxInt, Width: 1}, false},
	}
	for _, c := range cases {
		if impl.BrdBeats(c.a, c.b) != c.want {
			t.Errorf("%v beats %v: %v", c.a, c.b, !c.want)
		}
	}
}

// noBorder is what is shown where there is none.
var noBorder = impl.BrdFrom{Cell: -1}

// plainlyBest holds each one of a list against all others.
func plainlyBest(list []impl.BrdFrom) impl.BrdFrom {
	for _, one := range list {
		if !slices.ContainsFunc(list, func(other impl.BrdFrom) bool { return plainlyBeats(other.Line, one.Line) }) {
			return one
		}
	}
	return noBorder
}

// checkBest holds one list to promise 40; cells tell borders apart that are alike.
func checkBest(t *testing.T, lines []impl.BrdLine) {
	t.Helper()
	var list []impl.BrdFrom
	for k, line := range lines {
		list = append(list, impl.BrdFrom{Line: line, Cell: 50 - 7*k})
	}
	best := impl.BrdBest(list)
	at := slices.Index(list, best)
	if at < 0 || best != plainlyBest(list) {
		t.Fatalf("of %v the best is %v, not %v", list, best, plainlyBest(list))
	}
	for k, other := range list {
		if impl.BrdBeats(other.Line, best.Line) || k < at && !impl.BrdBeats(best.Line, other.Line) {
			t.Fatalf("of %v the best is %v, but there is %v", list, best, other)
		}
	}
}

func TestPromise40TheBestOfAList(t *testing.T) {
	all := risingBorders()
	for _, a := range all {
		checkBest(t, []impl.BrdLine{a})
		for _, b := range all {
			checkBest(t, []impl.BrdLine{a, b})
			for _, c := range all {
				checkBest(t, []impl.BrdLine{a, b, c})
			}
		}
	}
}

func TestPromise40TheBestOfAnyBorders(t *testing.T) {
	for _, a := range anyBorders() {
		checkBest(t, []impl.BrdLine{a})
		for _, b := range anyBorders() {
			checkBest(t, []impl.BrdLine{a, b})
			checkBest(t, []impl.BrdLine{b, a, b, a})
		}
	}
	d := &dice{state: 40}
	all := anyBorders()
	for range 3000 {
		// Few kinds in a list make many that are alike.
		kinds := 1 + d.roll(len(all))
		var lines []impl.BrdLine
		for range 1 + d.roll(30) {
			lines = append(lines, all[d.roll(kinds)])
		}
		checkBest(t, lines)
	}
}

func TestPromise40TheBestOfNone(t *testing.T) {
	for _, list := range [][]impl.BrdFrom{nil, {}, make([]impl.BrdFrom, 3)[:0]} {
		if got := impl.BrdBest(list); got != noBorder {
			t.Errorf("of none the best is %v", got)
		}
	}
	// Whatever its cell is, what is in the list is in it.
	for _, cell := range oddNumbers {
		one := impl.BrdFrom{Cell: cell}
		if got := impl.BrdBest([]impl.BrdFrom{one}); got != one {
			t.Errorf("of %v the best is %v", one, got)
		}
	}
}

func TestBestLeavesTheList(t *testing.T) {
	room := []impl.BrdFrom{{Cell: 3}, {Line: impl.BrdLine{Style: 1, Width: 1}, Cell: 4}, {Line: impl.BrdLine{Style: 4}, Cell: 5}}
	before := slices.Clone(room)
	if got := impl.BrdBest(room[:2]); got != room[1] || !slices.Equal(room, before) {
		t.Errorf("the best is %v, the list became %v", got, room)
	}
}

// bordered is a table with borders on all sides of its cells, rolled from a list.
func bordered(d *dice, x impl.TblTable, from []impl.BrdLine) impl.TblTable {
	x.Rows = slices.Clone(x.Rows)
	for row := range x.Rows {
		x.Rows[row].Cells = slices.Clone(x.Rows[row].Cells)
		for in := range x.Rows[row].Cells {
			c := &x.Rows[row].Cells[in]
			for _, side := range []*impl.BrdLine{&c.Top, &c.Right, &c.Bottom, &c.Left} {
				*side = from[d.roll(len(from))]
			}
		}
	}
	return x
}

// borderedTables are tables that are ok, with borders: some of few kinds, so that many are alike where they meet.
func borderedTables() []impl.TblTable {
	all := risingBorders()
	list := []impl.TblTable{exampleTable()}
	d := &dice{state: 7}
	for k, x := range goodTables() {
		from := all
		if k%3 == 1 {
			from = []impl.BrdLine{all[0], all[d.roll(len(all))], all[10]}
		}
		list = append(list, bordered(d, x, from))
	}
	return list
}

// plainlyMeet is what promise 7 says of two cells that have slots side by side.
func plainlyMeet(a impl.BrdFrom, b impl.BrdFrom) impl.BrdFrom {
	switch {
	case a.Cell == b.Cell:
		return noBorder
	case a.Cell == -1 || b.Cell != -1 && plainlyBeats(b.Line, a.Line):
		return b
	}
	return a
}

// drawn is a table with the cells that have its slots, painted cell by cell.
type drawn struct {
	table impl.TblTable
	grid  impl.GrdGrid
	slots [][][]int
}

func draw(t *testing.T, x impl.TblTable) drawn {
	t.Helper()
	g := impl.GrdOf(x)
	return drawn{x, g, board(t, g)}
}

// side is one border of the cell that has a slot, which may lie outside.
func (d drawn) side(row int, col int, of func(impl.TblCell) impl.BrdLine) impl.BrdFrom {
	if row < 0 || row >= d.grid.Rows || col < 0 || col >= d.grid.Cols || len(d.slots[row][col]) == 0 {
		return noBorder
	}
	i := d.slots[row][col][0]
	c := d.grid.Cells[i]
	return impl.BrdFrom{Line: of(d.table.Rows[c.Row].Cells[c.In]), Cell: i}
}

func topOf(c impl.TblCell) impl.BrdLine    { return c.Top }
func rightOf(c impl.TblCell) impl.BrdLine  { return c.Right }
func bottomOf(c impl.TblCell) impl.BrdLine { return c.Bottom }
func leftOf(c impl.TblCell) impl.BrdLine   { return c.Left }

func (d drawn) across(row int, col int) impl.BrdFrom {
	return plainlyMeet(d.side(row-1, col, bottomOf), d.side(row, col, topOf))
}

func (d drawn) beside(row int, col int) impl.BrdFrom {
	return plainlyMeet(d.side(row, col-1, rightOf), d.side(row, col, leftOf))
}

func TestPromise7OneBorderIsShown(t *testing.T) {
	for _, x := range borderedTables()[:250] {
		d := draw(t, x)
		for row := -2; row <= d.grid.Rows+2; row++ {
			for col := -2; col <= d.grid.Cols+2; col++ {
				if got, want := impl.BrdAcross(x, row, col), d.across(row, col); got != want {
					t.Fatalf("%v: above %d, %d is %v, not %v", x, row, col, got, want)
				}
				if got, want := impl.BrdBeside(x, row, col), d.beside(row, col); got != want {
					t.Fatalf("%v: left of %d, %d is %v, not %v", x, row, col, got, want)
				}
			}
		}
	}
}

// meeting tells how two borders meet.
func meeting(a impl.BrdFrom, b impl.BrdFrom) string {
	switch {
	case a.Cell == -1 && b.Cell == -1:
		return "none"
	case a.Cell == b.Cell:
		return "one cell"
	case a.Cell == -1:
		return "the second alone"
	case b.Cell == -1:
		return "the first alone"
	case plainlyBeats(a.Line, b.Line):
		return "the first beats"
	case plainlyBeats(b.Line, a.Line):
		return "the second beats"
	}
	return "alike"
}

func TestPromise7AllWaysToMeetAreLookedAt(t *testing.T) {
	across, beside := map[string]int{}, map[string]int{}
	for _, x := range borderedTables()[:250] {
		d := draw(t, x)
		for row := range d.grid.Rows + 1 {
			for col := range d.grid.Cols + 1 {
				across[meeting(d.side(row-1, col, bottomOf), d.side(row, col, topOf))]++
				beside[meeting(d.side(row, col-1, rightOf), d.side(row, col, leftOf))]++
			}
		}
	}
	for _, way := range []string{"none", "one cell", "the second alone", "the first alone", "the first beats", "the second beats", "alike"} {
		if across[way] < 100 || beside[way] < 100 {
			t.Errorf("%s: %d times across, %d times beside", way, across[way], beside[way])
		}
	}
}

func TestPromise7TwoCells(t *testing.T) {
	for _, a := range risingBorders() {
		for _, b := range risingBorders() {
			want := impl.BrdFrom{Line: a}
			if plainlyBeats(b, a) {
				want = impl.BrdFrom{Line: b, Cell: 1}
			}
			above := impl.TblCell{Cols: 1, Rows: 1, Bottom: a}
			below := impl.TblCell{Cols: 1, Rows: 1, Top: b}
			x := impl.TblTable{Rows: rowsOf([]impl.TblCell{above}, []impl.TblCell{below})}
			if got := impl.BrdAcross(x, 1, 0); got != want {
				t.Errorf("between %v and %v, below, is %v", a, b, got)
			}
			left := impl.TblCell{Cols: 1, Rows: 1, Right: a}
			right := impl.TblCell{Cols: 1, Rows: 1, Left: b}
			x = impl.TblTable{Rows: rowsOf([]impl.TblCell{left, right})}
			if got := impl.BrdBeside(x, 0, 1); got != want {
				t.Errorf("between %v and %v, on the right, is %v", a, b, got)
			}
		}
	}
}

func TestPromise7OneCellAlone(t *testing.T) {
	for _, b := range risingBorders() {
		c := impl.TblCell{Cols: 2, Rows: 2, Top: b, Right: b, Bottom: b, Left: b}
		x := impl.TblTable{Rows: rowsOf([]impl.TblCell{c}, nil)}
		own := impl.BrdFrom{Line: b}
		// A border that is none, or hidden, is that of the cell, too, where it is alone.
		for k := range 2 {
			for n, want := range []impl.BrdFrom{noBorder, own, noBorder, own, noBorder} {
				if got := impl.BrdAcross(x, n-1, k); got != want {
					t.Errorf("%v: above %d, %d is %v", b, n-1, k, got)
				}
				if got := impl.BrdBeside(x, k, n-1); got != want {
					t.Errorf("%v: left of %d, %d is %v", b, k, n-1, got)
				}
			}
		}
	}
}

func TestPromise7TheExample(t *testing.T) {
	x := exampleTable()
	thick, twin, hidden := impl.BrdLine{Style: 3, Width: 2}, impl.BrdLine{Style: 2, Width: 1}, impl.BrdLine{Style: 4}
	across := map[[2]int]impl.BrdFrom{
		{0, 0}: {Cell: 0}, {0, 1}: {Cell: 1}, {0, 2}: {Cell: 1},
		{1, 0}: {Line: thick, Cell: 0}, {1, 1}: {Cell: 1}, {1, 2}: {Cell: 1},
		{2, 0}: noBorder, {2, 1}: {Line: hidden, Cell: 5}, {2, 2}: {Line: hidden, Cell: 5},
		{3, 0}: {Cell: 2}, {3, 1}: {Cell: 5}, {3, 2}: {Cell: 5},
	}
	for at, want := range across {
		if got := impl.BrdAcross(x, at[0], at[1]); got != want {
			t.Errorf("above %v is %v, not %v", at, got, want)
		}
	}
	beside := map[[2]int]impl.BrdFrom{
		{0, 0}: {Cell: 0}, {0, 1}: {Line: twin, Cell: 1}, {0, 2}: noBorder, {0, 3}: {Cell: 1},
		{1, 0}: {Cell: 2}, {1, 1}: {Cell: 2}, {1, 2}: {Cell: 3}, {1, 3}: {Cell: 4},
		{2, 0}: {Cell: 2}, {2, 1}: {Cell: 2}, {2, 2}: noBorder, {2, 3}: {Cell: 5},
	}
	for at, want := range beside {
		if got := impl.BrdBeside(x, at[0], at[1]); got != want {
			t.Errorf("left of %v is %v, not %v", at, got, want)
		}
	}
	if n := impl.BrdShown(x); n != 2 {
		t.Errorf("%d borders are shown", n)
	}
}

func TestPromise7SlotsFarOutside(t *testing.T) {
	far := []int{math.MinInt, math.MinInt + 1, -100, -1, 200, math.MaxInt - 1, math.MaxInt}
	for _, x := range borderedTables()[:40] {
		for _, there := range far {
			for _, other := range append([]int{0, 1, 2, 7}, far...) {
				if a, b := impl.BrdAcross(x, there, other), impl.BrdBeside(x, there, other); a != noBorder || b != noBorder {
					t.Fatalf("%v: at %d, %d is %v, %v", x, there, other, a, b)
				}
				if a, b := impl.BrdAcross(x, other, there), impl.BrdBeside(x, other, there); a != noBorder || b != noBorder {
					t.Fatalf("%v: at %d, %d is %v, %v", x, other, there, a, b)
				}
			}
		}
	}
}

// plainlyAll is all borders of a table, in the document's order.
func plainlyAll(d drawn) []impl.BrdFrom {
	var list []impl.BrdFrom
	for row := 0; row <= d.grid.Rows; row++ {
		for col := 0; col < d.grid.Cols; col++ {
			list = append(list, d.across(row, col))
		}
	}
	for row := 0; row < d.grid.Rows; row++ {
		for col := 0; col <= d.grid.Cols; col++ {
			list = append(list, d.beside(row, col))
		}
	}
	return list
}

func TestPromise41AllBordersInOrder(t *testing.T) {
	for _, x := range borderedTables() {
		d := draw(t, x)
		got, want := impl.BrdAll(x), plainlyAll(d)
		if !slices.Equal(got, want) || len(got) != (d.grid.Rows+1)*d.grid.Cols+d.grid.Rows*(d.grid.Cols+1) {
			t.Fatalf("%v: all borders are %v, not %v", x, got, want)
		}
		seen := 0
		for _, b := range want {
			if b.Line.Width > 0 {
				seen++
			}
		}
		if n := impl.BrdShown(x); n != seen {
			t.Fatalf("%v: %d borders are shown, not %d", x, n, seen)
		}
	}
}

func TestPromise41AllAreAcrossAndBeside(t *testing.T) {
	for _, x := range borderedTables()[:120] {
		g := impl.GrdOf(x)
		var want []impl.BrdFrom
		for at := range (g.Rows + 1) * g.Cols {
			want = append(want, impl.BrdAcross(x, at/g.Cols, at%g.Cols))
		}
		for at := range g.Rows * (g.Cols + 1) {
			want = append(want, impl.BrdBeside(x, at/(g.Cols+1), at%(g.Cols+1)))
		}
		if got := impl.BrdAll(x); !slices.Equal(got, want) {
			t.Fatalf("%v: all borders are %v, not %v", x, got, want)
		}
	}
}

func TestPromise41WrittenOut(t *testing.T) {
	thin, twin, hidden := impl.BrdLine{Style: 1, Width: 1}, impl.BrdLine{Style: 2, Width: 3}, impl.BrdLine{Style: 4}
	a := impl.TblCell{Cols: 1, Rows: 1, Top: thin, Right: twin, Bottom: thin, Left: hidden}
	b := impl.TblCell{Cols: 1, Rows: 1, Top: twin, Right: thin, Bottom: hidden, Left: twin}
	x := impl.TblTable{Rows: rowsOf([]impl.TblCell{a, b}, []impl.TblCell{a})}
	want := []impl.BrdFrom{
		{Line: thin, Cell: 0}, {Line: twin, Cell: 1},
		{Line: thin, Cell: 0}, {Line: hidden, Cell: 1},
		{Line: thin, Cell: 2}, noBorder,
		{Line: hidden, Cell: 0}, {Line: twin, Cell: 0}, {Line: thin, Cell: 1},
		{Line: hidden, Cell: 2}, {Line: twin, Cell: 2}, noBorder,
	}
	if got := impl.BrdAll(x); !slices.Equal(got, want) {
		t.Errorf("all borders are %v, not %v", got, want)
	}
	if n := impl.BrdShown(x); n != 7 {
		t.Errorf("%d borders are shown", n)
	}
	// A table without cells has edges, but nothing at them.
	x = impl.TblTable{Rows: make([]impl.TblRow, 2), Cols: make([]impl.TblCol, 3)}
	if got := impl.BrdAll(x); !slices.Equal(got, slices.Repeat([]impl.BrdFrom{noBorder}, 3*3+2*4)) {
		t.Errorf("all borders of a table without cells are %v", got)
	}
}

func TestPromise41EachStyleIsCounted(t *testing.T) {
	for k, b := range risingBorders() {
		want := 4
		if k == 0 || k == 10 {
			want = 0
		}
		c := impl.TblCell{Cols: 1, Rows: 1, Top: b, Right: b, Bottom: b, Left: b}
		if n := impl.BrdShown(impl.TblTable{Rows: rowsOf([]impl.TblCell{c})}); n != want {
			t.Errorf("%v on four sides: %d are shown", b, n)
		}
	}
}

func TestPromise42NothingIsSeen(t *testing.T) {
	d := &dice{state: 42}
	none, hidden := []impl.BrdLine{{}}, []impl.BrdLine{{Style: impl.BrdHidden}}
	for _, x := range goodTables() {
		for _, from := range [][]impl.BrdLine{none, hidden, append(none, hidden...)} {
			plain := bordered(d, x, from)
			if n := impl.BrdShown(plain); n != 0 {
				t.Fatalf("%v: %d borders are shown", plain, n)
			}
		}
		thin := bordered(d, x, []impl.BrdLine{{Style: impl.BrdThin, Width: 1}})
		if seen := impl.BrdShown(thin) > 0; seen != (impl.TblCells(x) > 0) {
			t.Fatalf("%v: something is shown: %v", thin, seen)
		}
	}
}

// wronglyBordered are tables that are not ok; of some that is for one border.
func wronglyBordered() []impl.TblTable {
	list := wronglySaid()
	wrong := []impl.BrdLine{{Style: 5, Width: 1}, {Style: -1}, {Style: 1}, {Style: 3, Width: 4}, {Width: 1}, {Style: 4, Width: 1}, {Style: 2, Width: -1}, {Style: math.MaxInt, Width: math.MinInt}}
	d := &dice{state: 9}
	for _, b := range wrong {
		for side := range 4 {
			x := bordered(d, impl.TblTable{Rows: plainRows(3, 3)}, risingBorders())
			c := &x.Rows[1].Cells[2]
			*[]*impl.BrdLine{&c.Top, &c.Right, &c.Bottom, &c.Left}[side] = b
			list = append(list, x)
		}
	}
	return list
}

func TestBordersOfWhatIsNoTable(t *testing.T) {
	for _, x := range wronglyBordered() {
		if all, n := impl.BrdAll(x), impl.BrdShown(x); len(all) != 0 || n != 0 {
			t.Errorf("%v: all borders are %v, %d are shown", x, all, n)
		}
		for _, row := range oddNumbers {
			for _, col := range oddNumbers {
				if a, b := impl.BrdAcross(x, row, col), impl.BrdBeside(x, row, col); a != noBorder || b != noBorder {
					t.Fatalf("%v: at %d, %d is %v, %v", x, row, col, a, b)
				}
			}
		}
	}
}

func TestBordersLeaveTheTable(t *testing.T) {
	before := borderedTables()[:60]
	for k, x := range borderedTables()[:60] {
		all := impl.BrdAll(x)
		impl.BrdShown(x)
		impl.BrdAcross(x, 1, 0)
		impl.BrdBeside(x, 0, 1)
		room := all[:cap(all)]
		for n := range room {
			room[n] = impl.BrdFrom{Line: impl.BrdLine{Style: 9, Width: 9}, Cell: 9}
		}
		if !reflect.DeepEqual(x, before[k]) {
			t.Fatalf("%v became %v", before[k], x)
		}
		if again := impl.BrdAll(x); !slices.Equal(again, plainlyAll(draw(t, x))) {
			t.Fatalf("%v: its borders were kept", x)
		}
	}
}
