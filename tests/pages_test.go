package tests

import (
	"math"
	"reflect"
	"slices"
	"sync"
	"testing"

	"loop.example/panework/impl"
)

// lined is a row with one cell of so many lines, if there is no width beyond what the words need.
func lined(lines int) impl.TblRow {
	return impl.TblRow{Cells: []impl.TblCell{tall(lines, 1)}}
}

// whole is such a row that is never cut.
func whole(lines int) impl.TblRow {
	row := lined(lines)
	row.Whole = true
	return row
}

// over is a row with one cell of so many lines that goes over so many rows.
func over(lines int, rows int) impl.TblRow {
	return impl.TblRow{Cells: []impl.TblCell{tall(lines, rows)}}
}

type slice = impl.PagSlice

// triple is a slice as a test writes it out: row, from, to.
type triple = [3]int

func pageOf(list []triple) []slice {
	var page []slice
	for _, n := range list {
		page = append(page, slice{Row: n[0], From: n[1], To: n[2]})
	}
	return page
}

func pagesOf(lists [][]triple) [][]slice {
	var pages [][]slice
	for _, list := range lists {
		pages = append(pages, pageOf(list))
	}
	return pages
}

func samePages(a [][]slice, b [][]slice) bool {
	return slices.EqualFunc(a, b, slices.Equal[[]slice])
}

func linesOn(page []slice) int {
	n := 0
	for _, s := range page {
		n += s.To - s.From
	}
	return n
}

// partRows are the rows of a part, rising.
func partRows(x impl.TblTable, part int) []int {
	ends := []int{0, x.Head, len(x.Rows) - x.Foot, len(x.Rows)}
	var list []int
	for row := ends[part]; row < ends[part+1]; row++ {
		list = append(list, row)
	}
	return list
}

// pageWith is the first page with a slice of a row.
func pageWith(pages [][]slice, row int) int {
	return slices.IndexFunc(pages, func(page []slice) bool {
		return slices.ContainsFunc(page, func(s slice) bool { return s.Row == row })
	})
}

func linesOfRows(heights []int, list []int) int {
	n := 0
	for _, row := range list {
		n += heights[row]
	}
	return n
}

// goesOn says whether a cell that begins above a row goes over it.
func goesOn(x impl.TblTable, row int) bool {
	return slices.ContainsFunc(impl.GrdOf(x).Cells, func(c impl.GrdCell) bool { return c.Row < row && row < c.Row+c.Rows })
}

// blockOf is a row's block in the body: its first row, and the row behind it.
func blockOf(x impl.TblTable, row int) (int, int) {
	first, behind := row, row+1
	for goesOn(x, first) {
		first--
	}
	for behind < len(x.Rows)-x.Foot && goesOn(x, behind) {
		behind++
	}
	return first, behind
}

// heightOf is how high the k-th page may be.
func heightOf(high []int, k int) int {
	if k < len(high) {
		return high[k]
	}
	return high[len(high)-1]
}

// plainlyBody puts the body on pages by the document's words, block by block, rows at once.
func plainlyBody(x impl.TblTable, width int, high []int) [][]slice {
	heights := impl.HgtRows(x, width)
	beside := linesOfRows(heights, partRows(x, 0)) + linesOfRows(heights, partRows(x, 2))
	pages := [][]slice{nil}
	last := func() *[]slice { return &pages[len(pages)-1] }
	room := func() int { return heightOf(high, len(pages)-1) - beside }
	for row := x.Head; row < len(x.Rows)-x.Foot; {
		_, behind := blockOf(x, row)
		if behind == row+1 && !x.Rows[row].Whole && heights[row] > 0 {
			for from := 0; from < heights[row]; {
				if linesOn(*last()) >= room() && len(*last()) > 0 {
					pages = append(pages, nil)
				}
				to := min(heights[row], from+max(1, room()-linesOn(*last())))
				*last() = append(*last(), slice{Row: row, From: from, To: to})
				from = to
			}
		} else {
			if len(*last()) > 0 && linesOn(*last())+together(heights[row:behind]) > room() {
				pages = append(pages, nil)
			}
			for k := row; k < behind; k++ {
				*last() = append(*last(), slice{Row: k, To: heights[k]})
			}
		}
		row = behind
	}
	return pages
}

// paged is a table on pages.
type paged struct {
	table   impl.TblTable
	width   int
	high    []int
	heights []int
	body    [][]slice
	all     [][]slice
}

func pagedOf(x impl.TblTable, width int, high []int) paged {
	return paged{x, width, high, impl.HgtRows(x, width), impl.PagBody(x, width, high), impl.PagAll(x, width, high)}
}

// highTables are tables with heads and feet, rows that are cut and rows that are not, rows without lines, and cells over more than one row.
func highTables() []impl.TblTable {
	some := filledTables()
	list := append(some[:260:260],
		impl.TblTable{Rows: slices.Repeat([]impl.TblRow{lined(10)}, 8)},
		impl.TblTable{Rows: make([]impl.TblRow, 8)}, impl.TblTable{Head: 8, Rows: make([]impl.TblRow, 8)},
		impl.TblTable{Head: 2, Foot: 1, Rows: []impl.TblRow{lined(1), lined(3), lined(5)}},
		// The widest one, with texts.
		some[len(some)-2])
	d := &dice{state: 9}
	for range 500 {
		x := impl.TblTable{}
		for range 1 + d.roll(impl.TblMaxRow) {
			row := impl.TblRow{Whole: d.roll(3) == 0}
			for range d.roll(3) {
				row.Cells = append(row.Cells, tall(d.roll(9), 1+d.roll(4)/2))
			}
			x.Rows = append(x.Rows, row)
		}
		if d.roll(2) == 0 {
			x.Head = d.roll(min(3, len(x.Rows)+1))
			x.Foot = d.roll(min(2, len(x.Rows)-x.Head+1))
		}
		list = append(list, x)
	}
	return list
}

func rolledHeights(d *dice) []int {
	var high []int
	most := []int{3, 9, 30, impl.PagMaxHigh}[d.roll(4)]
	for range 1 + d.roll([]int{2, 6, impl.PagMax}[d.roll(3)]) {
		high = append(high, d.roll(most))
	}
	return high
}

// manyPaged are all tables above by several heights; all heights are below PagMaxHigh, so that each may be one more.
var manyPaged = sync.OnceValue(func() []paged {
	var list []paged
	d := &dice{state: 99}
	for _, x := range highTables() {
		for _, width := range []int{0, 30} {
			all := min(together(impl.HgtRows(x, width)), impl.PagMaxHigh-1)
			for _, high := range [][]int{{0}, {3}, {all}, {max(0, all-1)}, {d.roll(12)}, rolledHeights(d), rolledHeights(d)} {
				list = append(list, pagedOf(x, width, high))
			}
		}
	}
	return list
})

func TestPagesWrittenOut(t *testing.T) {
	cases := []struct {
		name       string
		head, foot int
		rows       []impl.TblRow
		high       []int
		want       [][]triple
	}{
		{"all on one", 0, 0, []impl.TblRow{lined(2), lined(3)}, []int{5}, [][]triple{{{0, 0, 2}, {1, 0, 3}}}},
		{"more than enough", 0, 0, []impl.TblRow{lined(2)}, []int{100}, [][]triple{{{0, 0, 2}}}},
		{"cut", 0, 0, []impl.TblRow{lined(3)}, []int{2}, [][]triple{{{0, 0, 2}}, {{0, 2, 3}}}},
		{"cut often", 0, 0, []impl.TblRow{lined(7)}, []int{3}, [][]triple{{{0, 0, 3}}, {{0, 3, 6}}, {{0, 6, 7}}}},
		{"cut behind something", 0, 0, []impl.TblRow{lined(1), lined(4)}, []int{3}, [][]triple{{{0, 0, 1}, {1, 0, 2}}, {{1, 2, 4}}}},
		{"a full page is left", 0, 0, []impl.TblRow{lined(2), lined(2)}, []int{2}, [][]triple{{{0, 0, 2}}, {{1, 0, 2}}}},
		{"more behind what was cut", 0, 0, []impl.TblRow{lined(4), lined(3)}, []int{3}, [][]triple{{{0, 0, 3}}, {{0, 3, 4}, {1, 0, 2}}, {{1, 2, 3}}}},
		{"no room at all", 0, 0, []impl.TblRow{lined(2), lined(1)}, []int{0}, [][]triple{{{0, 0, 1}}, {{0, 1, 2}}, {{1, 0, 1}}}},

		{"never cut", 0, 0, []impl.TblRow{whole(3)}, []int{2}, [][]triple{{{0, 0, 3}}}},
		{"never cut, where there is no room", 0, 0, []impl.TblRow{whole(3), whole(2)}, []int{0}, [][]triple{{{0, 0, 3}}, {{1, 0, 2}}}},
		{"never cut, just enough room", 0, 0, []impl.TblRow{lined(1), whole(2)}, []int{3}, [][]triple{{{0, 0, 1}, {1, 0, 2}}}},
		{"never cut, one lacks", 0, 0, []impl.TblRow{lined(2), whole(2)}, []int{3}, [][]triple{{{0, 0, 2}}, {{1, 0, 2}}}},
		{"never cut, behind what was cut", 0, 0, []impl.TblRow{lined(4), whole(2)}, []int{3}, [][]triple{{{0, 0, 3}}, {{0, 3, 4}, {1, 0, 2}}}},
		{"never cut, too high for the next page, too", 0, 0, []impl.TblRow{lined(1), whole(4), lined(1)}, []int{2}, [][]triple{{{0, 0, 1}}, {{1, 0, 4}}, {{2, 0, 1}}}},
		{"what comes behind goes on", 0, 0, []impl.TblRow{whole(1), lined(2), whole(1)}, []int{2}, [][]triple{{{0, 0, 1}, {1, 0, 1}}, {{1, 1, 2}, {2, 0, 1}}}},

		{"without lines", 0, 0, []impl.TblRow{lined(0)}, []int{5}, [][]triple{{{0, 0, 0}}}},
		{"without cells", 0, 0, []impl.TblRow{{}, {Whole: true}}, []int{5}, [][]triple{{{0, 0, 0}, {1, 0, 0}}}},
		{"without lines, on a full page", 0, 0, []impl.TblRow{lined(2), lined(0), whole(0)}, []int{2}, [][]triple{{{0, 0, 2}, {1, 0, 0}, {2, 0, 0}}}},
		{"without lines, behind what is too high", 0, 0, []impl.TblRow{whole(3), lined(0)}, []int{2}, [][]triple{{{0, 0, 3}}, {{1, 0, 0}}}},
		{"without lines, behind a line without room", 0, 0, []impl.TblRow{lined(1), lined(0)}, []int{0}, [][]triple{{{0, 0, 1}}, {{1, 0, 0}}}},
		{"without lines, many where there is no room", 0, 0, []impl.TblRow{lined(0), lined(0)}, []int{0}, [][]triple{{{0, 0, 0}, {1, 0, 0}}}},
		// What has no lines is on the page all the same: so what comes behind it and has some does not find an empty one.
		{"without lines, and something is on the page", 0, 0, []impl.TblRow{lined(0), lined(2)}, []int{0}, [][]triple{{{0, 0, 0}}, {{1, 0, 1}}, {{1, 1, 2}}}},
		{"without lines, and what is too high follows", 0, 0, []impl.TblRow{lined(0), whole(3)}, []int{2}, [][]triple{{{0, 0, 0}}, {{1, 0, 3}}}},

		{"rows hang together", 0, 0, []impl.TblRow{over(4, 2), {}}, []int{2}, [][]triple{{{0, 0, 0}, {1, 0, 4}}}},
		{"rows hang together and fit", 0, 0, []impl.TblRow{lined(1), over(2, 2), lined(1), lined(1)}, []int{4}, [][]triple{{{0, 0, 1}, {1, 0, 0}, {2, 0, 2}, {3, 0, 1}}}},
		{"rows hang together and do not fit", 0, 0, []impl.TblRow{lined(1), {Cells: []impl.TblCell{tall(4, 2), tall(2, 1)}}, lined(2), lined(1)}, []int{4}, [][]triple{{{0, 0, 1}}, {{1, 0, 2}, {2, 0, 2}}, {{3, 0, 1}}}},
		{"rows hang together by one another", 0, 0, []impl.TblRow{{Cells: []impl.TblCell{tall(2, 2), tall(1, 1)}}, {Cells: []impl.TblCell{tall(3, 2)}}, lined(1)}, []int{1}, [][]triple{{{0, 0, 1}, {1, 0, 1}, {2, 0, 2}}}},
		{"rows hang together without lines", 0, 0, []impl.TblRow{lined(2), over(0, 2), {}}, []int{2}, [][]triple{{{0, 0, 2}, {1, 0, 0}, {2, 0, 0}}}},
		{"no row below to hang together with", 0, 0, []impl.TblRow{lined(1), over(3, 4)}, []int{2}, [][]triple{{{0, 0, 1}, {1, 0, 1}}, {{1, 1, 3}}}},
		{"nor in the foot", 0, 1, []impl.TblRow{over(3, 4), lined(1)}, []int{3}, [][]triple{{{0, 0, 2}}, {{0, 2, 3}}}},

		{"beside head and foot", 1, 1, []impl.TblRow{lined(2), lined(3), lined(1)}, []int{5}, [][]triple{{{1, 0, 2}}, {{1, 2, 3}}}},
		{"beside a head of two rows", 2, 0, []impl.TblRow{lined(1), whole(2), lined(3)}, []int{4}, [][]triple{{{2, 0, 1}}, {{2, 1, 2}}, {{2, 2, 3}}}},
		{"head and foot leave no room", 1, 1, []impl.TblRow{lined(2), lined(2), lined(1)}, []int{3}, [][]triple{{{1, 0, 1}}, {{1, 1, 2}}}},
		{"head and foot are too high", 1, 1, []impl.TblRow{lined(4), lined(2), whole(2), lined(3)}, []int{3}, [][]triple{{{1, 0, 1}}, {{1, 1, 2}}, {{2, 0, 2}}}},
		// Room is below 0 there: so no two are on one page, not even if they have no lines.
		{"the head is too high for what has no lines", 1, 0, []impl.TblRow{lined(4), lined(0), lined(0)}, []int{3}, [][]triple{{{1, 0, 0}}, {{2, 0, 0}}}},
		{"no body", 1, 1, []impl.TblRow{lined(4), lined(2)}, []int{6}, [][]triple{{}}},
		{"no body, and no room", 2, 0, []impl.TblRow{lined(4), lined(2)}, []int{0, 7}, [][]triple{{}}},

		{"another height on each page", 0, 0, []impl.TblRow{lined(9)}, []int{1, 3, 2, 9}, [][]triple{{{0, 0, 1}}, {{0, 1, 4}}, {{0, 4, 6}}, {{0, 6, 9}}}},
		{"the last height for all behind", 0, 0, []impl.TblRow{lined(8)}, []int{3, 2}, [][]triple{{{0, 0, 3}}, {{0, 3, 5}}, {{0, 5, 7}}, {{0, 7, 8}}}},
		{"a height of 0 first", 0, 0, []impl.TblRow{lined(8)}, []int{0, 0, 100}, [][]triple{{{0, 0, 1}}, {{0, 1, 2}}, {{0, 2, 8}}}},
		{"a height of 0 last", 0, 0, []impl.TblRow{lined(4), whole(2)}, []int{2, 0}, [][]triple{{{0, 0, 2}}, {{0, 2, 3}}, {{0, 3, 4}}, {{1, 0, 2}}}},
		// No page is passed over for a later one that has more room.
		{"never cut, though the second next page is high enough", 0, 0, []impl.TblRow{lined(1), whole(3)}, []int{1, 2, 3}, [][]triple{{{0, 0, 1}}, {{1, 0, 3}}}},
	}
	for _, c := range cases {
		x := impl.TblTable{Head: c.head, Foot: c.foot, Rows: c.rows}
		if got := impl.PagBody(x, 0, c.high); !samePages(got, pagesOf(c.want)) {
			t.Errorf("%s: %v, not %v", c.name, got, c.want)
		}
	}
}

func TestPagesAreAsTheyAreWritten(t *testing.T) {
	for _, p := range manyPaged() {
		if want := plainlyBody(p.table, p.width, p.high); !samePages(p.body, want) {
			t.Fatalf("%v, width %d, heights %v, rows %v: %v, not %v", p.table, p.width, p.high, p.heights, p.body, want)
		}
	}
}

func TestPagesOfTheExample(t *testing.T) {
	x := exampleTable()
	// By 40 each row has one line, by 0 two.
	if got := impl.PagAll(x, 40, []int{3}); !samePages(got, pagesOf([][]triple{{{0, 0, 1}, {1, 0, 1}, {2, 0, 1}}})) {
		t.Errorf("by 40: %v", got)
	}
	if got := impl.PagAll(x, 0, []int{3}); !samePages(got, pagesOf([][]triple{{{0, 0, 2}, {1, 0, 2}, {2, 0, 2}}})) {
		t.Errorf("by 0: %v, though its rows hang together", got)
	}
}

func TestPromise8EachLineIsOnOnePage(t *testing.T) {
	cut, bare := 0, 0
	for _, p := range manyPaged() {
		// In all pages' slices, one behind the other, lines come as they do in the table.
		list := slices.Concat(p.body...)
		for _, row := range partRows(p.table, 1) {
			line := 0
			for first := true; first || line < p.heights[row]; first = false {
				if len(list) == 0 || list[0].Row != row || list[0].From != line || p.heights[row] > 0 && list[0].To <= line {
					t.Fatalf("%v, heights %v, rows %v: row %d misses line %d in %v", p.table, p.high, p.heights, row, line, p.body)
				}
				if !first {
					cut++
				}
				line, list = list[0].To, list[1:]
			}
			if line != p.heights[row] {
				t.Fatalf("%v, heights %v, rows %v: row %d ends at %d in %v", p.table, p.high, p.heights, row, line, p.body)
			}
			if line == 0 {
				bare++
			}
		}
		if len(list) != 0 {
			t.Fatalf("%v, heights %v, rows %v: %v is too much in %v", p.table, p.high, p.heights, list, p.body)
		}
	}
	if cut < 3000 || bare < 5000 {
		t.Errorf("only %d times a row was cut, and %d rows had no lines", cut, bare)
	}
}

func TestPromise8NoSliceIsPartedOnAPage(t *testing.T) {
	for _, p := range manyPaged() {
		for _, page := range p.all {
			for k := 1; k < len(page); k++ {
				if page[k].Row <= page[k-1].Row {
					t.Fatalf("%v, heights %v: %v", p.table, p.high, page)
				}
			}
		}
	}
}

// A table may have more columns than a grid that is ok; its lines are on pages, too.
func TestPromise8TheWidestTable(t *testing.T) {
	x := wideTable()
	for row := range x.Rows {
		x.Rows[row].Cells[0].Text = "ab ab ab"
	}
	if impl.GrdOk(impl.GrdOf(x)) {
		t.Fatal("its grid is ok")
	}
	var want []slice
	for row, high := range impl.HgtRows(x, 0) {
		want = append(want, slice{Row: row, To: high})
	}
	// All its rows hang together.
	for _, high := range []int{0, 3, 100} {
		if got := impl.PagBody(x, 0, []int{high}); !samePages(got, [][]slice{want}) {
			t.Errorf("height %d: %v, not %v", high, got, want)
		}
	}
	// But for one that is on its own.
	x.Rows[0] = lined(3)
	heights := impl.HgtRows(x, 0)
	beneath := []slice{{Row: 0, From: 2, To: 3}}
	for row := 1; row < 8; row++ {
		beneath = append(beneath, slice{Row: row, To: heights[row]})
	}
	high := []int{2, 1 + together(heights[1:])}
	if got := impl.PagBody(x, 0, high); impl.GrdOk(impl.GrdOf(x)) || !samePages(got, [][]slice{{{Row: 0, To: 2}}, beneath}) {
		t.Errorf("with a first row of its own: %v", got)
	}
}

func TestPromise9NoPageIsFullerThanItCanBe(t *testing.T) {
	fits, single, alone := 0, 0, 0
	for _, p := range manyPaged() {
		for k, page := range p.all {
			body := p.body[k]
			switch {
			case impl.PagHigh(page) <= heightOf(p.high, k):
				fits++
			case linesOn(body) <= 1:
				single++
			default:
				first, _ := blockOf(p.table, body[0].Row)
				for _, s := range body {
					if block, _ := blockOf(p.table, s.Row); block != first {
						t.Fatalf("%v, heights %v, rows %v: page %d is too full: %v", p.table, p.high, p.heights, k, page)
					}
				}
				if len(body) == 1 && !p.table.Rows[first].Whole {
					t.Fatalf("%v, heights %v, rows %v: page %d has too much of a row that is cut: %v", p.table, p.high, p.heights, k, page)
				}
				alone++
			}
		}
	}
	if fits < 5000 || single < 2000 || alone < 500 {
		t.Errorf("%d pages were no fuller than they can be, %d had one line at most, %d one block", fits, single, alone)
	}
}

func TestPromise9NoPageIsLeftTooEarly(t *testing.T) {
	for _, p := range manyPaged() {
		for k := 1; k < len(p.all); k++ {
			next := p.body[k][0]
			need := 1
			if first, behind := blockOf(p.table, next.Row); behind > first+1 || p.table.Rows[first].Whole || p.heights[first] == 0 {
				need = together(p.heights[first:behind])
			}
			if linesOn(p.all[k-1])+need <= heightOf(p.high, k-1) {
				t.Fatalf("%v, heights %v, rows %v: page %d has room for more: %v", p.table, p.high, p.heights, k-1, p.all)
			}
		}
	}
}

func TestPromise43WhatIsNeverCut(t *testing.T) {
	kept, hung := 0, 0
	for _, p := range manyPaged() {
		for _, row := range partRows(p.table, 1) {
			first, behind := blockOf(p.table, row)
			if behind == first+1 && !p.table.Rows[row].Whole {
				continue
			}
			kept++
			at := pageWith(p.body, first)
			if at < 0 || !slices.Contains(p.body[at], slice{Row: row, To: p.heights[row]}) {
				t.Fatalf("%v, heights %v, rows %v: row %d is cut, or parted from row %d, in %v", p.table, p.high, p.heights, row, first, p.body)
			}
			if pageWith(p.body, row) != at || pageWith(p.body[at+1:], row) != -1 {
				t.Fatalf("%v, heights %v, rows %v: row %d is on two pages in %v", p.table, p.high, p.heights, row, p.body)
			}
			if behind > first+1 && len(p.body) > 1 {
				hung++
			}
		}
	}
	if kept < 5000 || hung < 2000 {
		t.Errorf("only %d rows were never cut, %d hung together", kept, hung)
	}
}

func TestPromise44HeadAndFootAreOnEachPage(t *testing.T) {
	both := 0
	for _, p := range manyPaged() {
		if len(p.all) != len(p.body) {
			t.Fatalf("%v, heights %v: %d pages, not %d", p.table, p.high, len(p.all), len(p.body))
		}
		for k, page := range p.all {
			var want []slice
			for _, row := range partRows(p.table, 0) {
				want = append(want, slice{Row: row, To: p.heights[row]})
			}
			want = append(want, p.body[k]...)
			for _, row := range partRows(p.table, 2) {
				want = append(want, slice{Row: row, To: p.heights[row]})
			}
			if !slices.Equal(page, want) {
				t.Fatalf("%v, heights %v: page %d is %v, not %v", p.table, p.high, k, page, want)
			}
			if p.table.Head > 0 && p.table.Foot > 0 && len(p.body) > 1 {
				both++
			}
		}
	}
	if both < 1000 {
		t.Errorf("only %d pages of several had head and foot", both)
	}
}

func TestPromise44WrittenOut(t *testing.T) {
	x := impl.TblTable{Head: 2, Foot: 2, Rows: []impl.TblRow{lined(1), {}, lined(2), {}, whole(3)}}
	want := pagesOf([][]triple{
		{{0, 0, 1}, {1, 0, 0}, {2, 0, 1}, {3, 0, 0}, {4, 0, 3}},
		{{0, 0, 1}, {1, 0, 0}, {2, 1, 2}, {3, 0, 0}, {4, 0, 3}},
	})
	for _, high := range []int{0, 3, 4, 5} {
		if got := impl.PagAll(x, 0, []int{high}); !samePages(got, want) {
			t.Errorf("height %d: %v", high, got)
		}
	}
	// Without a body head and foot are on one page.
	x.Head = 3
	if got := impl.PagAll(x, 0, []int{1, 9}); !samePages(got, pagesOf([][]triple{{{0, 0, 1}, {1, 0, 0}, {2, 0, 2}, {3, 0, 0}, {4, 0, 3}}})) {
		t.Errorf("without a body: %v", got)
	}
}

func TestPromise45NoPageHasNothing(t *testing.T) {
	for _, p := range manyPaged() {
		rows := partRows(p.table, 1)
		if most := len(rows) + linesOfRows(p.heights, rows) + 1; len(p.body) < 1 || len(p.body) > most {
			t.Fatalf("%v, heights %v: %d pages, no more than %d may be", p.table, p.high, len(p.body), most)
		}
		for k, page := range p.body {
			if len(page) == 0 && (len(p.body) > 1 || len(rows) > 0) {
				t.Fatalf("%v, heights %v: page %d has nothing: %v", p.table, p.high, k, p.body)
			}
		}
	}
}

func TestPromise46OnePageIfAllFits(t *testing.T) {
	for _, x := range highTables() {
		for _, width := range []int{0, 30, impl.WidMax} {
			heights := impl.HgtRows(x, width)
			all := together(heights)
			for _, high := range [][]int{{all}, {all + 1}, {impl.PagMaxHigh}, {all, 0}, {all, 0, 100}} {
				if high[0] > impl.PagMaxHigh {
					continue
				}
				if got := impl.PagBody(x, width, high); len(got) != 1 {
					t.Fatalf("%v, width %d, heights %v, rows %v: %v", x, width, high, heights, got)
				}
			}
		}
	}
	x := impl.TblTable{Head: 1, Foot: 1, Rows: []impl.TblRow{lined(1), lined(2), whole(1), lined(3)}}
	for high := range 10 {
		if got := impl.PagBody(x, 0, []int{high, 9}); (len(got) == 1) != (high >= 7) {
			t.Errorf("height %d: %v", high, got)
		}
	}
}

func TestPromise47LinesOfARow(t *testing.T) {
	for _, p := range manyPaged() {
		ofBody, ofAll := 0, 0
		for row := range p.heights {
			want := 0
			if impl.TblPart(p.table, row) == 1 {
				want = p.heights[row]
			}
			if got := impl.PagRow(p.body, row); got != want {
				t.Fatalf("%v, heights %v: row %d has %d lines, not %d, in %v", p.table, p.high, row, got, want, p.body)
			}
			if impl.TblPart(p.table, row) != 1 {
				want = p.heights[row] * len(p.all)
			}
			if got := impl.PagRow(p.all, row); got != want {
				t.Fatalf("%v, heights %v: row %d has %d lines, not %d, in %v", p.table, p.high, row, got, want, p.all)
			}
			ofBody += impl.PagRow(p.body, row)
			ofAll += impl.PagRow(p.all, row)
		}
		for _, page := range p.body {
			ofBody -= impl.PagHigh(page)
		}
		for _, page := range p.all {
			ofAll -= impl.PagHigh(page)
		}
		if ofBody != 0 || ofAll != 0 {
			t.Fatalf("%v, heights %v: all rows have %d and %d lines more than all pages", p.table, p.high, ofBody, ofAll)
		}
	}
}

func TestPromise48TheFirstPageOfARow(t *testing.T) {
	for _, p := range manyPaged() {
		for _, pages := range [][][]slice{p.body, p.all} {
			ahead := 0
			for row := range p.heights {
				got, want := impl.PagFirst(pages, row), pageWith(pages, row)
				if got != want {
					t.Fatalf("%v: row %d is first on %d, not %d", pages, row, got, want)
				}
				if impl.TblPart(p.table, row) == 1 {
					if got < ahead {
						t.Fatalf("%v: row %d is first on %d, ahead of a row above", pages, row, got)
					}
					ahead = got
				}
			}
		}
	}
}

// anyPages are pages that no table has: nothing on them, rows that come again, lines from behind, the least and greatest numbers.
func anyPages() [][][]slice {
	written := [][][]triple{
		nil, {}, {nil}, {{}, {}},
		{nil, {{3, 0, 0}}, {{3, 0, 2}}},
		{{{5, 0, 2}, {1, 4, 9}, {5, 7, 8}}, {}, {{-1, 2, 3}, {1, 0, 1}}, {{5, 0, 4}}},
		{{{-7, -3, 4}, {0, 5, 2}}, {{0, 1, 1}}},
		{{{math.MaxInt, 0, 1}, {math.MinInt, 0, 2}}, {{math.MaxInt, math.MaxInt - 3, math.MaxInt}}},
		{{{1, 0, math.MaxInt}, {1, math.MinInt, 0}, {1, math.MinInt, math.MaxInt}}, {{1, math.MaxInt, math.MinInt}}},
	}
	var list [][][]slice
	for _, lists := range written {
		list = append(list, pagesOf(lists))
	}
	return list
}

func TestPromises47And48OfAnyPages(t *testing.T) {
	for _, pages := range anyPages() {
		for _, row := range append([]int{-7, 1, 2, 3, 4, 5}, oddNumbers...) {
			lines, first := 0, -1
			for k, page := range pages {
				for _, s := range page {
					if s.Row == row && first < 0 {
						first = k
					}
					if s.Row == row {
						lines += s.To - s.From
					}
				}
			}
			if got := impl.PagRow(pages, row); got != lines {
				t.Errorf("%v: row %d has %d lines, not %d", pages, row, got, lines)
			}
			if got := impl.PagFirst(pages, row); got != first {
				t.Errorf("%v: row %d is first on %d, not %d", pages, row, got, first)
			}
		}
	}
	pages := anyPages()[5]
	if got := []int{impl.PagRow(pages, 5), impl.PagRow(pages, 1), impl.PagRow(pages, -1), impl.PagRow(pages, 2)}; !slices.Equal(got, []int{7, 6, 1, 0}) {
		t.Errorf("rows 5, 1, -1 and 2 have %v lines", got)
	}
	if got := []int{impl.PagFirst(pages, 5), impl.PagFirst(pages, -1), impl.PagFirst(pages, 2), impl.PagFirst(anyPages()[4], 3)}; !slices.Equal(got, []int{0, 2, -1, 1}) {
		t.Errorf("rows are first on %v", got)
	}
}

func TestPromise49PartsOfAPage(t *testing.T) {
	pages := slices.Concat(anyPages()...)
	for _, p := range manyPaged()[:3000] {
		pages = append(pages, p.all...)
	}
	for _, page := range pages {
		if got, want := impl.PagHigh(page), linesOn(page); got != want {
			t.Fatalf("%v is %d high, not %d", page, got, want)
		}
		for k := range len(page) + 1 {
			if got := impl.PagHigh(page[:k]) + impl.PagHigh(page[k:]); got != impl.PagHigh(page) {
				t.Fatalf("%v: parted at %d it is %d high, not %d", page, k, got, impl.PagHigh(page))
			}
		}
	}
	if got := impl.PagHigh(pageOf([]triple{{0, 0, 2}, {7, 4, 9}, {1, 3, 3}})); got != 7 {
		t.Errorf("2 and 5 and 0 lines are %d high", got)
	}
	if impl.PagHigh(nil) != 0 || impl.PagHigh([]slice{}) != 0 {
		t.Error("a page with nothing is high")
	}
}

func TestPromise50HigherPagesAreNoMore(t *testing.T) {
	fewer := 0
	for _, p := range manyPaged() {
		more := slices.Clone(p.high)
		for k := range more {
			more[k]++
		}
		got := len(impl.PagBody(p.table, p.width, more))
		if got < 1 || got > len(p.body) {
			t.Fatalf("%v, heights %v: %d pages, one more is %d", p.table, p.high, len(p.body), got)
		}
		if got < len(p.body) {
			fewer++
		}
	}
	if fewer < 1000 {
		t.Errorf("only %d times there were fewer pages", fewer)
	}
}

func TestWhatMayBePutOnPages(t *testing.T) {
	for _, x := range []impl.TblTable{exampleTable(), plainTable(1, 0, 0), {Rows: make([]impl.TblRow, 8), Head: 8}, wideTable()} {
		for _, width := range []int{0, 1, impl.WidMax} {
			for _, high := range [][]int{{0}, {1}, {impl.PagMaxHigh}, make([]int, impl.PagMax), slices.Repeat([]int{impl.PagMaxHigh}, impl.PagMax)} {
				if !impl.PagOk(x, width, high) || len(impl.PagBody(x, width, high)) == 0 || len(impl.PagAll(x, width, high)) == 0 {
					t.Errorf("%v, width %d, heights %v: it may not be put on pages", x, width, high)
				}
			}
		}
	}
}

func checkNotPaged(t *testing.T, x impl.TblTable, width int, high []int) {
	t.Helper()
	if body, all := impl.PagBody(x, width, high), impl.PagAll(x, width, high); impl.PagOk(x, width, high) || len(body) != 0 || len(all) != 0 {
		t.Errorf("%v, width %d, heights %v: it may be put on pages: %v, %v", x, width, high, body, all)
	}
}

func TestWhatMayNotBePutOnPages(t *testing.T) {
	good := []impl.TblTable{exampleTable(), plainTable(1, 0, 0), {Rows: make([]impl.TblRow, 8), Head: 8}, wideTable()}
	for _, x := range good {
		for _, width := range []int{math.MinInt, -300, -1, impl.WidMax + 1, math.MaxInt} {
			checkNotPaged(t, x, width, []int{5})
		}
		for _, high := range [][]int{nil, {}, make([]int, impl.PagMax+1), make([]int, 1000)} {
			checkNotPaged(t, x, 20, high)
		}
		for _, wrong := range []int{math.MinInt, -1, impl.PagMaxHigh + 1, math.MaxInt} {
			for _, many := range []int{1, 2, 7, impl.PagMax} {
				for at := range many {
					high := slices.Repeat([]int{9}, many)
					high[at] = wrong
					checkNotPaged(t, x, 20, high)
				}
			}
		}
	}
	for _, x := range wronglyBordered() {
		for _, width := range []int{math.MinInt, -1, 0, 50, impl.WidMax, impl.WidMax + 1} {
			checkNotPaged(t, x, width, []int{5})
			checkNotPaged(t, x, width, nil)
		}
	}
}

// spoilPages writes into all lists of pages, and behind their ends; whether that touched a page that was not written to yet.
func spoilPages(pages [][]slice) bool {
	touched := false
	for k, page := range pages {
		room := page[:cap(page)]
		for n := range room {
			room[n] = slice{Row: 77, From: 77, To: 777}
		}
		for _, behind := range pages[k+1:] {
			touched = touched || slices.Contains(behind, slice{Row: 77, From: 77, To: 777})
		}
	}
	return touched
}

func TestPagesLeaveWhatIsGiven(t *testing.T) {
	before := highTables()[:120]
	for k, x := range highTables()[:120] {
		room := []int{4, 0, 7, 55, 66}
		high := room[:3]
		if spoilPages(impl.PagBody(x, 10, high)) || spoilPages(impl.PagAll(x, 10, high)) {
			t.Fatalf("%v: two pages share memory", x)
		}
		if !reflect.DeepEqual(x, before[k]) || !slices.Equal(room, []int{4, 0, 7, 55, 66}) {
			t.Fatalf("%v became %v, the heights %v", before[k], x, room)
		}
		if got := impl.PagBody(x, 10, high); !samePages(got, plainlyBody(x, 10, high)) {
			t.Fatalf("%v: its pages were kept: %v", x, got)
		}
	}
}

func TestPagesThatAreAskedStayAsTheyAre(t *testing.T) {
	for k, pages := range anyPages() {
		for _, row := range []int{-1, 0, 1, 5} {
			impl.PagRow(pages, row)
			impl.PagFirst(pages, row)
		}
		for _, page := range pages {
			impl.PagHigh(page)
		}
		if !reflect.DeepEqual(pages, anyPages()[k]) {
			t.Errorf("%v became %v", anyPages()[k], pages)
		}
	}
}
