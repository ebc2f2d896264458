package tests

import (
	"reflect"
	"slices"
	"strings"
	"testing"

	"loop.example/panework/impl"
)

// rolledEdited are many tables that are ok, with texts, borders and columns; those at edges ahead of them.
func rolledEdited() []impl.TblTable {
	list := editedTables()
	d := &dice{state: 18}
	for range 400 {
		list = append(list, bordered(d, filled(d, rolledTable(d)), risingBorders()))
	}
	return list
}

// eachCell calls for each cell of a table with its row and place.
func eachCell(x impl.TblTable, call func(row int, at int, c impl.TblCell)) {
	for row := range x.Rows {
		for at, c := range x.Rows[row].Cells {
			call(row, at, c)
		}
	}
}

func eachSpan(call func(cols int, rows int)) {
	for cols := 1; cols <= impl.TblMaxSpn; cols++ {
		for rows := 1; rows <= impl.TblMaxSpn; rows++ {
			call(cols, rows)
		}
	}
}

func TestPromise18ACellAtTheEndTurnsNoPlace(t *testing.T) {
	asked := 0
	for _, x := range append(rolledEdited(), goodTables()[:300]...) {
		last := len(x.Rows) - 1
		at := len(x.Rows[last].Cells)
		if at == impl.TblMaxIn {
			continue
		}
		places := impl.GrdOf(x).Cells
		eachSpan(func(cols int, rows int) {
			y, ok := impl.EdtPut(x, last, at, spans(cols, rows))
			now := impl.GrdOf(y).Cells
			if !ok || len(now) != len(places)+1 || !slices.Equal(now[:len(places)], places) {
				t.Fatalf("%v: with one more over %d columns and %d rows cells are at %v, not %v", x, cols, rows, now, places)
			}
			if c := now[len(places)]; c.Row != last || c.In != at || c.Cols != cols || c.Rows != 1 {
				t.Fatalf("%v: the one over %d columns and %d rows is at %v", x, cols, rows, c)
			}
			asked++
		})
	}
	if asked < 5000 {
		t.Errorf("only %d cells were put", asked)
	}
}

// singleTables are tables whose cells go over one column and row each, and of whose columns nothing is said.
func singleTables() []impl.TblTable {
	var list []impl.TblTable
	for k, x := range narrowTables()[:400] {
		for row := range x.Rows {
			for at := range x.Rows[row].Cells {
				x.Rows[row].Cells[at].Rows = 1
			}
		}
		// Nothing is said of a column, too, where it is said that it finds its own width.
		x.Cols = make([]impl.TblCol, []int{0, 0, len(x.Cols)}[k%3])
		list = append(list, x)
	}
	return list
}

func TestPromise29ATextOfThirtyLetters(t *testing.T) {
	asked := 0
	for _, x := range singleTables() {
		least := impl.ColLeast(x)
		eachCell(x, func(row int, at int, c impl.TblCell) {
			y, ok := impl.EdtText(x, row, at, strings.Repeat("q", 30))
			want := slices.Clone(least)
			// The longest word there was may have been that of this very cell: no other column knows of it.
			want[at] = 30
			if got := impl.ColLeast(y); !ok || !slices.Equal(got, want) {
				t.Fatalf("%v: with 30 letters in row %d at %d: %v, not %v", x, row, at, got, want)
			}
			asked++
		})
	}
	if asked < 2000 {
		t.Errorf("only %d texts were turned", asked)
	}
}

func TestPromise38AWordOfOneLetterMore(t *testing.T) {
	higher, same, full := 0, 0, 0
	for _, x := range singleTables() {
		least, high := impl.ColLeast(x), impl.HgtRows(x, 0)
		eachCell(x, func(row int, at int, c impl.TblCell) {
			if c.Text == "" {
				return
			}
			y, ok := impl.EdtText(x, row, at, c.Text+" a")
			if len(c.Text) > impl.TxtMax-2 {
				full++
				if ok || !sameTable(x, y) {
					t.Fatalf("%v: %q has a word more", x, c.Text)
				}
				return
			}
			now := impl.HgtRows(y, 0)
			if !ok || !slices.Equal(impl.ColLeast(y), least) {
				t.Fatalf("%v: with a word more in row %d at %d columns are %v, not %v", x, row, at, impl.ColLeast(y), least)
			}
			for k := range high {
				if now[k] < high[k] || k != row && now[k] != high[k] {
					t.Fatalf("%v: with a word more in row %d at %d row %d is %d high, not %d", x, row, at, k, now[k], high[k])
				}
			}
			if now[row] > high[row] {
				higher++
			} else {
				same++
			}
		})
	}
	if higher < 100 || same < 100 || full < 20 {
		t.Errorf("only %d rows became higher, %d did not, and %d texts were full", higher, same, full)
	}
}

func TestPromise56WhatIsPutIsTaken(t *testing.T) {
	asked := 0
	for _, x := range rolledEdited() {
		for row := range x.Rows {
			for at := range len(x.Rows[row].Cells) + 1 {
				if len(x.Rows[row].Cells) == impl.TblMaxIn {
					continue
				}
				put, fits := impl.EdtPut(x, row, at, fullCell())
				if !fits || put.Rows[row].Cells[at] != fullCell() {
					t.Fatalf("%v: put into row %d at %d: %v", x, row, at, put)
				}
				if back, ok := impl.EdtTake(put, row, at); !ok || !sameTable(back, x) {
					t.Fatalf("%v: put into row %d at %d, and taken: %v", x, row, at, back)
				}
				asked++
			}
		}
	}
	if asked < 3000 {
		t.Errorf("only %d cells were put", asked)
	}
}

func TestPromise57WhatIsTakenIsPut(t *testing.T) {
	asked := 0
	for _, x := range rolledEdited() {
		eachCell(x, func(row int, at int, c impl.TblCell) {
			taken, fits := impl.EdtTake(x, row, at)
			if !fits || impl.TblCells(taken) != impl.TblCells(x)-1 {
				t.Fatalf("%v: taken out of row %d at %d: %v", x, row, at, taken)
			}
			if back, ok := impl.EdtPut(taken, row, at, c); !ok || !sameTable(back, x) {
				t.Fatalf("%v: taken out of row %d at %d, and put: %v", x, row, at, back)
			}
			asked++
		})
	}
	if asked < 3000 {
		t.Errorf("only %d cells were taken", asked)
	}
}

func TestPromise58ATextAndBack(t *testing.T) {
	texts := []string{"", "z", "lighthouse over", strings.Repeat("q", impl.TxtMax)}
	for k, x := range rolledEdited() {
		grid := impl.GrdOf(x)
		eachCell(x, func(row int, at int, c impl.TblCell) {
			s := texts[(k+row+at)%len(texts)]
			y, fits := impl.EdtText(x, row, at, s)
			if !fits || y.Rows[row].Cells[at].Text != s || !reflect.DeepEqual(impl.GrdOf(y), grid) {
				t.Fatalf("%v: %q in row %d at %d: %v", x, s, row, at, y)
			}
			if back, ok := impl.EdtText(y, row, at, c.Text); !ok || !sameTable(back, x) {
				t.Fatalf("%v: %q in row %d at %d, and back: %v", x, s, row, at, back)
			}
			y.Rows[row].Cells[at].Text = c.Text
			if !sameTable(y, x) {
				t.Fatalf("%v: %q in row %d at %d turned more than the text: %v", x, s, row, at, y)
			}
		})
	}
}

func TestPromise59ASpanAndBack(t *testing.T) {
	for _, x := range rolledEdited()[:250] {
		eachCell(x, func(row int, at int, c impl.TblCell) {
			eachSpan(func(cols int, rows int) {
				y, fits := impl.EdtSpan(x, row, at, cols, rows)
				if !fits {
					t.Fatalf("%v: row %d at %d over %d columns and %d rows", x, row, at, cols, rows)
				}
				g := impl.GrdOf(y)
				own := g.Cells[impl.GrdFind(g, row, at)]
				if own.Cols != cols || own.Rows != min(rows, rowsInPart(x, row)) {
					t.Fatalf("%v: row %d at %d over %d columns and %d rows is at %v", x, row, at, cols, rows, own)
				}
				if back, ok := impl.EdtSpan(y, row, at, c.Cols, c.Rows); !ok || !sameTable(back, x) {
					t.Fatalf("%v: row %d at %d over %d columns and %d rows, and back: %v", x, row, at, cols, rows, back)
				}
			})
		})
	}
}

func TestPromise60ARowInTheBody(t *testing.T) {
	asked, bare := 0, 0
	for _, x := range rolledEdited() {
		for at := x.Head; at <= len(x.Rows)-x.Foot && len(x.Rows) < impl.TblMaxRow; at++ {
			y, ok := impl.EdtRow(x, at)
			if !ok || len(y.Rows) != len(x.Rows)+1 || impl.TblPart(y, at) != 1 || !sameRow(y.Rows[at], impl.TblRow{}) {
				t.Fatalf("%v: a row at %d: %v", x, at, y)
			}
			if x.Head+x.Foot == len(x.Rows) {
				bare++
			}
			for row := range x.Rows {
				now := row
				if row >= at {
					now++
				}
				if !sameRow(y.Rows[now], x.Rows[row]) || impl.TblPart(y, now) != impl.TblPart(x, row) {
					t.Fatalf("%v: with a row at %d row %d is %v", x, at, row, y.Rows[now])
				}
			}
			y.Rows = slices.Delete(y.Rows, at, at+1)
			if !sameTable(y, x) {
				t.Fatalf("%v: a row at %d turned more than rows: %v", x, at, y)
			}
			asked++
		}
	}
	if asked < 500 || bare < 20 {
		t.Errorf("only %d rows were put, %d of them into tables without a body", asked, bare)
	}
}

func TestRowsOfHeadAndFoot(t *testing.T) {
	for rows := 1; rows < impl.TblMaxRow; rows++ {
		for head := range rows + 1 {
			for foot := range rows - head + 1 {
				x := plainTable(rows, head, foot)
				for at := -1; at <= rows+1; at++ {
					y, ok := impl.EdtRow(x, at)
					if want := at >= head && at <= rows-foot; ok != want || ok == sameTable(y, x) {
						t.Errorf("%d rows, head %d, foot %d: a row at %d: %v, %v", rows, head, foot, at, y, ok)
					}
				}
			}
		}
	}
}
