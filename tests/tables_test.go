package tests

import (
	"math"
	"strconv"
	"strings"
	"testing"

	"loop.example/panework/impl"
)

// oddNumbers are numbers at and beyond all bounds of tables, and those at which sums turn round.
var oddNumbers = []int{math.MinInt, math.MinInt + 1, -100, -2, -1, 0, 1, 2, 3, 4, 5, 6, 7, 8, 9, 59, 60, 61, 99, 100, 101, math.MaxInt - 1, math.MaxInt}

func plainCell() impl.TblCell {
	return impl.TblCell{Text: "a an", Cols: 1, Rows: 1}
}

// plainRows are so many rows, with so many cells each.
func plainRows(rows int, cells int) []impl.TblRow {
	list := make([]impl.TblRow, rows)
	for i := range list {
		for range cells {
			list[i].Cells = append(list[i].Cells, plainCell())
		}
	}
	return list
}

func plainTable(rows int, head int, foot int) impl.TblTable {
	return impl.TblTable{Rows: plainRows(rows, 1), Head: head, Foot: foot}
}

func TestPromise70PartsNeverFall(t *testing.T) {
	for rows := 1; rows <= impl.TblMaxRow; rows++ {
		for head := 0; head <= rows; head++ {
			for foot := 0; head+foot <= rows; foot++ {
				x := plainTable(rows, head, foot)
				last, counts := 0, [3]int{}
				for row := range rows {
					part := impl.TblPart(x, row)
					if part < last || part > 2 {
						t.Fatalf("%d rows, head %d, foot %d: row %d is in %d", rows, head, foot, row, part)
					}
					last = part
					counts[part]++
				}
				if counts != [3]int{head, rows - head - foot, foot} {
					t.Errorf("%d rows, head %d, foot %d: %v", rows, head, foot, counts)
				}
				for _, row := range []int{-1, rows, rows + 1, math.MinInt, math.MaxInt} {
					if impl.TblPart(x, row) != -1 {
						t.Errorf("%d rows, but there is a row %d", rows, row)
					}
				}
			}
		}
	}
}

func TestPartOfWhatIsNoTable(t *testing.T) {
	tables := []impl.TblTable{
		{}, plainTable(2, -1, 0), plainTable(2, 0, 3), plainTable(2, 2, 1), plainTable(9, 0, 0),
		plainTable(2, math.MaxInt, math.MaxInt), {Rows: plainRows(2, 1), Gap: 4},
	}
	for _, x := range tables {
		for row := -1; row <= 9; row++ {
			if impl.TblPart(x, row) != -1 {
				t.Errorf("%v: row %d is in %d", x, row, impl.TblPart(x, row))
			}
		}
	}
}

func TestPromise71PlainTables(t *testing.T) {
	full := impl.TblTable{Head: 3, Foot: 5, Gap: impl.TblMaxGap, Rows: plainRows(impl.TblMaxRow, impl.TblMaxIn)}
	for i := range impl.TblMaxCol {
		full.Cols = append(full.Cols, impl.TblCol{Kind: impl.ColPart, N: i + 93})
	}
	for _, x := range []impl.TblTable{full, plainTable(1, 0, 0), {Rows: make([]impl.TblRow, 1)}, {Rows: []impl.TblRow{{Whole: true}}}} {
		if !impl.TblOk(x) {
			t.Errorf("%v is none", x)
		}
	}
	if impl.TblOk(impl.TblTable{}) {
		t.Error("a table without rows is one")
	}
}

func TestPromise71HowMany(t *testing.T) {
	for n := range 20 {
		if x := plainTable(n, 0, 0); impl.TblOk(x) != (n >= 1 && n <= 8) {
			t.Errorf("%d rows: %v", n, impl.TblOk(x))
		}
		if x := (impl.TblTable{Rows: make([]impl.TblRow, n)}); impl.TblOk(x) != (n >= 1 && n <= 8) {
			t.Errorf("%d rows without cells: %v", n, impl.TblOk(x))
		}
		for at := range 3 {
			x := plainTable(3, 0, 0)
			x.Rows[at] = plainRows(1, n)[0]
			if impl.TblOk(x) != (n <= 5) {
				t.Errorf("%d cells in row %d: %v", n, at, impl.TblOk(x))
			}
		}
		x := plainTable(1, 0, 0)
		x.Cols = make([]impl.TblCol, n)
		if impl.TblOk(x) != (n <= 8) {
			t.Errorf("%d columns: %v", n, impl.TblOk(x))
		}
	}
}

func TestPromise71HeadFootGap(t *testing.T) {
	for _, a := range oddNumbers {
		x := plainTable(3, 0, 0)
		x.Gap = a
		if impl.TblOk(x) != (a == 0 || a == 1 || a == 2 || a == 3) {
			t.Errorf("gap %d: %v", a, impl.TblOk(x))
		}
		for _, b := range oddNumbers {
			small := a >= 0 && a <= 5 && b >= 0 && b <= 5
			if x := plainTable(5, a, b); impl.TblOk(x) != (small && a+b <= 5) {
				t.Errorf("5 rows, head %d, foot %d: %v", a, b, impl.TblOk(x))
			}
		}
	}
}

// plainlyColumn says what may be said of a column, kind by kind.
func plainlyColumn(kind int, n int) bool {
	auto := kind == 0 && n == 0
	fixed := kind == 1 && n >= 0 && n <= 60
	part := kind == 2 && n >= 1 && n <= 100
	return auto || fixed || part
}

func TestPromise71Columns(t *testing.T) {
	for _, kind := range oddNumbers {
		for _, n := range oddNumbers {
			for at := range 3 {
				x := plainTable(1, 0, 0)
				x.Cols = make([]impl.TblCol, 3)
				x.Cols[at] = impl.TblCol{Kind: kind, N: n}
				if impl.TblOk(x) != plainlyColumn(kind, n) {
					t.Errorf("column %d of kind %d with %d: %v", at, kind, n, impl.TblOk(x))
				}
			}
		}
	}
}

func TestPromise71AllCells(t *testing.T) {
	for row := range 3 {
		for in := range 4 {
			x := impl.TblTable{Rows: plainRows(3, 4)}
			x.Rows[row].Cells[in].Cols = impl.TblMaxSpn + 1
			if impl.TblOk(x) {
				t.Errorf("cell %d of row %d is not ok, but the table is", in, row)
			}
		}
	}
}

// plainlyBorder lists all borders.
func plainlyBorder(style int, width int) bool {
	switch style {
	case 0, 4:
		return width == 0
	case 1, 2, 3:
		return width == 1 || width == 2 || width == 3
	}
	return false
}

func TestPromise72WhatIsACell(t *testing.T) {
	for _, cols := range oddNumbers {
		for _, rows := range oddNumbers {
			want := cols >= 1 && cols <= 4 && rows >= 1 && rows <= 4
			if impl.CellOk(impl.TblCell{Cols: cols, Rows: rows}) != want {
				t.Errorf("over %d columns and %d rows: %v", cols, rows, !want)
			}
		}
	}
	for _, s := range goodTexts() {
		if !impl.CellOk(impl.TblCell{Text: s, Cols: 4, Rows: 4}) {
			t.Errorf("%q is in no cell", s)
		}
	}
	for _, s := range badTexts() {
		if impl.CellOk(impl.TblCell{Text: s, Cols: 1, Rows: 1}) {
			t.Errorf("%q is in a cell", s)
		}
	}
	if impl.CellOk(impl.TblCell{}) {
		t.Error("a cell over nothing is ok")
	}
}

func TestPromise72BordersOfACell(t *testing.T) {
	for _, style := range oddNumbers {
		for _, width := range oddNumbers {
			b := impl.BrdLine{Style: style, Width: width}
			sides := [4]impl.TblCell{plainCell(), plainCell(), plainCell(), plainCell()}
			sides[0].Top, sides[1].Right, sides[2].Bottom, sides[3].Left = b, b, b, b
			for side, c := range sides {
				if impl.CellOk(c) != plainlyBorder(style, width) {
					t.Errorf("border %v on side %d: %v", b, side, impl.CellOk(c))
				}
			}
		}
	}
}

func TestPromise73WhatIsABorder(t *testing.T) {
	for _, style := range oddNumbers {
		for _, width := range oddNumbers {
			b := impl.BrdLine{Style: style, Width: width}
			if impl.BrdOk(b) != plainlyBorder(style, width) {
				t.Errorf("%v: %v", b, impl.BrdOk(b))
			}
		}
	}
	named := []impl.BrdLine{{}, {Style: impl.BrdHidden}, {Style: impl.BrdThin, Width: 1}, {Style: impl.BrdTwin, Width: impl.BrdMax}, {Style: impl.BrdThick, Width: 2}}
	for _, b := range named {
		if !impl.BrdOk(b) {
			t.Errorf("%v is none", b)
		}
	}
}

func TestPromise74BordersWritten(t *testing.T) {
	for _, style := range oddNumbers {
		for _, width := range oddNumbers {
			b := impl.BrdLine{Style: style, Width: width}
			text := impl.BrdText(b)
			if !plainlyBorder(style, width) {
				if text != "" {
					t.Errorf("%v is written %q", b, text)
				}
				continue
			}
			if text != strconv.Itoa(style*10 + width + 100)[1:] {
				t.Errorf("%v is written %q", b, text)
			}
			if read, ok := impl.BrdRead(text); !ok || read != b {
				t.Errorf("%v, written %q, is read %v", b, text, read)
			}
		}
	}
}

func TestPromise74BordersRead(t *testing.T) {
	count := 0
	for i := range 256 * 256 {
		s := string([]byte{byte(i / 256), byte(i % 256)})
		b, ok := impl.BrdRead(s)
		if ok {
			count++
		}
		if ok && impl.BrdText(b) != s || !ok && b != (impl.BrdLine{}) {
			t.Errorf("%q is read %v", s, b)
		}
	}
	if count != 11 {
		t.Errorf("%d texts are borders", count)
	}
	wrong := []string{"", "0", "1", "000", "011", "110", " 11", "11 ", "1 1", "+1", "-1", "1-1", "41", "01", "10", "14", "50", "٠٠", strings.Repeat("1", 9999)}
	for _, s := range wrong {
		if b, ok := impl.BrdRead(s); ok || b != (impl.BrdLine{}) {
			t.Errorf("%q is read %v", s, b)
		}
	}
}

func TestCellsAreCounted(t *testing.T) {
	tables := map[int]impl.TblTable{
		0:  {},
		3:  {Head: -1, Rows: []impl.TblRow{{Cells: make([]impl.TblCell, 2)}, {}, {Cells: make([]impl.TblCell, 1)}}},
		40: {Rows: plainRows(impl.TblMaxRow, impl.TblMaxIn)},
		70: {Rows: plainRows(10, 7), Foot: math.MaxInt},
	}
	for want, x := range tables {
		if impl.TblCells(x) != want {
			t.Errorf("%d cells, but %d counted", want, impl.TblCells(x))
		}
	}
	if impl.TblCells(impl.TblTable{Rows: make([]impl.TblRow, 5)}) != 0 {
		t.Error("rows without cells have some")
	}
}
