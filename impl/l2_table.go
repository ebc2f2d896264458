package impl

import "strconv"

// Kinds of columns, styles of borders, and limits.
const (
	ColAuto   = 0
	ColFixed  = 1
	ColPart   = 2
	BrdNone   = 0
	BrdThin   = 1
	BrdTwin   = 2
	BrdThick  = 3
	BrdHidden = 4
	BrdMax    = 3
	TblMaxRow = 8
	TblMaxIn  = 5
	TblMaxCol = 8
	TblMaxSpn = 4
	TblMaxGap = 3
	ColMaxFix = 60
)

// BrdLine is a border: how it looks, how wide it is.
type BrdLine struct {
	Style int
	Width int
}

// TblCell is a cell: its text, over how many columns and rows it goes, its borders.
type TblCell struct {
	Text   string
	Cols   int
	Rows   int
	Top    BrdLine
	Right  BrdLine
	Bottom BrdLine
	Left   BrdLine
}

// TblRow is a row: its cells, and whether it is never cut.
type TblRow struct {
	Cells []TblCell
	Whole bool
}

// TblCol is what is said of a column: nothing, how wide it is, or which part of all in hundredths.
type TblCol struct {
	Kind int
	N    int
}

// TblTable is a table: what is said of columns, how many rows are its head and its foot, all rows, how much stands between columns.
type TblTable struct {
	Cols []TblCol
	Head int
	Foot int
	Rows []TblRow
	Gap  int
}

// column is what is said of a column, each kind a type of its own.
type column interface {
	number() int
}

type autoColumn struct{ n int }

type fixedColumn struct{ wide int }

type partColumn struct{ hundredths int }

func (c autoColumn) number() int { return c.n }

func (c fixedColumn) number() int { return c.wide }

func (c partColumn) number() int { return c.hundredths }

// columnOf tells the kind of a column; false, if there is no such kind.
func columnOf(c TblCol) (column, bool) {
	switch c.Kind {
	case ColAuto:
		return autoColumn{n: c.N}, true
	case ColFixed:
		return fixedColumn{wide: c.N}, true
	case ColPart:
		return partColumn{hundredths: c.N}, true
	}
	return nil, false
}

// columnBounds is from where to where the number of a column goes.
func columnBounds(c column) (int, int) {
	switch c.(type) {
	case fixedColumn:
		return 0, ColMaxFix
	case partColumn:
		return 1, 100
	}
	// Nothing is said of a column that finds its own width: its number has no choice.
	return 0, 0
}

func columnOk(c TblCol) bool {
	said, ok := columnOf(c)
	if !ok {
		return false
	}
	least, most := columnBounds(said)
	return within(said.number(), least, most)
}

func within(n int, least int, most int) bool {
	return least <= n && n <= most
}

// BrdOk says whether a border is ok.
func BrdOk(b BrdLine) bool {
	switch b.Style {
	case BrdNone, BrdHidden:
		return b.Width == 0
	case BrdThin, BrdTwin, BrdThick:
		return within(b.Width, 1, BrdMax)
	}
	return false
}

// CellOk says whether a cell is ok.
func CellOk(c TblCell) bool {
	return TxtOk(c.Text) &&
		within(c.Cols, 1, TblMaxSpn) && within(c.Rows, 1, TblMaxSpn) &&
		BrdOk(c.Top) && BrdOk(c.Right) && BrdOk(c.Bottom) && BrdOk(c.Left)
}

// TblOk says whether a table is ok.
func TblOk(t TblTable) bool {
	return within(len(t.Rows), 1, TblMaxRow) && partsOk(t) &&
		within(t.Gap, 0, TblMaxGap) && columnsOk(t.Cols) && rowsOk(t.Rows)
}

// partsOk never adds Head and Foot: their sum may be beyond what an int holds.
func partsOk(t TblTable) bool {
	return within(t.Head, 0, len(t.Rows)) && within(t.Foot, 0, len(t.Rows)-t.Head)
}

func columnsOk(cols []TblCol) bool {
	if len(cols) > TblMaxCol {
		return false
	}
	for _, c := range cols {
		if !columnOk(c) {
			return false
		}
	}
	return true
}

func rowsOk(rows []TblRow) bool {
	for _, row := range rows {
		if !rowOk(row) {
			return false
		}
	}
	return true
}

func rowOk(row TblRow) bool {
	if len(row.Cells) > TblMaxIn {
		return false
	}
	for _, c := range row.Cells {
		if !CellOk(c) {
			return false
		}
	}
	return true
}

// TblPart says in which part of a table a row is: head (0), body (1), foot (2); -1, if there is no such row.
func TblPart(t TblTable, row int) int {
	switch {
	case !TblOk(t) || !within(row, 0, len(t.Rows)-1):
		return -1
	case row < t.Head:
		return 0
	case row >= len(t.Rows)-t.Foot:
		return 2
	}
	return 1
}

// TblCells is how many cells a table has.
func TblCells(t TblTable) int {
	count := 0
	for _, row := range t.Rows {
		count += len(row.Cells)
	}
	return count
}

// BrdText writes a border.
func BrdText(b BrdLine) string {
	if !BrdOk(b) {
		return ""
	}
	return strconv.Itoa(b.Style) + strconv.Itoa(b.Width)
}

// BrdRead reads a border.
func BrdRead(s string) (BrdLine, bool) {
	if len(s) != 2 {
		return BrdLine{}, false
	}
	// A byte that is no digit gives a number that no border has.
	b := BrdLine{Style: int(s[0]) - '0', Width: int(s[1]) - '0'}
	if !BrdOk(b) {
		return BrdLine{}, false
	}
	return b, true
}
