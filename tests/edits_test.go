package tests

import (
	"fmt"
	"math"
	"reflect"
	"slices"
	"strings"
	"testing"

	"loop.example/panework/impl"
)

// edit is one of the program's edits with all that is given to it but the table, and what the document's words make of a table that is ok.
type edit struct {
	name string
	do   func(impl.TblTable) (impl.TblTable, bool)
	want func(impl.TblTable) (impl.TblTable, bool)
}

// copied is a table in memory of its own, list by list.
func copied(x impl.TblTable) impl.TblTable {
	x.Cols = append([]impl.TblCol{}, x.Cols...)
	rows := x.Rows
	x.Rows = nil
	for _, row := range rows {
		x.Rows = append(x.Rows, impl.TblRow{Cells: append([]impl.TblCell{}, row.Cells...), Whole: row.Whole})
	}
	return x
}

func sameRow(a impl.TblRow, b impl.TblRow) bool {
	return a.Whole == b.Whole && slices.Equal(a.Cells, b.Cells)
}

// sameTable takes an empty list and none as the same.
func sameTable(a impl.TblTable, b impl.TblTable) bool {
	return a.Head == b.Head && a.Foot == b.Foot && a.Gap == b.Gap && slices.Equal(a.Cols, b.Cols) && slices.EqualFunc(a.Rows, b.Rows, sameRow)
}

func hasRowAt(x impl.TblTable, row int) bool {
	return row >= 0 && row < len(x.Rows)
}

func hasCellAt(x impl.TblTable, row int, at int) bool {
	return hasRowAt(x, row) && at >= 0 && at < len(x.Rows[row].Cells)
}

// recelled is a table in which a row has other cells: of each place of it, and of that behind its end, so many as change tells.
func recelled(x impl.TblTable, row int, change func(at int, own []impl.TblCell) []impl.TblCell) impl.TblTable {
	y := copied(x)
	var cells []impl.TblCell
	own := x.Rows[row].Cells
	for at := range len(own) + 1 {
		cells = append(cells, change(at, own[at:min(at+1, len(own))])...)
	}
	y.Rows[row].Cells = cells
	return y
}

func putting(row int, at int, c impl.TblCell) edit {
	return edit{
		name: fmt.Sprintf("put %v into row %d at %d", c, row, at),
		do:   func(x impl.TblTable) (impl.TblTable, bool) { return impl.EdtPut(x, row, at, c) },
		want: func(x impl.TblTable) (impl.TblTable, bool) {
			if !impl.CellOk(c) || !hasRowAt(x, row) || len(x.Rows[row].Cells) >= 5 || at < 0 || at > len(x.Rows[row].Cells) {
				return copied(x), false
			}
			return recelled(x, row, func(k int, own []impl.TblCell) []impl.TblCell {
				if k == at {
					return append([]impl.TblCell{c}, own...)
				}
				return own
			}), true
		},
	}
}

// turning is an edit of the cell at a place: into others, if that fits.
func turning(name string, row int, at int, fits bool, do func(impl.TblTable) (impl.TblTable, bool), into func(impl.TblCell) []impl.TblCell) edit {
	return edit{name: fmt.Sprintf("%s row %d at %d", name, row, at), do: do, want: func(x impl.TblTable) (impl.TblTable, bool) {
		if !fits || !hasCellAt(x, row, at) {
			return copied(x), false
		}
		return recelled(x, row, func(k int, own []impl.TblCell) []impl.TblCell {
			if k == at {
				return into(own[0])
			}
			return own
		}), true
	}}
}

func taking(row int, at int) edit {
	do := func(x impl.TblTable) (impl.TblTable, bool) { return impl.EdtTake(x, row, at) }
	return turning("take", row, at, true, do, func(impl.TblCell) []impl.TblCell { return nil })
}

func texting(row int, at int, s string) edit {
	do := func(x impl.TblTable) (impl.TblTable, bool) { return impl.EdtText(x, row, at, s) }
	return turning(fmt.Sprintf("text %q", s), row, at, plainlyText(s), do, func(c impl.TblCell) []impl.TblCell {
		c.Text = s
		return []impl.TblCell{c}
	})
}

func spanning(row int, at int, cols int, rows int) edit {
	do := func(x impl.TblTable) (impl.TblTable, bool) { return impl.EdtSpan(x, row, at, cols, rows) }
	fits := cols >= 1 && cols <= 4 && rows >= 1 && rows <= 4
	return turning(fmt.Sprintf("span %d columns and %d rows", cols, rows), row, at, fits, do, func(c impl.TblCell) []impl.TblCell {
		c.Cols, c.Rows = cols, rows
		return []impl.TblCell{c}
	})
}

func addingRow(at int) edit {
	return edit{
		name: fmt.Sprintf("row at %d", at),
		do:   func(x impl.TblTable) (impl.TblTable, bool) { return impl.EdtRow(x, at) },
		want: func(x impl.TblTable) (impl.TblTable, bool) {
			y := copied(x)
			if at < x.Head || at > len(x.Rows)-x.Foot || len(x.Rows) >= 8 {
				return y, false
			}
			y.Rows = slices.Concat(y.Rows[:at], make([]impl.TblRow, 1), y.Rows[at:])
			return y, true
		},
	}
}

func dragging(width int, col int, by int) edit {
	return edit{
		name: fmt.Sprintf("drag column %d by %d, width %d", col, by, width),
		do:   func(x impl.TblTable) (impl.TblTable, bool) { return impl.EdtDrag(x, width, col, by) },
		want: func(x impl.TblTable) (impl.TblTable, bool) {
			if width < 0 || width > 300 {
				return impl.TblTable{}, false
			}
			y := copied(x)
			if col < 0 || col >= len(x.Cols) || by < -60 || by > 60 {
				return y, false
			}
			n := plainlyCols(x, width)[col] + by
			if n < 0 || n > 60 {
				return y, false
			}
			y.Cols[col].Kind, y.Cols[col].N = impl.ColFixed, n
			return y, true
		},
	}
}

// fullCell is a cell of which all is said, at its bounds.
func fullCell() impl.TblCell {
	return impl.TblCell{
		Text: "the lighthouse over the meadow", Cols: impl.TblMaxSpn, Rows: impl.TblMaxSpn,
		Top: impl.BrdLine{Style: impl.BrdThin, Width: 1}, Right: impl.BrdLine{Style: impl.BrdTwin, Width: 2},
		Bottom: impl.BrdLine{Style: impl.BrdThick, Width: 3}, Left: impl.BrdLine{Style: impl.BrdHidden},
	}
}

// wrongCells are cells that are not ok, each for one thing.
func wrongCells() []impl.TblCell {
	list := slices.Repeat([]impl.TblCell{fullCell()}, 10)
	list[0].Text = "a  b"
	list[1].Text = strings.Repeat("q", impl.TxtMax+1)
	list[2].Cols = 0
	list[3].Cols = impl.TblMaxSpn + 1
	list[4].Rows = 0
	list[5].Rows = math.MaxInt
	list[6].Top.Width = 4
	list[7].Right.Style = 5
	list[8].Bottom.Width = 0
	list[9].Left.Width = 1
	return append(list, impl.TblCell{})
}

// placesUpTo are all places up to one, the two about them, and the least and greatest numbers.
func placesUpTo(last int) []int {
	list := []int{math.MinInt, -1, last + 1, math.MaxInt}
	for at := range last + 1 {
		list = append(list, at)
	}
	return list
}

// placedEdits are edits of cells at a place of a row.
func placedEdits(row int, at int) []edit {
	list := []edit{
		putting(row, at, spans(1, 1)), putting(row, at, fullCell()), taking(row, at),
		texting(row, at, ""), texting(row, at, "of"), texting(row, at, strings.Repeat("q", impl.TxtMax)),
		spanning(row, at, 1, 1), spanning(row, at, 4, 4), spanning(row, at, 1, 4), spanning(row, at, 3, 2),
	}
	for _, wrong := range []int{math.MinInt, -1, 0, 5, math.MaxInt} {
		list = append(list, spanning(row, at, wrong, 2), spanning(row, at, 2, wrong), spanning(row, at, wrong, wrong))
	}
	for _, c := range wrongCells() {
		list = append(list, putting(row, at, c))
	}
	for _, s := range []string{" ", "a ", "a  b", "A", strings.Repeat("q", impl.TxtMax+1), "a\x00"} {
		list = append(list, texting(row, at, s))
	}
	return list
}

// editsOf are edits of a table, at all its places and beyond them: those that fit, and those that do not.
func editsOf(x impl.TblTable) []edit {
	var list []edit
	for _, row := range placesUpTo(len(x.Rows)) {
		list = append(list, addingRow(row))
		many := 0
		if hasRowAt(x, row) {
			many = len(x.Rows[row].Cells)
		}
		for _, at := range placesUpTo(many) {
			list = append(list, placedEdits(row, at)...)
		}
	}
	for _, col := range placesUpTo(len(x.Cols)) {
		for _, by := range []int{math.MinInt, -61, -60, -7, 0, 7, 60, 61, math.MaxInt} {
			for _, width := range []int{math.MinInt, -1, 0, 40, impl.WidMax, impl.WidMax + 1, math.MaxInt} {
				list = append(list, dragging(width, col, by))
			}
		}
	}
	return list
}

// edgeTables are tables at the bounds that edits meet.
func edgeTables() []impl.TblTable {
	list := []impl.TblTable{
		{Rows: make([]impl.TblRow, 1)}, {Rows: []impl.TblRow{{Whole: true}}},
		{Rows: plainRows(1, impl.TblMaxIn-1)}, {Rows: plainRows(2, impl.TblMaxIn)},
		{Rows: plainRows(1, 1), Head: 1}, {Rows: plainRows(1, 1), Foot: 1}, {Rows: plainRows(2, 1), Head: 1, Foot: 1},
		wideTable(),
	}
	for _, rows := range []int{3, impl.TblMaxRow - 1, impl.TblMaxRow} {
		list = append(list,
			plainTable(rows, 0, 0), plainTable(rows, rows, 0), plainTable(rows, 0, rows), plainTable(rows, 1, rows-1),
			plainTable(rows, 1, 1), plainTable(rows, 1, 0), plainTable(rows, 0, 1))
	}
	return list
}

// editedTables are tables that are ok, with texts, borders and columns: those at edges, and some that are rolled.
func editedTables() []impl.TblTable {
	list := append(edgeTables(), filledTables()[:10]...)
	d := &dice{state: 11}
	for range 70 {
		list = append(list, bordered(d, filled(d, rolledTable(d)), risingBorders()))
	}
	return list
}

func TestEditsFollowTheWords(t *testing.T) {
	fitted, others := 0, 0
	for _, x := range editedTables() {
		for _, e := range editsOf(x) {
			want, fits := e.want(x)
			got, ok := e.do(x)
			if ok != fits || !sameTable(got, want) {
				t.Fatalf("%v\n%s: %v and %v,\nnot %v and %v", x, e.name, got, ok, want, fits)
			}
			if ok {
				fitted++
			} else {
				others++
			}
			if ok && !impl.TblOk(got) {
				t.Fatalf("%v\n%s: %v, that is not ok", x, e.name, got)
			}
		}
	}
	if fitted < 5000 || others < 5000 {
		t.Errorf("only %d edits fitted, and %d did not", fitted, others)
	}
}

func TestEditsOfWhatIsNoTable(t *testing.T) {
	none := impl.TblTable{}
	edits := editsOf(impl.TblTable{Rows: plainRows(2, 2), Cols: make([]impl.TblCol, 2)})
	for _, x := range wronglyBordered() {
		for _, e := range edits {
			if got, ok := e.do(x); ok || !sameTable(got, none) {
				t.Fatalf("%v is not ok, but %s: %v and %v", x, e.name, got, ok)
			}
		}
	}
}

func TestEditsWrittenOut(t *testing.T) {
	a, b, c := worded("a", 1), worded("b", 2), worded("c", 1)
	x := impl.TblTable{Head: 1, Foot: 1, Gap: 1, Cols: []impl.TblCol{{Kind: impl.ColPart, N: 9}}, Rows: rowsOf([]impl.TblCell{a, b}, []impl.TblCell{c}, nil)}
	with := func(rows ...[]impl.TblCell) impl.TblTable {
		y := x
		y.Rows = rowsOf(rows...)
		return y
	}
	said := func(n int) impl.TblTable {
		y := x
		y.Cols = []impl.TblCol{{Kind: impl.ColFixed, N: n}}
		return y
	}
	one, two := []impl.TblCell{a, b}, []impl.TblCell{c}
	cases := []struct {
		edit edit
		want impl.TblTable
		fits bool
	}{
		{putting(0, 0, c), with([]impl.TblCell{c, a, b}, two, nil), true},
		{putting(0, 1, c), with([]impl.TblCell{a, c, b}, two, nil), true},
		{putting(0, 2, c), with([]impl.TblCell{a, b, c}, two, nil), true},
		{putting(0, 3, c), x, false},
		{putting(2, 0, b), with(one, two, []impl.TblCell{b}), true},
		{putting(2, 1, b), x, false},
		{putting(3, 0, b), x, false},
		{putting(1, 0, worded("B", 1)), x, false},
		{taking(0, 0), with([]impl.TblCell{b}, two, nil), true},
		{taking(0, 1), with([]impl.TblCell{a}, two, nil), true},
		{taking(1, 0), with(one, nil, nil), true},
		{taking(0, 2), x, false},
		{taking(2, 0), x, false},
		{texting(0, 1, "a an"), with([]impl.TblCell{a, worded("a an", 2)}, two, nil), true},
		{texting(1, 0, ""), with(one, []impl.TblCell{worded("", 1)}, nil), true},
		{texting(1, 0, "a "), x, false},
		{spanning(0, 0, 4, 1), with([]impl.TblCell{worded("a", 4), b}, two, nil), true},
		{spanning(0, 0, 5, 1), x, false},
		{addingRow(0), x, false},
		{addingRow(1), with(one, nil, two, nil), true},
		{addingRow(2), with(one, two, nil, nil), true},
		{addingRow(3), x, false},
		{dragging(3, 0, 4), said(5), true},
		{dragging(3, 0, -1), said(0), true},
		{dragging(3, 0, -2), x, false},
		{dragging(3, 1, 4), x, false},
		{dragging(301, 0, 4), impl.TblTable{}, false},
	}
	for _, c := range cases {
		if got, ok := c.edit.do(x); ok != c.fits || !sameTable(got, c.want) {
			t.Errorf("%s: %v and %v, not %v", c.edit.name, got, ok, c.want)
		}
	}
}

func TestRowsThatAreFull(t *testing.T) {
	for many := range impl.TblMaxIn + 1 {
		x := impl.TblTable{Rows: plainRows(2, many)}
		for at := range many + 1 {
			y, ok := impl.EdtPut(x, 1, at, fullCell())
			if ok != (many < 5) || impl.TblCells(y) != impl.TblCells(x)+[]int{1, 1, 1, 1, 1, 0}[many] {
				t.Errorf("%d cells, one more at %d: %v, %v", many, at, y, ok)
			}
		}
	}
	for many := 1; many <= impl.TblMaxRow; many++ {
		for at := range many + 1 {
			y, ok := impl.EdtRow(plainTable(many, 0, 0), at)
			if ok != (many < 8) || len(y.Rows) != []int{2, 3, 4, 5, 6, 7, 8, 8}[many-1] {
				t.Errorf("%d rows, one more at %d: %v, %v", many, at, y, ok)
			}
		}
	}
}

// spacious is a table in lists with room behind their ends, in which a mark stands.
type spacious struct {
	table impl.TblTable
	cols  []impl.TblCol
	rows  []impl.TblRow
	cells [][]impl.TblCell
}

var (
	markedCol  = impl.TblCol{Kind: 77, N: 77}
	markedCell = impl.TblCell{Text: "marked", Cols: 77, Rows: 77}
)

func spaciousOf(x impl.TblTable) spacious {
	s := spacious{table: copied(x)}
	s.cols = append(slices.Clone(x.Cols), markedCol, markedCol)
	s.table.Cols = s.cols[:len(x.Cols)]
	for row := range x.Rows {
		cells := append(slices.Clone(x.Rows[row].Cells), markedCell, markedCell)
		s.cells = append(s.cells, cells)
		s.table.Rows[row].Cells = cells[:len(cells)-2]
	}
	marked := impl.TblRow{Cells: []impl.TblCell{markedCell}, Whole: true}
	s.rows = append(s.table.Rows, marked, marked)
	s.table.Rows = s.rows[:len(x.Rows)]
	return s
}

// spoilTable writes into all lists of a table, and behind their ends; whether that touched a list that was not written to yet.
func spoilTable(x impl.TblTable) bool {
	touched := false
	for n := range x.Cols[:cap(x.Cols)] {
		x.Cols[:cap(x.Cols)][n] = markedCol
	}
	for row := range x.Rows {
		room := x.Rows[row].Cells[:cap(x.Rows[row].Cells)]
		for n := range room {
			room[n] = markedCell
		}
		for _, below := range x.Rows[row+1:] {
			touched = touched || slices.Contains(below.Cells, markedCell)
		}
	}
	for n := range x.Rows[:cap(x.Rows)] {
		x.Rows[:cap(x.Rows)][n] = impl.TblRow{Cells: []impl.TblCell{markedCell}, Whole: true}
	}
	return touched
}

func TestEditsLeaveTheTable(t *testing.T) {
	for _, x := range editedTables()[:60] {
		s, before := spaciousOf(x), spaciousOf(x)
		for k, e := range editsOf(x) {
			got, ok := e.do(s.table)
			if spoilTable(got) {
				t.Fatalf("%v\n%s: two rows share memory", x, e.name)
			}
			if k%16 == 0 && !reflect.DeepEqual(s, before) {
				t.Fatalf("%v\n%s, or one ahead: became %v", before, e.name, s)
			}
			want, _ := e.want(x)
			if again, still := e.do(s.table); still != ok || !sameTable(again, want) {
				t.Fatalf("%v\n%s: %v and %v when asked again", x, e.name, again, still)
			}
		}
		if !reflect.DeepEqual(s, before) {
			t.Fatalf("%v became %v", before, s)
		}
	}
}

// What is done to the table behind an edit does not turn what the edit answered.
func TestWhatIsEditedIsItsOwn(t *testing.T) {
	for _, x := range editedTables()[:60] {
		for k, e := range editsOf(x) {
			if k%5 > 0 {
				continue
			}
			s := spaciousOf(x)
			got, _ := e.do(s.table)
			spoilTable(s.table)
			if want, _ := e.want(x); !sameTable(got, want) {
				t.Fatalf("%v\n%s: became %v", x, e.name, got)
			}
		}
	}
}
