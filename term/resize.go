package term

import (
	"slices"

	"backseat/api"
	"backseat/back"
	"backseat/cell"
	"backseat/flow"
	"backseat/grid"
)

// Resize has a terminal be of another size: what was written flows to it, the other grid is cut.
func Resize(t api.Term, cols, rows int) (api.Term, api.Errno) {
	blank, why := grid.New(cols, rows)
	if why != api.OK || !Right(t) {
		return api.Term{}, api.ErrArg
	}
	if t.Alt {
		t.Main, t.Back, _ = flown(t.Main, t.Back, min(t.Saved.Row, len(t.Main.Lines)-1), blank)
		t.Grid = cut(t.Grid, blank)
	} else {
		t.Grid, t.Back, t.Row = flown(t.Grid, t.Back, t.Row, blank)
	}
	t.Row, t.Col = min(t.Row, rows-1), min(t.Col, cols-1)
	t.Top, t.Bottom, t.Late = 0, rows-1, false
	return t, api.OK
}

// flown is a main grid of the size of a blank one, and what is kept, as their lines flow; and where the row then stands.
func flown(g api.Grid, kept api.Back, row int, blank api.Grid) (api.Grid, api.Back, int) {
	lines := slices.Concat(kept.Lines, withoutEnd(g.Lines, row))
	flowed, _ := flow.Flow(lines, blank.Cols)
	up := max(0, len(flowed)-len(blank.Lines))
	anew, _ := back.Push(api.Back{Max: kept.Max}, flowed[:up]...)
	return filled(flowed[up:], blank), anew, max(0, flowedTo(lines, len(kept.Lines)+row, blank.Cols)-up)
}

// withoutEnd is lines without those at the end, and below the row, on which nothing was written.
func withoutEnd(lines []api.Line, row int) []api.Line {
	end := len(lines)
	for end-1 > row && isEmpty(lines[end-1]) {
		end--
	}
	return lines[:end]
}

func isEmpty(l api.Line) bool {
	written := func(c api.Cell) bool { return c != cell.Blank(api.Attr{}) }
	return !l.Soft && !slices.ContainsFunc(l.Cells, written)
}

// flowedTo is where the last line stands, behind the flow, of the long row that a line is in.
func flowedTo(lines []api.Line, at, cols int) int {
	rows, _ := flow.Join(lines)
	upTo, _ := flow.Join(lines[:at+1])
	last := -1
	for _, row := range rows[:len(upTo)] {
		folded, _ := flow.Fold(row, cols)
		last += len(folded)
	}
	return last
}

// filled is a grid of lines, with those of a blank grid behind them, as many as are missing.
func filled(lines []api.Line, blank api.Grid) api.Grid {
	return api.Grid{Cols: blank.Cols, Lines: slices.Concat(lines, blank.Lines[len(lines):])}
}

// cut is a grid cut to the size of a blank one.
func cut(g api.Grid, blank api.Grid) api.Grid {
	lines := make([]api.Line, 0, len(blank.Lines))
	for _, l := range g.Lines[:min(len(g.Lines), len(blank.Lines))] {
		lines = append(lines, cutLine(l, blank.Cols))
	}
	return filled(lines, blank)
}

func cutLine(l api.Line, cols int) api.Line {
	l.Cells = l.Cells[:min(len(l.Cells), cols)]
	l = grid.Mend(l)
	for len(l.Cells) < cols {
		l.Cells = append(l.Cells, cell.Blank(api.Attr{}))
	}
	return l
}
