package term

import (
	"cmp"

	"backseat/api"
	"backseat/cell"
	"backseat/grid"
)

// Modes that are set and cleared: the first one as it is, the others as private ones.
const (
	modeInsert = 4
	modeOrigin = 6
	modeWrap   = 7
	modeShown  = 25

	// The other grid is shown by each of these.
	modeOther     = 47
	modeOtherToo  = 1047
	modeOtherSave = 1049
)

// sequence is what tells control sequences apart.
type sequence struct {
	private int
	code    int
}

// controls are what control sequences do, by their params. Those that are not there do nothing.
func controls() map[sequence]func(*terminal, []int) {
	return map[sequence]func(*terminal, []int){
		{0, 'A'}:   (*terminal).up,
		{0, 'B'}:   (*terminal).down,
		{0, 'C'}:   (*terminal).right,
		{0, 'D'}:   (*terminal).left,
		{0, 'E'}:   (*terminal).nextLine,
		{0, 'F'}:   (*terminal).lineAhead,
		{0, 'G'}:   (*terminal).toCol,
		{0, 'H'}:   (*terminal).toPlace,
		{0, 'f'}:   (*terminal).toPlace,
		{0, 'd'}:   (*terminal).toRow,
		{0, 'J'}:   (*terminal).eraseScreen,
		{0, 'K'}:   (*terminal).eraseLine,
		{0, 'X'}:   (*terminal).eraseCells,
		{0, '@'}:   (*terminal).insertCells,
		{0, 'P'}:   (*terminal).deleteCells,
		{0, 'L'}:   (*terminal).insertLines,
		{0, 'M'}:   (*terminal).deleteLines,
		{0, 'S'}:   (*terminal).regionUp,
		{0, 'T'}:   (*terminal).regionDown,
		{0, 'm'}:   (*terminal).changeLook,
		{0, 'h'}:   (*terminal).setModes,
		{0, 'l'}:   (*terminal).clearModes,
		{0, 'r'}:   (*terminal).setRegion,
		{0, 's'}:   (*terminal).saveAll,
		{0, 'u'}:   (*terminal).restoreAll,
		{'?', 'h'}: (*terminal).setPrivate,
		{'?', 'l'}: (*terminal).clearPrivate,
	}
}

func (t *terminal) control(d api.Do) {
	if do, ok := t.controls[sequence{d.Private, d.Code}]; ok {
		do(t, d.Params)
	}
}

// param is a param by its number from 0 on; 0, if it is not there.
func param(params []int, i int) int {
	if i < len(params) {
		return params[i]
	}
	return 0
}

// count is a param of what is at least 1.
func count(params []int, i int) int { return cmp.Or(param(params, i), 1) }

func (t *terminal) up(params []int) { t.moveTo(t.rowAbove(count(params, 0)), t.Col) }

func (t *terminal) down(params []int) { t.moveTo(t.rowBelow(count(params, 0)), t.Col) }

func (t *terminal) right(params []int) { t.moveTo(t.Row, t.Col+count(params, 0)) }

func (t *terminal) left(params []int) { t.moveTo(t.Row, t.Col-count(params, 0)) }

func (t *terminal) nextLine(params []int) { t.moveTo(t.rowBelow(count(params, 0)), 0) }

func (t *terminal) lineAhead(params []int) { t.moveTo(t.rowAbove(count(params, 0)), 0) }

// rowAbove is n rows above, but not above Top, if it is not above it now.
func (t *terminal) rowAbove(n int) int {
	if t.Row < t.Top {
		return t.Row - n
	}
	return max(t.Row-n, t.Top)
}

// rowBelow is n rows below, but not below Bottom, if it is not below it now.
func (t *terminal) rowBelow(n int) int {
	if t.Row > t.Bottom {
		return t.Row + n
	}
	return min(t.Row+n, t.Bottom)
}

func (t *terminal) toCol(params []int) { t.moveTo(t.Row, count(params, 0)-1) }

func (t *terminal) toRow(params []int) { t.moveTo(t.rowOf(params), t.Col) }

func (t *terminal) toPlace(params []int) { t.moveTo(t.rowOf(params), count(params, 1)-1) }

// rowOf is the row that the first param tells.
func (t *terminal) rowOf(params []int) int {
	row := count(params, 0) - 1
	if t.Origin {
		return min(t.Top+row, t.Bottom)
	}
	return row
}

// What is erased, of a screen and of a line.
const (
	eraseBelow = 0 // from the place on
	eraseAbove = 1 // up to the place, and with it
	eraseAll   = 2
	eraseKept  = 3
)

func (t *terminal) eraseScreen(params []int) {
	what := param(params, 0)
	if what == eraseKept {
		t.Back.Lines = nil
		return
	}
	for row := range t.Grid.Lines {
		above := row < t.Row && (what == eraseAbove || what == eraseAll)
		below := row > t.Row && (what == eraseBelow || what == eraseAll)
		if above || below {
			t.clear(row, 0, t.Grid.Cols)
		}
	}
	t.eraseLine(params)
}

func (t *terminal) eraseLine(params []int) {
	switch param(params, 0) {
	case eraseBelow:
		t.clear(t.Row, t.Col, t.Grid.Cols)
	case eraseAbove:
		t.clear(t.Row, 0, t.Col+1)
	case eraseAll:
		t.clear(t.Row, 0, t.Grid.Cols)
	default:
		return
	}
	t.stay()
}

// clear erases a row's cells. A line that is erased to its end goes on no more.
func (t *terminal) clear(row, from, to int) {
	t.erase(row, from, to)
	if to == t.Grid.Cols {
		t.setSoft(row, false)
	}
}

func (t *terminal) eraseCells(params []int) {
	t.erase(t.Row, t.Col, min(t.Col+count(params, 0), t.Grid.Cols))
	t.stay()
}

func (t *terminal) insertCells(params []int) {
	t.insert(count(params, 0))
	t.stay()
}

func (t *terminal) deleteCells(params []int) {
	t.remove(count(params, 0))
	t.stay()
}

func (t *terminal) insertLines(params []int) {
	if t.inRegion() {
		t.linesDown(t.Row, count(params, 0))
		t.moveTo(t.Row, 0)
	}
}

func (t *terminal) deleteLines(params []int) {
	if t.inRegion() {
		t.linesUp(t.Row, count(params, 0))
		t.moveTo(t.Row, 0)
	}
}

// inRegion tells whether it stands in one of the rows that go.
func (t *terminal) inRegion() bool { return t.Top <= t.Row && t.Row <= t.Bottom }

func (t *terminal) regionUp(params []int) { t.scrollUp(count(params, 0)) }

func (t *terminal) regionDown(params []int) { t.linesDown(t.Top, count(params, 0)) }

func (t *terminal) changeLook(params []int) {
	if a, why := cell.Change(t.Look, params...); why == api.OK {
		t.Look = a
	}
}

func (t *terminal) setModes(params []int) { t.modes(params, true) }

func (t *terminal) clearModes(params []int) { t.modes(params, false) }

func (t *terminal) modes(params []int, on bool) {
	for _, n := range params {
		if n == modeInsert {
			t.Insert = on
		}
	}
}

func (t *terminal) setRegion(params []int) {
	rows := len(t.Grid.Lines)
	top := count(params, 0) - 1
	bottom := min(cmp.Or(param(params, 1), rows), rows) - 1
	if top < bottom {
		t.Top, t.Bottom = top, bottom
		t.home()
	}
}

func (t *terminal) saveAll([]int) { t.save() }

func (t *terminal) restoreAll([]int) { t.restore() }

func (t *terminal) setPrivate(params []int) { t.privateModes(params, true) }

func (t *terminal) clearPrivate(params []int) { t.privateModes(params, false) }

func (t *terminal) privateModes(params []int, on bool) {
	for _, n := range params {
		switch n {
		case modeOrigin:
			t.Origin = on
			t.home()
		case modeWrap:
			t.Wrap = on
			t.Late = t.Late && on
		case modeShown:
			t.Hide = !on
		case modeOther, modeOtherToo, modeOtherSave:
			t.showOther(on)
		}
	}
}

// showOther has the other grid be shown while the main one waits, or the main one again.
func (t *terminal) showOther(other bool) {
	if other == t.Alt {
		return
	}
	if !other {
		t.Grid, t.Main, t.Alt = t.Main, api.Grid{}, false
		t.restore()
		return
	}
	if g, why := grid.New(t.Grid.Cols, len(t.Grid.Lines)); why == api.OK {
		t.save()
		t.Grid, t.Main, t.Alt = g, t.Grid, true
		t.stay()
	}
}
