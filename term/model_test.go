package term

import (
	"slices"
	"unicode/utf8"

	"backseat/api"
	"backseat/parse"
)

// sameLines tells whether lines are the same; a nil list is as an empty one.
func sameLines(a, b []api.Line) bool {
	return slices.EqualFunc(a, b, func(a, b api.Line) bool { return a.Soft == b.Soft && slices.Equal(a.Cells, b.Cells) })
}

func sameGrid(a, b api.Grid) bool { return a.Cols == b.Cols && sameLines(a.Lines, b.Lines) }

func sameParser(a, b api.Parser) bool {
	return a.State == b.State && a.Private == b.Private && slices.Equal(a.Params, b.Params) && a.Inter == b.Inter && a.Osc == b.Osc && a.Pend == b.Pend
}

// same tells whether terminals are the same, in all that they have.
func same(a, b api.Term) bool {
	return sameGrid(a.Grid, b.Grid) && a.Alt == b.Alt && sameGrid(a.Main, b.Main) &&
		a.Row == b.Row && a.Col == b.Col && a.Late == b.Late && a.Look == b.Look &&
		a.Top == b.Top && a.Bottom == b.Bottom && a.Saved == b.Saved &&
		a.Origin == b.Origin && a.Wrap == b.Wrap && a.Insert == b.Insert && a.Hide == b.Hide &&
		sameParser(a.Parser, b.Parser) && a.Back.Max == b.Back.Max && sameLines(a.Back.Lines, b.Back.Lines) &&
		a.Title == b.Title
}

// What follows is read from the chapter apart from the package: it changes a copy of a terminal's cells, one by one, and calls no layer but parse.

// model is a terminal as the chapter has it be.
type model struct {
	t     api.Term
	moved bool
}

func copyLines(lines []api.Line) []api.Line {
	var out []api.Line
	for _, l := range lines {
		out = append(out, api.Line{Cells: slices.Clone(l.Cells), Soft: l.Soft})
	}
	return out
}

// copyOf shares no list with the terminal.
func copyOf(t api.Term) api.Term {
	t.Grid.Lines, t.Main.Lines, t.Back.Lines = copyLines(t.Grid.Lines), copyLines(t.Main.Lines), copyLines(t.Back.Lines)
	t.Parser.Params = slices.Clone(t.Parser.Params)
	return t
}

// wantFeed is a terminal behind bytes.
func wantFeed(t api.Term, s string) api.Term {
	m := model{t: copyOf(t)}
	p, done, _ := parse.Feed(m.t.Parser, s)
	for _, d := range done {
		m.moved = false
		m.do(d)
		if m.moved {
			m.t.Late = false
		}
	}
	m.t.Parser = p
	return m.t
}

func (m *model) rows() int { return len(m.t.Grid.Lines) }

func (m *model) cells() []api.Cell { return m.t.Grid.Lines[m.t.Row].Cells }

// blank are blank cells, of the ground of the look.
func (m *model) blank(n int) []api.Cell {
	return slices.Repeat([]api.Cell{{Wide: 1, Attr: api.Attr{Bg: m.t.Look.Bg}}}, n)
}

// tidy has halves that are alone be blank, taking the cells two at a time where they are whole.
func tidy(cells []api.Cell) []api.Cell {
	var out []api.Cell
	for len(cells) > 0 {
		n := 1
		if cells[0].Wide == 2 && len(cells) > 1 && cells[1].Wide == 0 {
			n = 2
		}
		if n == 1 && cells[0].Wide != 1 {
			out = append(out, api.Cell{Wide: 1, Attr: api.Attr{Bg: cells[0].Attr.Bg}})
		} else {
			out = append(out, cells[:n]...)
		}
		cells = cells[n:]
	}
	return out
}

// lay has the row's cells from a column on be others: those that are there now, from back on, behind what comes.
func (m *model) lay(col int, come []api.Cell, back int) {
	old := m.cells()
	all := slices.Concat(old[:col], come, old[min(back, len(old)):], m.blank(len(old)))
	m.t.Grid.Lines[m.t.Row].Cells = tidy(all[:len(old)])
}

// region has the lines from one row to another be those from n below it (above, if n is below 0): those that are gone are told.
func (m *model) region(from, to, n int) []api.Line {
	lines := m.t.Grid.Lines
	come := func(n int) []api.Line {
		var out []api.Line
		for range n {
			out = append(out, api.Line{Cells: m.blank(m.t.Grid.Cols)})
		}
		return out
	}
	size := to - from + 1
	old := slices.Clone(lines[from : to+1])
	if n >= 0 {
		n = min(n, size)
		copy(lines[from:], append(slices.Clone(old[n:]), come(n)...))
		return old[:n]
	}
	n = min(-n, size)
	copy(lines[from:to+1], append(come(n), old...))
	return nil
}

func (m *model) keep(lines []api.Line) {
	if m.t.Alt || m.t.Top != 0 {
		return
	}
	all := append(slices.Clone(m.t.Back.Lines), lines...)
	m.t.Back.Lines = all[max(0, len(all)-m.t.Back.Max):]
}

func (m *model) goDown() {
	if m.t.Row == m.t.Bottom {
		m.keep(m.region(m.t.Top, m.t.Bottom, 1))
	} else if m.t.Row != m.rows()-1 {
		m.t.Row++
	}
}

func (m *model) goUp() {
	if m.t.Row == m.t.Top {
		m.region(m.t.Top, m.t.Bottom, -1)
	} else if m.t.Row != 0 {
		m.t.Row--
	}
}

func (m *model) home() {
	m.t.Row, m.t.Col, m.moved = 0, 0, true
	if m.t.Origin {
		m.t.Row = m.t.Top
	}
}

// width is how wide a letter is: of the ranges of chapter 1 those that the tests have letters of.
func width(r rune) int {
	switch {
	case r < 32, 127 <= r && r < 160:
		return -1
	case 768 <= r && r < 880, 8203 <= r && r < 8206, 65024 <= r && r < 65040:
		return 0
	case 4352 <= r && r < 4448, 0x3041 <= r && r <= 0x9fff && (r <= 19903 || r >= 19968), 0xac00 <= r && r < 55204, 0x1f300 <= r && r <= 129791:
		return 2
	}
	return 1
}

func (m *model) wrap() {
	m.t.Grid.Lines[m.t.Row].Soft = true
	m.goDown()
	m.t.Col, m.t.Late = 0, false
}

func (m *model) print(r rune) {
	w, last := width(r), m.t.Grid.Cols-1
	if w == 0 {
		m.mark(r)
	}
	if w < 1 {
		return
	}
	if m.t.Late {
		m.wrap()
	}
	if w == 2 && m.t.Col == last && (last == 0 || !m.t.Wrap) {
		return
	}
	if w == 2 && m.t.Col == last {
		m.wrap()
	}
	letter := []api.Cell{{Text: string(r), Wide: w, Attr: m.t.Look}, {Attr: m.t.Look}}[:w]
	if m.t.Insert {
		m.lay(m.t.Col, m.blank(w), m.t.Col)
	}
	m.lay(m.t.Col, letter, m.t.Col+w)
	m.t.Col += w
	if m.t.Col > last {
		m.t.Col = last
		m.t.Late = m.t.Wrap
	}
}

func (m *model) mark(r rune) {
	at := m.t.Col - 1
	if m.t.Late {
		at = m.t.Col
	}
	if at > 0 && m.cells()[at].Wide == 0 {
		at--
	}
	if at < 0 || m.cells()[at].Text == "" || len([]rune(m.cells()[at].Text)) == 3 {
		return
	}
	c := m.cells()[at]
	c.Text += string(r)
	m.cells()[at] = c
	if c.Wide == 2 {
		m.cells()[at+1] = api.Cell{Attr: c.Attr}
	}
}

func (m *model) do(d api.Do) {
	switch {
	case d.Kind == api.DPrint:
		m.print(d.Rune)
	case d.Kind == api.DExec:
		m.exec(d.Code)
	case d.Kind == api.DEsc && d.Inter == 0:
		m.escape(d.Code)
	case d.Kind == api.DCsi && d.Inter == 0 && d.Private == 0:
		m.control(d.Code, d.Params)
	case d.Kind == api.DCsi && d.Inter == 0 && d.Private == '?' && (d.Code == 'h' || d.Code == 'l'):
		for _, n := range d.Params {
			m.private(n, d.Code == 'h')
		}
	case d.Kind == api.DOsc:
		if len(d.Text) < 2 || d.Text[:2] != "0;" && d.Text[:2] != "2;" {
			return
		}
		if title := d.Text[2:]; len(title) <= 32 && utf8.ValidString(title) {
			m.t.Title = title
		}
	}
}

func (m *model) exec(code int) {
	last := m.t.Grid.Cols - 1
	m.moved = true
	switch code {
	case 8:
		m.t.Col = max(m.t.Col-1, 0)
	case 9:
		m.t.Col++
		for m.t.Col%8 != 0 {
			m.t.Col++
		}
		m.t.Col = min(m.t.Col, last)
	case 10, 11, 12:
		m.goDown()
	case 13:
		m.t.Col = 0
	default:
		m.moved = false
	}
}

func (m *model) escape(code int) {
	switch code {
	case '7':
		m.t.Saved = api.Saved{Row: m.t.Row, Col: m.t.Col, Look: m.t.Look, Origin: m.t.Origin}
	case '8':
		s := m.t.Saved
		m.t.Row, m.t.Col, m.t.Look, m.t.Origin = min(s.Row, m.rows()-1), min(s.Col, m.t.Grid.Cols-1), s.Look, s.Origin
		m.moved = true
	case 'D', 'E':
		m.goDown()
		if code == 'E' {
			m.t.Col = 0
		}
		m.moved = true
	case 'M':
		m.goUp()
		m.moved = true
	case 'c':
		m.t = api.Term{
			Grid:   api.Grid{Cols: m.t.Grid.Cols, Lines: empty(m.t.Grid.Cols, m.rows())},
			Bottom: m.rows() - 1, Wrap: true, Back: m.t.Back,
		}
	}
}

func (m *model) private(n int, on bool) {
	switch n {
	case 6:
		m.t.Origin = on
		m.home()
	case 7:
		m.t.Wrap = on
		if !on {
			m.t.Late = false
		}
	case 25:
		m.t.Hide = !on
	case 47, 1047, 1049:
		if on && !m.t.Alt {
			m.escape('7')
			m.t.Main = m.t.Grid
			m.t.Grid = api.Grid{Cols: m.t.Grid.Cols, Lines: empty(m.t.Grid.Cols, m.rows())}
			m.t.Alt, m.t.Late = true, false
		}
		if !on && m.t.Alt {
			m.t.Grid, m.t.Main, m.t.Alt = m.t.Main, api.Grid{}, false
			m.escape('8')
		}
	}
}

// blankLine has cells of a row be blank, by J or K.
func (m *model) blankLine(row, from, to int) {
	l := &m.t.Grid.Lines[row]
	all := slices.Concat(l.Cells[:from], m.blank(to-from), l.Cells[to:])
	l.Cells = tidy(all)
	if to == len(l.Cells) {
		l.Soft = false
	}
}

func (m *model) erase(p int, screen bool) {
	cols := m.t.Grid.Cols
	if p > 2 {
		return
	}
	m.moved = true
	own := [][2]int{{m.t.Col, cols}, {0, m.t.Col + 1}, {0, cols}}[p]
	m.blankLine(m.t.Row, own[0], own[1])
	for row := range m.rows() {
		if screen && (row < m.t.Row && p != 0 || row > m.t.Row && p != 1) {
			m.blankLine(row, 0, cols)
		}
	}
}

func (m *model) control(code int, params []int) {
	all := append(slices.Clone(params), 0, 0)
	p, n, k := all[0], max(all[0], 1), max(all[1], 1)
	m.moved = slices.Contains([]int{'A', 'B', 'C', 'D', 'E', 'F', 'G', 'd', 'H', 'f', 'X', '@', 'P'}, code)
	at := place{m.t.Row, m.t.Col, m.t.Top, m.t.Bottom, m.rows(), m.t.Grid.Cols, m.t.Origin}
	in := at.row >= at.top && at.row <= at.bottom
	switch code {
	case 'A', 'B', 'C', 'D', 'E', 'F', 'G', 'd', 'H', 'f':
		m.t.Row, m.t.Col = wantRow(at, rune(code), n), wantCol(at, rune(code), n, k)
	case 'J', 'K':
		if code == 'J' && p == 3 {
			m.t.Back.Lines = nil
		}
		m.erase(p, code == 'J')
	case 'X':
		m.lay(at.col, m.blank(min(n, at.cols-at.col)), at.col+n)
	case '@':
		m.lay(at.col, m.blank(min(n, at.cols)), at.col)
	case 'P':
		m.lay(at.col, nil, at.col+n)
	case 'L', 'M':
		if in && code == 'L' {
			n = -n
		}
		if in {
			m.region(at.row, at.bottom, n)
			m.t.Col, m.moved = 0, true
		}
	case 'S':
		m.keep(m.region(at.top, at.bottom, n))
	case 'T':
		m.region(at.top, at.bottom, -n)
	case 'm':
		m.t.Look = wantLook(m.t.Look, params)
	case 'h', 'l':
		if slices.Contains(params, 4) {
			m.t.Insert = code == 'h'
		}
	case 'r':
		if all[1] == 0 || all[1] > at.rows {
			all[1] = at.rows
		}
		if n < all[1] {
			m.t.Top, m.t.Bottom = n-1, all[1]-1
			m.home()
		}
	case 's':
		m.escape('7')
	case 'u':
		m.escape('8')
	}
}

// wantLook is a look behind what is asked.
func wantLook(a api.Attr, params []int) api.Attr {
	if len(params) == 0 {
		return api.Attr{}
	}
	flags := []int{0, 1, 2, 4, 8, 16, 0, 32, 64, 128}
	for i := 0; i < len(params); i++ {
		colour := &a.Fg
		n := params[i]
		if 40 <= n && n < 50 || n >= 100 {
			colour = &a.Bg
			n -= 10
		}
		switch {
		case n == 0:
			a = api.Attr{}
		case n < 10:
			a.Flags |= flags[n]
		case n == 22:
			a.Flags &^= api.Bold | api.Dim
		case 23 <= n && n < 30:
			a.Flags &^= flags[n-20]
		case 30 <= n && n < 38:
			*colour = n - 29
		case n == 38 && len(params)-i > 2 && params[i+1] == 5 && params[i+2] < 256:
			*colour = params[i+2] + 1
			i += 2
		case n == 38:
			return a
		case n == 39:
			*colour = 0
		case 90 <= n && n < 98:
			*colour = n - 81
		}
	}
	return a
}

// wantResize is a terminal of another size. The main lines are taken letter by letter, each row of them with a word on whether the row's line is in it.
func wantResize(t api.Term, cols, rows int) api.Term {
	t = copyOf(t)
	main, row := t.Grid.Lines, t.Row
	if t.Alt {
		main, row = t.Main.Lines, min(t.Saved.Row, len(t.Main.Lines)-1)
	}
	for len(main) > row+1 && !main[len(main)-1].Soft && isBlank(main[len(main)-1].Cells) {
		main = main[:len(main)-1]
	}
	lines := append(copyLines(t.Back.Lines), main...)
	row += len(t.Back.Lines)
	var out []api.Line
	var long []api.Cell
	at := -1
	for i, l := range lines {
		long = append(long, l.Cells...)
		if l.Soft && i+1 < len(lines) {
			continue
		}
		for len(long) > 0 && long[len(long)-1] == (api.Cell{Wide: 1}) {
			long = long[:len(long)-1]
		}
		out = append(out, wantFold(long, cols)...)
		long = nil
		if at < 0 && i >= row {
			at = len(out) - 1
		}
	}
	gone := max(0, len(out)-rows)
	grid := api.Grid{Cols: cols, Lines: append(out[gone:len(out):len(out)], empty(cols, max(0, rows-len(out)))...)}
	t.Back.Lines = out[max(0, gone-t.Back.Max):gone]
	if t.Alt {
		t.Main = grid
		t.Grid = wantCut(t.Grid, cols, rows)
	} else {
		t.Grid = grid
		t.Row = max(0, at-gone)
	}
	t.Row, t.Col = min(t.Row, rows-1), min(t.Col, cols-1)
	t.Top, t.Bottom, t.Late = 0, rows-1, false
	return t
}

func isBlank(cells []api.Cell) bool {
	return !slices.ContainsFunc(cells, func(c api.Cell) bool { return c != api.Cell{Wide: 1} })
}

func wantFold(long []api.Cell, cols int) []api.Line {
	out := []api.Line{{}}
	for i := 0; i < len(long); {
		w := max(1, long[i].Wide)
		letter := long[i : i+w]
		i += w
		last := &out[len(out)-1]
		if w > cols {
			continue
		}
		if len(last.Cells)+w > cols {
			last.Soft = true
			out = append(out, api.Line{})
			last = &out[len(out)-1]
		}
		last.Cells = append(last.Cells, letter...)
	}
	for i := range out {
		for len(out[i].Cells) < cols {
			out[i].Cells = append(out[i].Cells, api.Cell{Wide: 1})
		}
	}
	return out
}

func wantCut(g api.Grid, cols, rows int) api.Grid {
	out := api.Grid{Cols: cols, Lines: empty(cols, rows)}
	for i := range min(rows, len(g.Lines)) {
		cells := tidy(g.Lines[i].Cells[:min(cols, g.Cols)])
		out.Lines[i].Cells = append(cells, out.Lines[i].Cells[len(cells):]...)
		out.Lines[i].Soft = g.Lines[i].Soft
	}
	return out
}
