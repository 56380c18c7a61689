package term

import (
	"slices"
	"strings"
	"testing"

	"backseat/api"
)

// change is a terminal that is otherwise in one thing.
type change struct {
	name string
	do   func(x *api.Term)
}

// rightTerm is a terminal of 4 columns and 3 rows in which all is told; alt: while the other grid is shown.
func rightTerm(alt bool) api.Term {
	x := api.Term{
		Grid:   api.Grid{Cols: 4, Lines: empty(4, 3)},
		Row:    1,
		Col:    3,
		Late:   true,
		Look:   api.Attr{Fg: 1, Bg: 2, Flags: 3},
		Top:    0,
		Bottom: 1,
		Saved:  api.Saved{Row: 79, Col: 79, Look: api.Attr{Fg: 256}, Origin: true},
		Wrap:   true,
		Parser: api.Parser{State: api.SOsc, Osc: "2;a"},
		Back:   api.Back{Max: 2, Lines: []api.Line{{Cells: cells("abc")}, {Cells: cells("de")}}},
		Title:  "abc",
	}
	if alt {
		x.Alt, x.Main = true, api.Grid{Cols: 4, Lines: empty(4, 3)}
	}
	return x
}

// onlyRow has the grid have one line.
func onlyRow(x *api.Term) {
	x.Grid.Lines = x.Grid.Lines[:1]
	if x.Alt {
		x.Main.Lines = x.Main.Lines[:1]
	}
	x.Row = 0
}

// checkRight holds what Right tells against what it should.
func checkRight(t *testing.T, want bool, changes []change) {
	t.Helper()
	for _, alt := range []bool{false, true} {
		for _, c := range changes {
			x := copyOf(rightTerm(alt))
			c.do(&x)
			if Right(x) != want {
				t.Errorf("%s (alt %v): %v", c.name, alt, !want)
			}
			y, why := Feed(x, "a")
			z, whySize := Resize(x, 5, 2)
			switch {
			case want && (why != api.OK || whySize != api.OK || !Right(y) || !Right(z)):
				t.Errorf("%s (alt %v): %d %d", c.name, alt, why, whySize)
			case !want && (why != api.ErrArg || whySize != api.ErrArg || !same(y, api.Term{}) || !same(z, api.Term{})):
				t.Errorf("%s (alt %v): %d %d, %s %s", c.name, alt, why, whySize, text(y), text(z))
			}
			if _, why := Feed(x, ""); want != (why == api.OK) {
				t.Errorf("%s (alt %v), of no bytes: %d", c.name, alt, why)
			}
		}
	}
}

// P9.1: what may be, at its bounds.
func TestRight(t *testing.T) {
	checkRight(t, true, []change{
		{"as it is", func(x *api.Term) {}},
		{"at 0 and 0", func(x *api.Term) { x.Row, x.Col, x.Late = 0, 0, false }},
		{"the last row", func(x *api.Term) { x.Row = 2 }},
		{"not full", func(x *api.Term) { x.Late = false }},
		{"not full, nor Wrap", func(x *api.Term) { x.Late, x.Wrap = false, false }},
		{"all rows go", func(x *api.Term) { x.Bottom = 2 }},
		{"the last two rows go", func(x *api.Term) { x.Top, x.Bottom = 1, 2 }},
		{"one row", func(x *api.Term) { onlyRow(x); x.Bottom = 0 }},
		{"saved at 0 and 0", func(x *api.Term) { x.Saved = api.Saved{} }},
		{"the greatest looks", func(x *api.Term) { x.Look = api.Attr{Fg: 256, Bg: 256, Flags: 255}; x.Saved.Look = x.Look }},
		{"all modes", func(x *api.Term) { x.Origin, x.Insert, x.Hide = true, true, true }},
		{"nothing is kept", func(x *api.Term) { x.Back = api.Back{} }},
		{"40 lines are kept", func(x *api.Term) {
			x.Back = api.Back{Max: 40, Lines: slices.Repeat([]api.Line{{Cells: empty(80, 1)[0].Cells}}, 40)}
		}},
		{"no title", func(x *api.Term) { x.Title = "" }},
		{"a title of 32 bytes", func(x *api.Term) { x.Title = strings.Repeat("\u00e4", 16) }},
		{"a title of controls", func(x *api.Term) { x.Title = "\x00\x1b\x7f\u0085" }},
		{"a letter's beginning", func(x *api.Term) { x.Parser = api.Parser{Pend: "\xe4\xb8"} }},
		{"Main's lines nil, or none", func(x *api.Term) {
			if !x.Alt {
				x.Main.Lines = []api.Line{}
			}
		}},
		{"a wide letter", func(x *api.Term) {
			x.Grid.Lines[0].Cells[2] = api.Cell{Text: wide, Wide: 2}
			x.Grid.Lines[0].Cells[3] = api.Cell{}
		}},
	})
	for _, size := range [][2]int{{1, 1}, {80, 1}, {1, 50}, {80, 50}} {
		x := newTerm(t, size[0], size[1], 40)
		x.Row, x.Col = size[1]-1, size[0]-1
		if x.Late = true; !Right(x) {
			t.Error(size)
		}
	}
}

// wrongParts are terminals of which one part may not be.
func wrongParts() []change {
	return []change{
		{"a look below", func(x *api.Term) { x.Look.Fg = -1 }},
		{"a look above", func(x *api.Term) { x.Look.Bg = 257 }},
		{"flags above", func(x *api.Term) { x.Look.Flags = 256 }},
		{"a saved look below", func(x *api.Term) { x.Saved.Look.Fg = -1 }},
		{"a saved look above", func(x *api.Term) { x.Saved.Look.Bg = 257 }},
		{"saved flags above", func(x *api.Term) { x.Saved.Look.Flags = 256 }},
		{"a saved row below", func(x *api.Term) { x.Saved.Row = -1 }},
		{"a saved row above", func(x *api.Term) { x.Saved.Row = 80 }},
		{"a saved column below", func(x *api.Term) { x.Saved.Col = -1 }},
		{"a saved column above", func(x *api.Term) { x.Saved.Col = 80 }},
		{"a saved row far above", func(x *api.Term) { x.Saved.Row = highest }},
		{"a parser's state", func(x *api.Term) { x.Parser.State = 9 }},
		{"a parser with more", func(x *api.Term) { x.Parser.Params = []int{1} }},
		{"a parser's text", func(x *api.Term) { x.Parser.Osc = strings.Repeat("x", 65) }},
		{"more kept than Max", func(x *api.Term) { x.Back.Max = 1 }},
		{"Max below", func(x *api.Term) { x.Back = api.Back{Max: -1} }},
		{"Max above", func(x *api.Term) { x.Back.Max = 41 }},
		{"a kept line of nothing", func(x *api.Term) { x.Back.Lines[0].Cells = nil }},
		{"a kept line of 81 cells", func(x *api.Term) { x.Back.Lines[1].Cells = empty(81, 1)[0].Cells }},
		{"a kept half", func(x *api.Term) { x.Back.Lines[1].Cells[0].Wide = 0 }},
		{"a title of 33 bytes", func(x *api.Term) { x.Title = strings.Repeat("x", 33) }},
		{"a title of no letters", func(x *api.Term) { x.Title = "a\xff" }},
		{"a title cut short", func(x *api.Term) { x.Title = "\xe4\xb8" }},
	}
}

// wrongPlaces are terminals of which the grids, the place, or the rows that go may not be.
func wrongPlaces() []change {
	return []change{
		{"zero", func(x *api.Term) { *x = api.Term{} }},
		{"no columns", func(x *api.Term) { x.Grid.Cols = 0 }},
		{"a column less", func(x *api.Term) { x.Grid.Cols = 3 }},
		{"a column more", func(x *api.Term) { x.Grid.Cols = 5 }},
		{"no lines", func(x *api.Term) { x.Grid.Lines = nil }},
		{"51 lines", func(x *api.Term) { x.Grid.Lines = empty(4, 51) }},
		{"81 columns", func(x *api.Term) { x.Grid = api.Grid{Cols: 81, Lines: empty(81, 3)} }},
		{"a short line", func(x *api.Term) { x.Grid.Lines[2].Cells = x.Grid.Lines[2].Cells[:3] }},
		{"half a letter", func(x *api.Term) { x.Grid.Lines[2].Cells[0] = api.Cell{Text: wide, Wide: 2} }},
		{"a cell's look", func(x *api.Term) { x.Grid.Lines[2].Cells[0].Attr.Fg = 257 }},
		{"a row below", func(x *api.Term) { x.Row = -1 }},
		{"a row above", func(x *api.Term) { x.Row = 3 }},
		{"a row far above", func(x *api.Term) { x.Row = highest }},
		{"a row far below", func(x *api.Term) { x.Row = lowest }},
		{"a column below", func(x *api.Term) { x.Col, x.Late = -1, false }},
		{"a column above", func(x *api.Term) { x.Col, x.Late = 4, false }},
		{"a column above, full", func(x *api.Term) { x.Col = 4 }},
		{"full, not Wrap", func(x *api.Term) { x.Wrap = false }},
		{"full, not at the last column", func(x *api.Term) { x.Col = 2 }},
		{"full at the first one", func(x *api.Term) { x.Col = 0 }},
		{"Top below", func(x *api.Term) { x.Top = -1 }},
		{"Top far below", func(x *api.Term) { x.Top = lowest }},
		{"Top is Bottom", func(x *api.Term) { x.Top = 1 }},
		{"Top is Bottom, 0", func(x *api.Term) { x.Bottom = 0 }},
		{"Top above Bottom", func(x *api.Term) { x.Top = 2 }},
		{"Bottom above", func(x *api.Term) { x.Bottom = 3 }},
		{"Bottom below", func(x *api.Term) { x.Bottom = -1 }},
		{"Bottom far above", func(x *api.Term) { x.Bottom = highest }},
		{"Bottom above, of one row", func(x *api.Term) { onlyRow(x); x.Bottom = 1 }},
		{"both above, of one row", func(x *api.Term) { onlyRow(x); x.Top, x.Bottom = 1, 1 }},
		{"both below, of one row", func(x *api.Term) { onlyRow(x); x.Top, x.Bottom = -1, -1 }},
		{"Top below, of one row", func(x *api.Term) { onlyRow(x); x.Top, x.Bottom = -1, 0 }},
		{"Alt otherwise", func(x *api.Term) { x.Alt = !x.Alt }},
		{"Main of other columns", func(x *api.Term) { x.Main.Cols++ }},
		{"Main of another line", func(x *api.Term) { x.Main.Lines = append(x.Main.Lines, empty(4, 1)...) }},
		{"Main of fewer columns", func(x *api.Term) { x.Main = api.Grid{Cols: 3, Lines: empty(3, 3)} }},
		{"Main of more columns", func(x *api.Term) { x.Main = api.Grid{Cols: 5, Lines: empty(5, 3)} }},
		{"Main of fewer lines", func(x *api.Term) { x.Main = api.Grid{Cols: 4, Lines: empty(4, 2)} }},
		{"Main of more lines", func(x *api.Term) { x.Main = api.Grid{Cols: 4, Lines: empty(4, 4)} }},
		{"half a letter in Main", func(x *api.Term) {
			x.Main = api.Grid{Cols: 4, Lines: empty(4, 3)}
			x.Main.Lines[1].Cells[1].Wide = 0
		}},
		{"Main has columns alone", func(x *api.Term) { x.Main = api.Grid{Cols: 4} }},
		{"Main has lines alone", func(x *api.Term) { x.Main = api.Grid{Lines: empty(4, 3)} }},
	}
}

// P9.1, P9.2: what may not be is told by Right, Feed and Resize, by each field.
func TestWrongTerminals(t *testing.T) {
	checkRight(t, false, wrongParts())
	checkRight(t, false, wrongPlaces())
}

// P9.2: sizes that a grid may not have.
func TestWrongSizes(t *testing.T) {
	sizes := []int{lowest, -1 << 32, -4, -1, 0, 1, 4, 50, 51, 80, 81, 1 << 32, 1<<32 + 1, highest}
	for _, alt := range []bool{false, true} {
		x := rightTerm(alt)
		for _, cols := range sizes {
			for _, rows := range sizes {
				y, why := Resize(x, cols, rows)
				if cols < 1 || cols > 80 || rows < 1 || rows > 50 {
					if why != api.ErrArg || !same(y, api.Term{}) {
						t.Errorf("%d, %d: %d %s", cols, rows, why, text(y))
					}
				} else if want := wantResize(x, cols, rows); why != api.OK || !same(y, want) {
					t.Errorf("%d, %d: %d %s", cols, rows, why, text(y))
				}
			}
		}
	}
}

// P1: no call panics, whatever is wrong with a terminal, also with much of it.
func TestWrongInAll(t *testing.T) {
	wrong := slices.Concat(wrongParts(), wrongPlaces())
	d := dice(7)
	for range 2000 {
		x := copyOf(rightTerm(d.roll(2) == 0))
		for range 1 + d.roll(4) {
			func() {
				defer func() { _ = recover() }() // a change may ask for what another one took
				pick(&d, wrong).do(&x)
			}()
		}
		s := randomBytes(&d, tokens(), 5)
		y, why := Feed(x, s)
		z, whySize := Resize(x, d.roll(100)-10, d.roll(60)-5)
		if !Right(x) && (why != api.ErrArg || whySize != api.ErrArg || !same(y, api.Term{}) || !same(z, api.Term{})) {
			t.Fatalf("%d %d", why, whySize)
		}
	}
}
