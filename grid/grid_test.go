package grid

import (
	"reflect"
	"slices"
	"strings"
	"testing"

	"backseat/api"
	"backseat/cell"
)

const (
	lowest  = -1 << 63
	highest = 1<<63 - 1
)

// Lines are written out here cell by cell, with a blank between each two: a cell is what it has and its ground, a digit: "a1" a letter, "W2" to "Z2" a wide one, "_2" a right half, ".3" a blank cell. "+" at the end: the line is Soft.

// inked is the look of what is no blank cell, of that ground.
func inked(bg int) api.Attr { return api.Attr{Fg: 7, Bg: bg, Flags: api.Bold | api.Strike} }

// ground is a look of which a blank cell has Bg alone.
func ground(bg int) api.Attr { return api.Attr{Fg: 200, Bg: bg, Flags: 255} }

func wideLetter(name byte) string { return string(rune(0x4e00) + rune(name)) }

func cellOf(word string) api.Cell {
	bg := int(word[1] - '0')
	switch name := word[0]; {
	case name == '.':
		return api.Cell{Wide: 1, Attr: api.Attr{Bg: bg}}
	case name == '_':
		return api.Cell{Attr: inked(bg)}
	case 'W' <= name && name <= 'Z':
		return api.Cell{Text: wideLetter(name), Wide: 2, Attr: inked(bg)}
	default:
		return api.Cell{Text: string(name), Wide: 1, Attr: inked(bg)}
	}
}

func lineOf(text string) api.Line {
	var l api.Line
	for _, word := range strings.Fields(text) {
		if word == "+" {
			l.Soft = true
			continue
		}
		l.Cells = append(l.Cells, cellOf(word))
	}
	return l
}

// gridOf is a grid of lines that are written out, with "/" between each two.
func gridOf(text string) api.Grid {
	var g api.Grid
	for part := range strings.SplitSeq(text, "/") {
		g.Lines = append(g.Lines, lineOf(part))
	}
	g.Cols = len(g.Lines[0].Cells)
	return g
}

// sameLines tells whether lines are the same; a nil list is as an empty one.
func sameLines(a, b []api.Line) bool {
	return slices.EqualFunc(a, b, func(a, b api.Line) bool { return a.Soft == b.Soft && slices.Equal(a.Cells, b.Cells) })
}

func same(a, b api.Grid) bool { return a.Cols == b.Cols && sameLines(a.Lines, b.Lines) }

func isNothing(g api.Grid) bool { return g.Cols == 0 && len(g.Lines) == 0 }

// copyOf shares no list with the grid.
func copyOf(g api.Grid) api.Grid {
	g.Lines = slices.Clone(g.Lines)
	for i := range g.Lines {
		g.Lines[i].Cells = slices.Clone(g.Lines[i].Cells)
	}
	return g
}

// deed is a call but for its grid.
type deed func(api.Grid) (api.Grid, api.Errno)

func put(row, col int, c api.Cell) deed {
	return func(g api.Grid) (api.Grid, api.Errno) { return Put(g, row, col, c) }
}

func putWord(row, col int, word string) deed { return put(row, col, cellOf(word)) }

func eraseBy(row, from, to int, a api.Attr) deed {
	return func(g api.Grid) (api.Grid, api.Errno) { return Erase(g, row, from, to, a) }
}

func insert(row, col, n int, a api.Attr) deed {
	return func(g api.Grid) (api.Grid, api.Errno) { return Insert(g, row, col, n, a) }
}

func remove(row, col, n int, a api.Attr) deed {
	return func(g api.Grid) (api.Grid, api.Errno) { return Delete(g, row, col, n, a) }
}

func soft(row int, on bool) deed {
	return func(g api.Grid) (api.Grid, api.Errno) { return Soft(g, row, on) }
}

func down(top, bottom, n int, a api.Attr) deed {
	return func(g api.Grid) (api.Grid, api.Errno) { return Down(g, top, bottom, n, a) }
}

// up is Up but for the lines that are gone. Lines beside an error are a fault: they make it one that no call tells.
func up(top, bottom, n int, a api.Attr) deed {
	return func(g api.Grid) (api.Grid, api.Errno) {
		g, gone, why := Up(g, top, bottom, n, a)
		if why != api.OK && len(gone) > 0 {
			why = api.ErrLine
		}
		return g, why
	}
}

// is checks what a call makes of a grid, and that the grid stays as it was.
func is(t *testing.T, from api.Grid, do deed, want api.Grid) {
	t.Helper()
	ahead := copyOf(from)
	if got, why := do(from); !same(got, want) || why != api.OK {
		t.Errorf("of %v: %v %d, want %v", from, got, why, want)
	}
	if !same(from, ahead) {
		t.Errorf("%v was changed to %v", ahead, from)
	}
}

// wrong checks that a call tells an error, with a zero grid beside it, and that the grid stays as it was.
func wrong(t *testing.T, from api.Grid, do deed, want api.Errno) {
	t.Helper()
	ahead := copyOf(from)
	if got, why := do(from); !isNothing(got) || why != want {
		t.Errorf("of %v: %v %d, want %d", from, got, why, want)
	}
	if !same(from, ahead) {
		t.Errorf("%v was changed to %v", ahead, from)
	}
}

func TestExample(t *testing.T) {
	is(t, gridOf("W1 _1"), putWord(0, 1, "x5"), gridOf(".1 x5"))
}

// P6.1: each size about the bounds.
func TestNew(t *testing.T) {
	sizes := []int{lowest, -81, -1, 0, 1, 2, 24, 49, 50, 51, 79, 80, 81, 256, 1 << 32, 1<<32 + 1, highest}
	for _, cols := range sizes {
		for _, rows := range sizes {
			g, why := New(cols, rows)
			if cols < 1 || cols > 80 || rows < 1 || rows > 50 {
				if why != api.ErrArg || !isNothing(g) {
					t.Errorf("New(%d, %d): %v %d", cols, rows, g, why)
				}
				continue
			}
			line := api.Line{Cells: slices.Repeat([]api.Cell{{Wide: 1}}, cols)}
			want := api.Grid{Cols: cols, Lines: slices.Repeat([]api.Line{line}, rows)}
			if why != api.OK || !same(g, want) || !Right(g) {
				t.Errorf("New(%d, %d): %v %d", cols, rows, g, why)
			}
		}
	}
}

// P6.1: lines of so many cells, and of others.
func TestFits(t *testing.T) {
	for _, text := range []string{"", "a1", ".0", ".9", "W1 _2", "a1 .2 W3 _3", "W1 _1 X2 _2", "W1 _1 a1 X2 _2 + ", "b1 b1 b1 +"} {
		l := lineOf(text)
		for cols := -2; cols < 9; cols++ {
			if got := Fits(l, cols); got != (cols == len(l.Cells)) {
				t.Errorf("%q, %d: %v", text, cols, got)
			}
		}
		for _, cols := range []int{lowest, highest, len(l.Cells) + 1<<32} {
			if Fits(l, cols) {
				t.Errorf("%q, %d", text, cols)
			}
		}
	}
	for _, text := range []string{"_1", "W1", "W1 a2", "a1 W2", "a1 _2", "_1 a2", "_1 W2", "W1 W2 _2", "W1 _1 _1", "_1 _1", "W1 _1 W1", "W1 .1 _1", "W1 _1 a1 _1", "a1 _1 W1"} {
		if l := lineOf(text); Fits(l, len(l.Cells)) {
			t.Errorf("%q", text)
		}
	}
	for _, cols := range []int{80, 81, 200, 16000, 1 << 16} {
		for _, c := range []string{"a1", ".0", "W1 _1"} {
			l := api.Line{Cells: slices.Repeat(lineOf(c).Cells, cols)}
			if n := len(l.Cells); !Fits(l, n) || Fits(l, n-1) || Fits(l, n+1) {
				t.Errorf("%d cells of %q", n, c)
			}
		}
	}
}

// badCells are cells that may not be.
func badCells() []api.Cell {
	all := []api.Cell{
		{Text: "a"}, {Text: "a", Wide: 2}, {Text: "a", Wide: 3}, {Text: "a", Wide: -1}, {Text: "ab", Wide: 1}, {Text: "a\u0301\u0301\u0301", Wide: 1}, {Text: "a\xff", Wide: 1},
		{Text: "一"}, {Text: "一", Wide: 1}, {Text: "一", Wide: 3}, {Text: "一一", Wide: 2},
		{Wide: 2}, {Wide: 3}, {Wide: -1}, {Wide: lowest}, {Wide: highest}, {Wide: 1 << 32},
		{Text: "\u0301"}, {Text: "\u0301", Wide: 1}, {Text: "\x1b", Wide: 1}, {Text: "\x85", Wide: 1}, {Text: "\xc3", Wide: 1},
	}
	for _, a := range badLooks() {
		all = append(all, api.Cell{Text: "a", Wide: 1, Attr: a}, api.Cell{Text: "一", Wide: 2, Attr: a}, api.Cell{Wide: 1, Attr: a}, api.Cell{Attr: a})
	}
	return all
}

// badLooks are looks that may not be.
func badLooks() []api.Attr {
	var all []api.Attr
	for _, n := range []int{-1, 257, 512, lowest, highest} {
		all = append(all, api.Attr{Fg: n}, api.Attr{Bg: n}, api.Attr{Flags: n})
	}
	return append(all, api.Attr{Flags: 256}, api.Attr{Fg: 3, Bg: -1, Flags: 1}, api.Attr{Fg: -1, Bg: 3, Flags: 1})
}

// P6.1: a cell that may not be, at each place, as it is and as half of a letter.
func TestFitsBadCells(t *testing.T) {
	for _, bad := range badCells() {
		for i := range 3 {
			l := lineOf("a1 b2 c3")
			l.Cells[i] = bad
			if Fits(l, 3) {
				t.Errorf("%v at %d", bad, i)
			}
			l = lineOf("W1 _1 a2")
			l.Cells[i] = bad
			if Fits(l, 3) {
				t.Errorf("%v at %d", bad, i)
			}
		}
	}
}

// badGrids are grids that may not be, by each field.
func badGrids() []api.Grid {
	cells := func(n int) []api.Cell { return slices.Repeat([]api.Cell{{Wide: 1}}, n) }
	lines := func(cols, rows int) []api.Line { return slices.Repeat([]api.Line{{Cells: cells(cols)}}, rows) }
	all := []api.Grid{
		{}, {Cols: 1}, {Cols: 80, Lines: []api.Line{}}, {Cols: 3, Lines: lines(3, 51)}, {Cols: 80, Lines: lines(80, 51)}, {Cols: 1, Lines: lines(1, 200)},
		{Lines: lines(0, 1)}, {Lines: lines(0, 50)}, {Lines: lines(1, 1)}, {Cols: -1, Lines: lines(1, 1)}, {Cols: -3, Lines: lines(3, 3)}, {Cols: 81, Lines: lines(81, 1)}, {Cols: 200, Lines: lines(200, 5)},
		{Cols: 2, Lines: lines(3, 3)}, {Cols: 4, Lines: lines(3, 3)}, {Cols: 3 + 1<<32, Lines: lines(3, 3)}, {Cols: lowest, Lines: lines(3, 3)}, {Cols: highest, Lines: lines(3, 3)}, {Cols: 3, Lines: lines(0, 3)},
		{Cols: 80, Lines: lines(81, 1)}, {Cols: 81, Lines: lines(80, 1)}, {Cols: 1, Lines: lines(0, 1)},
	}
	for i := range 3 {
		for _, l := range []string{"", "a1", "a1 b2", "a1 b2 c3 d4", "W1 a2 b3", "a1 b2 W3", "_1 a2 b3", "W1 _1 _1", "W1 X2 _2", "a1 _2 W3"} {
			g := gridOf("a1 b2 c3/W4 _4 d5 +/.6 X7 _7")
			g.Lines[i] = lineOf(l)
			all = append(all, g)
		}
	}
	for _, bad := range badCells() {
		for i := range 3 {
			g := gridOf("a1 b2 c3/d4 e5 f6/g7 h8 i9")
			g.Lines[i].Cells[2-i] = bad
			all = append(all, g)
		}
	}
	return all
}

// P6.1: which grids may be.
func TestRight(t *testing.T) {
	for _, text := range []string{"a1", ".0", "a1/.2/c3 +", "W1 _1", "W1 _2/a3 .4", "a1 W2 _2 b3/.1 .2 .3 .4/W1 _1 X2 _2 +"} {
		if !Right(gridOf(text)) {
			t.Errorf("%q", text)
		}
	}
	for _, cols := range []int{1, 2, 79, 80} {
		for _, rows := range []int{1, 2, 49, 50} {
			line := api.Line{Cells: slices.Repeat([]api.Cell{cellOf("a1")}, cols), Soft: true}
			if !Right(api.Grid{Cols: cols, Lines: slices.Repeat([]api.Line{line}, rows)}) {
				t.Errorf("%d columns, %d lines", cols, rows)
			}
		}
	}
	for _, g := range badGrids() {
		if Right(g) {
			t.Errorf("%v", g)
		}
	}
}

// P6.1: lines that were cut in half.
func TestMend(t *testing.T) {
	for text, want := range map[string]string{
		"":                     "",
		"a1 .2 b3":             "a1 .2 b3",
		"W1 _2 a3":             "W1 _2 a3",
		"W1":                   ".1",
		"_1":                   ".1",
		"_1 a2":                ".1 a2",
		"a1 _2":                "a1 .2",
		"a1 W2":                "a1 .2",
		"W1 a2":                ".1 a2",
		"W1 .2 _3":             ".1 .2 .3",
		"W1 X2 _3":             ".1 X2 _3",
		"W1 _2 _3":             "W1 _2 .3",
		"_1 W2 _3":             ".1 W2 _3",
		"W1 W2 W3":             ".1 .2 .3",
		"_1 _2 _3 +":           ".1 .2 .3 +",
		"W1 _2 _3 X4 Y5 _6 a7": "W1 _2 .3 .4 Y5 _6 a7",
		"_1 W2 X3 _4 _5 Y6 +":  ".1 .2 X3 _4 .5 .6 +",
	} {
		for _, on := range []string{"", " +"} {
			l, mended := lineOf(text+on), lineOf(want+on)
			ahead := slices.Clone(l.Cells)
			if got := Mend(l); !sameLines([]api.Line{got}, []api.Line{mended}) {
				t.Errorf("%q: %v, want %v", text, got, mended)
			}
			if !slices.Equal(l.Cells, ahead) {
				t.Errorf("%q was changed", text)
			}
			if got := Mend(mended); !sameLines([]api.Line{got}, []api.Line{mended}) {
				t.Errorf("%q, mended again: %v", text, got)
			}
		}
	}
}

// P6.1: whatever the line is: cells that may not be stay, but for halves without their other one.
func TestMendWhatever(t *testing.T) {
	odd := api.Attr{Fg: -4, Bg: highest, Flags: 999}
	blank := api.Cell{Wide: 1, Attr: api.Attr{Bg: highest}}
	for _, wide := range []int{lowest, -2, -1, 1, 3, 4, highest, 1 << 32, 1<<32 + 2} {
		l := api.Line{Cells: []api.Cell{{Text: "\xff", Wide: wide, Attr: odd}, {Wide: wide, Attr: odd}}}
		if got := Mend(l); !slices.Equal(got.Cells, l.Cells) {
			t.Errorf("%v: %v", l, got)
		}
		l.Cells = append(l.Cells, api.Cell{Text: "x", Wide: 0, Attr: odd}, api.Cell{Text: "ab", Wide: 2, Attr: odd}, api.Cell{Text: "z", Wide: wide, Attr: odd})
		want := slices.Clone(l.Cells)
		want[2], want[3] = blank, blank
		if got := Mend(l); !slices.Equal(got.Cells, want) {
			t.Errorf("%v: %v", l, got)
		}
	}
	l := api.Line{Cells: []api.Cell{{Text: "ab", Wide: 2, Attr: odd}, {Text: "c", Attr: odd}, {Wide: 2}, {Text: "c"}}, Soft: true}
	if got := Mend(l); !reflect.DeepEqual(got, l) {
		t.Errorf("%v: %v", l, got)
	}
}

// P6.2: letters at each end of a line, and on each half of a wide one.
func TestPut(t *testing.T) {
	for _, c := range []struct {
		from string
		col  int
		put  string
		want string
	}{
		{"a1", 0, "x9", "x9"},
		{"a1 b2 c3", 0, "x9", "x9 b2 c3"},
		{"a1 b2 c3 +", 1, "x9", "a1 x9 c3 +"},
		{"a1 b2 c3", 2, "x9", "a1 b2 x9"},
		{".1 .2", 1, "x0", ".1 x0"},
		{"W1 _2 a3", 0, "x9", "x9 .2 a3"},
		{"W1 _2 a3", 1, "x9", ".1 x9 a3"},
		{"a1 W2 _3 +", 2, "x9", "a1 .2 x9 +"},
		{"a1 b2", 0, "X9", "X9 _9"},
		{"a1 b2 c3", 1, "X9", "a1 X9 _9"},
		{"W1 _2 a3", 0, "X9", "X9 _9 a3"},
		{"W1 _2 a3", 1, "X9", ".1 X9 _9"},
		{"a1 W2 _3", 0, "X9", "X9 _9 .3"},
		{"W1 _2 X3 _4 +", 1, "Y9", ".1 Y9 _9 .4 +"},
		{"W1 _2 X3 _4", 1, "y9", ".1 y9 X3 _4"},
		{"W1 _2 X3 _4", 2, "y9", "W1 _2 y9 .4"},
	} {
		is(t, gridOf(c.from), putWord(0, c.col, c.put), gridOf(c.want))
	}
	marked := api.Cell{Text: "e\u0301\u200d", Wide: 1, Attr: api.Attr{Fg: 256, Bg: 256, Flags: 255}}
	want := gridOf("a1 b2")
	want.Lines[0].Cells[1] = marked
	is(t, gridOf("a1 b2"), put(0, 1, marked), want)
	blank := api.Cell{Text: " ", Wide: 1}
	want.Lines[0].Cells[1] = blank
	is(t, gridOf("a1 b2"), put(0, 1, blank), want)
}

// P6.2: a wide letter at the last column, and errors that come ahead of that.
func TestPutNoRoom(t *testing.T) {
	for _, text := range []string{"a1", "a1 b2 c3", "a1 W2 _2", "W1 _2 a3 b4 +"} {
		g := gridOf(text)
		wrong(t, g, putWord(0, g.Cols-1, "X9"), api.ErrRoom)
		wrong(t, g, putWord(0, g.Cols, "X9"), api.ErrArg)
		wrong(t, g, putWord(1, g.Cols-1, "X9"), api.ErrArg)
		wrong(t, g, put(0, g.Cols-1, api.Cell{Text: "一", Wide: 2, Attr: api.Attr{Fg: 257}}), api.ErrArg)
		wrong(t, g, put(0, g.Cols-1, api.Cell{Text: "a", Wide: 2}), api.ErrArg)
		wrong(t, g, put(0, g.Cols-1, api.Cell{Wide: 2}), api.ErrArg)
		g.Cols++
		wrong(t, g, putWord(0, g.Cols-1, "X9"), api.ErrArg)
	}
	full, _ := New(80, 50)
	wrong(t, full, putWord(49, 79, "X9"), api.ErrRoom)
	if g, why := Put(full, 49, 78, cellOf("X9")); why != api.OK || g.Lines[49].Cells[79] != cellOf("_9") {
		t.Error(g, why)
	}
}

// P6.2: cells that may not be put.
func TestPutWrong(t *testing.T) {
	g := gridOf("a1 b2 c3/d4 e5 f6")
	for _, c := range append(badCells(), cellOf(".1"), cellOf("_1"), api.Cell{}, api.Cell{Wide: 1}) {
		for col := range 3 {
			wrong(t, g, put(1, col, c), api.ErrArg)
		}
	}
}

// P6.2: from and to alike, 0 and Cols, and through the middle of a wide letter.
func TestErase(t *testing.T) {
	for _, c := range []struct {
		from string
		a, b int
		want string
	}{
		{"a1", 0, 0, "a1"},
		{"a1", 1, 1, "a1"},
		{"a1", 0, 1, ".9"},
		{"a1 b2 c3 +", 0, 3, ".9 .9 .9 +"},
		{"a1 b2 c3 +", 0, 0, "a1 b2 c3 +"},
		{"a1 b2 c3", 1, 1, "a1 b2 c3"},
		{"a1 b2 c3", 3, 3, "a1 b2 c3"},
		{"a1 b2 c3", 0, 1, ".9 b2 c3"},
		{"a1 b2 c3", 1, 2, "a1 .9 c3"},
		{"a1 b2 c3", 2, 3, "a1 b2 .9"},
		{"W1 _2 a3", 1, 1, "W1 _2 a3"},
		{"W1 _2 a3", 0, 1, ".9 .2 a3"},
		{"W1 _2 a3", 1, 2, ".1 .9 a3"},
		{"W1 _2 a3", 0, 2, ".9 .9 a3"},
		{"W1 _2 X3 _4 +", 1, 3, ".1 .9 .9 .4 +"},
		{"W1 _2 X3 _4", 3, 4, "W1 _2 .3 .9"},
	} {
		is(t, gridOf(c.from), eraseBy(0, c.a, c.b, ground(9)), gridOf(c.want))
	}
	g := gridOf("a1 b2 c3")
	for _, ends := range [][2]int{{-1, 0}, {-1, 3}, {0, 4}, {3, 4}, {4, 4}, {1, 0}, {3, 2}, {3, 0}, {-2, -1}, {-1, -1}, {0, -1}, {0, lowest}, {0, highest}, {lowest, 0}, {highest, 0}, {lowest, highest}, {highest, highest}, {highest, lowest}} {
		wrong(t, g, eraseBy(0, ends[0], ends[1], ground(9)), api.ErrArg)
	}
}

// P6.2: Soft on and off, on a line that is and one that is not.
func TestSoft(t *testing.T) {
	g := gridOf("a1 b2/W3 _3 +/c4 .5 +")
	is(t, g, soft(0, true), gridOf("a1 b2 +/W3 _3 +/c4 .5 +"))
	is(t, g, soft(0, false), g)
	is(t, g, soft(1, true), g)
	is(t, g, soft(1, false), gridOf("a1 b2/W3 _3/c4 .5 +"))
	is(t, g, soft(2, false), gridOf("a1 b2/W3 _3 +/c4 .5"))
}

// upIs checks what goes up, and what is gone.
func upIs(t *testing.T, from string, top, bottom, n int, want, gone string) {
	t.Helper()
	g := gridOf(from)
	is(t, g, up(top, bottom, n, ground(9)), gridOf(want))
	var lines []api.Line
	if gone != "" {
		lines = gridOf(gone).Lines
	}
	if _, got, why := Up(g, top, bottom, n, ground(9)); !sameLines(got, lines) || why != api.OK {
		t.Errorf("of %q, %d to %d by %d: gone are %v, want %v", from, top, bottom, n, got, lines)
	}
}

// P6.3: up by 0, by 1, by as many as there are, and by more; top and bottom alike.
func TestUp(t *testing.T) {
	from := "a1 b1 +/W2 _2/c3 d3 +/.4 e4/f5 g5 +"
	upIs(t, from, 0, 4, 0, from, "")
	upIs(t, from, 0, 4, 1, "W2 _2/c3 d3 +/.4 e4/f5 g5 +/.9 .9", "a1 b1 +")
	upIs(t, from, 0, 4, 4, "f5 g5 +/.9 .9/.9 .9/.9 .9/.9 .9", "a1 b1 +/W2 _2/c3 d3 +/.4 e4")
	upIs(t, from, 1, 3, 1, "a1 b1 +/c3 d3 +/.4 e4/.9 .9/f5 g5 +", "W2 _2")
	upIs(t, from, 1, 3, 2, "a1 b1 +/.4 e4/.9 .9/.9 .9/f5 g5 +", "W2 _2/c3 d3 +")
	for _, n := range []int{3, 4, 5, 1000, highest} {
		upIs(t, from, 1, 3, n, "a1 b1 +/.9 .9/.9 .9/.9 .9/f5 g5 +", "W2 _2/c3 d3 +/.4 e4")
	}
	for _, n := range []int{5, 6, highest} {
		upIs(t, from, 0, 4, n, ".9 .9/.9 .9/.9 .9/.9 .9/.9 .9", from)
	}
	for _, n := range []int{1, 2, highest} {
		upIs(t, from, 0, 0, n, ".9 .9/W2 _2/c3 d3 +/.4 e4/f5 g5 +", "a1 b1 +")
		upIs(t, from, 2, 2, n, "a1 b1 +/W2 _2/.9 .9/.4 e4/f5 g5 +", "c3 d3 +")
		upIs(t, from, 4, 4, n, "a1 b1 +/W2 _2/c3 d3 +/.4 e4/.9 .9", "f5 g5 +")
		upIs(t, "a1 +", 0, 0, n, ".9", "a1 +")
	}
	upIs(t, from, 2, 2, 0, from, "")
	upIs(t, from, 3, 4, 1, "a1 b1 +/W2 _2/c3 d3 +/f5 g5 +/.9 .9", ".4 e4")
	upIs(t, from, 0, 1, 1, "W2 _2/.9 .9/c3 d3 +/.4 e4/f5 g5 +", "a1 b1 +")
}

// P6.3: down so.
func TestDown(t *testing.T) {
	from := "a1 b1 +/W2 _2/c3 d3 +/.4 e4/f5 g5 +"
	downIs := func(top, bottom, n int, want string) {
		t.Helper()
		is(t, gridOf(from), down(top, bottom, n, ground(9)), gridOf(want))
	}
	downIs(0, 4, 0, from)
	downIs(2, 2, 0, from)
	downIs(0, 4, 1, ".9 .9/a1 b1 +/W2 _2/c3 d3 +/.4 e4")
	downIs(0, 4, 4, ".9 .9/.9 .9/.9 .9/.9 .9/a1 b1 +")
	downIs(1, 3, 1, "a1 b1 +/.9 .9/W2 _2/c3 d3 +/f5 g5 +")
	downIs(1, 3, 2, "a1 b1 +/.9 .9/.9 .9/W2 _2/f5 g5 +")
	downIs(3, 4, 1, "a1 b1 +/W2 _2/c3 d3 +/.9 .9/.4 e4")
	downIs(0, 1, 1, ".9 .9/a1 b1 +/c3 d3 +/.4 e4/f5 g5 +")
	for _, n := range []int{3, 4, 5, 1000, highest} {
		downIs(1, 3, n, "a1 b1 +/.9 .9/.9 .9/.9 .9/f5 g5 +")
	}
	for _, n := range []int{1, 2, highest} {
		downIs(0, 0, n, ".9 .9/W2 _2/c3 d3 +/.4 e4/f5 g5 +")
		downIs(2, 2, n, "a1 b1 +/W2 _2/.9 .9/.4 e4/f5 g5 +")
		downIs(4, 4, n, "a1 b1 +/W2 _2/c3 d3 +/.4 e4/.9 .9")
		is(t, gridOf("a1 +"), down(0, 0, n, ground(9)), gridOf(".9"))
	}
	for _, n := range []int{5, 6, highest} {
		downIs(0, 4, n, ".9 .9/.9 .9/.9 .9/.9 .9/.9 .9")
	}
}

// P6.3: top above bottom, and less than none.
func TestScrollWrong(t *testing.T) {
	g := gridOf("a1/b2/c3")
	for _, c := range [][3]int{{1, 0, 1}, {2, 0, 0}, {2, 1, 5}, {0, 2, -1}, {1, 1, -1}, {0, 2, lowest}, {0, 0, lowest}} {
		wrong(t, g, up(c[0], c[1], c[2], ground(9)), api.ErrArg)
		wrong(t, g, down(c[0], c[1], c[2], ground(9)), api.ErrArg)
	}
}

// shift is n cells that come, or go, from a column on, and the line behind that.
type shift struct {
	from   string
	col, n int
	want   string
}

// P6.4: cells come: none, one, as many as there are, and more; through the middle of a wide letter, too.
func TestInsert(t *testing.T) {
	for _, c := range []shift{
		{"a1", 0, 0, "a1"},
		{"a1", 0, 1, ".9"},
		{"a1", 0, 2, ".9"},
		{"a1 b2 c3 +", 0, 0, "a1 b2 c3 +"},
		{"a1 b2 c3 +", 0, 1, ".9 a1 b2 +"},
		{"a1 b2 c3", 0, 2, ".9 .9 a1"},
		{"a1 b2 c3 +", 0, 3, ".9 .9 .9 +"},
		{"a1 b2 c3", 0, 4, ".9 .9 .9"},
		{"a1 b2 c3", 1, 1, "a1 .9 b2"},
		{"a1 b2 c3", 1, 2, "a1 .9 .9"},
		{"a1 b2 c3", 1, highest, "a1 .9 .9"},
		{"a1 b2 c3", 2, 0, "a1 b2 c3"},
		{"a1 b2 c3", 2, 1, "a1 b2 .9"},
		{"a1 b2 c3", 2, highest, "a1 b2 .9"},
		{"W1 _2 a3 b4", 0, 1, ".9 W1 _2 a3"},
		{"W1 _2 a3 b4", 1, 1, ".1 .9 .2 a3"},
		{"W1 _2 a3 b4", 1, 2, ".1 .9 .9 .2"},
		{"W1 _2 a3 b4", 1, 3, ".1 .9 .9 .9"},
		{"W1 _2 a3 b4", 1, 0, "W1 _2 a3 b4"},
		{"W1 _2 a3 b4", 2, 1, "W1 _2 .9 a3"},
		{"a1 b2 W3 _4", 0, 1, ".9 a1 b2 .3"},
		{"a1 b2 W3 _4", 1, 2, "a1 .9 .9 b2"},
		{"a1 b2 W3 _4 +", 2, 1, "a1 b2 .9 .3 +"},
		{"W1 _2 X3 _4", 1, 1, ".1 .9 .2 .3"},
		{"W1 _2 X3 _4", 3, 1, "W1 _2 .3 .9"},
	} {
		is(t, gridOf(c.from), insert(0, c.col, c.n, ground(9)), gridOf(c.want))
	}
}

// P6.4: cells go so.
func TestDelete(t *testing.T) {
	for _, c := range []shift{
		{"a1", 0, 0, "a1"},
		{"a1", 0, 1, ".9"},
		{"a1", 0, 2, ".9"},
		{"a1 b2 c3 +", 0, 0, "a1 b2 c3 +"},
		{"a1 b2 c3 +", 0, 1, "b2 c3 .9 +"},
		{"a1 b2 c3", 0, 2, "c3 .9 .9"},
		{"a1 b2 c3 +", 0, 3, ".9 .9 .9 +"},
		{"a1 b2 c3", 0, 4, ".9 .9 .9"},
		{"a1 b2 c3", 1, 1, "a1 c3 .9"},
		{"a1 b2 c3", 1, 2, "a1 .9 .9"},
		{"a1 b2 c3", 1, highest, "a1 .9 .9"},
		{"a1 b2 c3", 2, 0, "a1 b2 c3"},
		{"a1 b2 c3", 2, 1, "a1 b2 .9"},
		{"a1 b2 c3", 2, highest, "a1 b2 .9"},
		{"W1 _2 a3 b4", 0, 1, ".2 a3 b4 .9"},
		{"W1 _2 a3 b4", 0, 2, "a3 b4 .9 .9"},
		{"W1 _2 a3 b4", 1, 1, ".1 a3 b4 .9"},
		{"W1 _2 a3 b4", 1, 3, ".1 .9 .9 .9"},
		{"W1 _2 a3 b4", 1, 0, "W1 _2 a3 b4"},
		{"a1 W2 _3 b4 +", 0, 2, ".3 b4 .9 .9 +"},
		{"a1 W2 _3 b4", 2, 1, "a1 .2 b4 .9"},
		{"a1 b2 W3 _4", 2, 1, "a1 b2 .4 .9"},
		{"a1 b2 W3 _4", 3, 1, "a1 b2 .3 .9"},
		{"W1 _2 X3 _4", 0, 1, ".2 X3 _4 .9"},
		{"W1 _2 X3 _4", 1, 1, ".1 X3 _4 .9"},
		{"W1 _2 X3 _4", 1, 2, "W1 _4 .9 .9"}, // the left half of one, the right half of another one: neither is without
		{"W1 _2 X3 _4", 0, 3, ".4 .9 .9 .9"},
	} {
		is(t, gridOf(c.from), remove(0, c.col, c.n, ground(9)), gridOf(c.want))
	}
}

// P6.4: less than none.
func TestShiftWrong(t *testing.T) {
	g := gridOf("a1 b2/W3 _3")
	for _, n := range []int{-1, -2, -80, lowest} {
		for row := range 2 {
			for col := range 2 {
				wrong(t, g, insert(row, col, n, ground(9)), api.ErrArg)
				wrong(t, g, remove(row, col, n, ground(9)), api.ErrArg)
			}
		}
	}
}

// everyDeed is each call, with rows, columns and a look, and else what may be.
func everyDeed(row, col int, a api.Attr) []deed {
	c := cellOf("x1")
	c.Attr = a
	return []deed{
		put(row, col, c), eraseBy(row, 0, 1, a), eraseBy(row, 1, 1, a), up(0, row, 1, a), up(row, row, 0, a), down(0, row, 1, a), down(row, row, 0, a),
		insert(row, col, 1, a), insert(row, col, 0, a), remove(row, col, 1, a), remove(row, col, 0, a),
	}
}

// P6.1 to P6.4: grids that may not be, whatever else is told.
func TestWrongGrids(t *testing.T) {
	for _, g := range badGrids() {
		for _, do := range everyDeed(0, 0, ground(1)) {
			wrong(t, g, do, api.ErrArg)
		}
		for _, on := range []bool{false, true} {
			wrong(t, g, soft(0, on), api.ErrArg)
		}
		for _, n := range []int{-1, 3, 80, lowest, highest} {
			for _, do := range everyDeed(n, n, api.Attr{Fg: n}) {
				wrong(t, g, do, api.ErrArg)
			}
			wrong(t, g, soft(n, true), api.ErrArg)
			wrong(t, g, eraseBy(n, n, n, ground(1)), api.ErrArg)
			wrong(t, g, up(n, n, n, ground(1)), api.ErrArg)
			wrong(t, g, down(n, n, n, ground(1)), api.ErrArg)
		}
	}
}

// P6.2 to P6.4: rows and columns that are not there, beside the first and the last one, that are.
func TestWrongPlaces(t *testing.T) {
	for _, size := range [][2]int{{1, 1}, {3, 2}, {80, 1}, {1, 50}, {80, 50}} {
		cols, rows := size[0], size[1]
		g, _ := New(cols, rows)
		for _, row := range []int{0, rows - 1} {
			for _, col := range []int{0, cols - 1} {
				for _, do := range append(everyDeed(row, col, ground(1)), soft(row, true)) {
					if got, why := do(g); why != api.OK || got.Cols != cols || len(got.Lines) != rows {
						t.Errorf("%d by %d, %d %d: %d", cols, rows, row, col, why)
					}
				}
			}
		}
		for _, row := range []int{-1, -rows, rows, rows + 1, 50, 1 << 32, lowest, highest} {
			for _, do := range append(everyDeed(row, 0, ground(1)), soft(row, true), soft(row, false), up(row, rows-1, 1, ground(1)), down(row, rows-1, 1, ground(1))) {
				wrong(t, g, do, api.ErrArg)
			}
		}
		for _, col := range []int{-1, -cols, cols, cols + 1, 80, 1 << 32, lowest, highest} {
			for _, row := range []int{0, rows - 1} {
				wrong(t, g, putWord(row, col, "x1"), api.ErrArg)
				wrong(t, g, insert(row, col, 1, ground(1)), api.ErrArg)
				wrong(t, g, remove(row, col, 1, ground(1)), api.ErrArg)
			}
		}
	}
}

// P6.2 to P6.4: looks that may not be, also where no cell would have them.
func TestWrongLooks(t *testing.T) {
	g := gridOf("a1 b2/W3 _3")
	for _, a := range badLooks() {
		for row := range 2 {
			for col := range 2 {
				for _, do := range everyDeed(row, col, a) {
					wrong(t, g, do, api.ErrArg)
				}
			}
		}
	}
	for _, a := range []api.Attr{{}, {Fg: 256, Bg: 256, Flags: 255}} {
		for _, do := range everyDeed(0, 0, a) {
			if got, why := do(g); why != api.OK || !Right(got) {
				t.Errorf("%v: %v %d", a, got, why)
			}
		}
		blank := gridOf("a1 b2/.0 .0")
		erased := []api.Cell{cell.Blank(a), cell.Blank(a)}
		blank.Lines[1].Cells = erased
		is(t, g, eraseBy(1, 0, 2, a), blank)
		is(t, g, up(1, 1, 1, a), blank)
		is(t, g, down(1, 1, 1, a), blank)
		is(t, g, insert(1, 0, 2, a), blank)
		is(t, g, remove(1, 0, 2, a), blank)
	}
}
