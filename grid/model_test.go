package grid

import (
	"slices"
	"testing"

	"backseat/api"
)

// What follows is read from the chapter apart from the package: lines are put together anew, of pieces.

// wantMend takes wide letters with their right halves two cells at a time; what is left of either is alone.
func wantMend(cells []api.Cell) []api.Cell {
	var out []api.Cell
	for i := 0; i < len(cells); i++ {
		c := cells[i]
		switch {
		case c.Wide == 2 && i+1 < len(cells) && cells[i+1].Wide == 0:
			i++
			out = append(out, c, cells[i])
		case c.Wide == 2 || c.Wide == 0:
			out = append(out, blankOf(c.Attr))
		default:
			out = append(out, c)
		}
	}
	return out
}

func blankOf(a api.Attr) api.Cell { return api.Cell{Wide: 1, Attr: api.Attr{Bg: a.Bg}} }

func blanks(n int, a api.Attr) []api.Cell { return slices.Repeat([]api.Cell{blankOf(a)}, n) }

func wantPut(cells []api.Cell, col int, c api.Cell) []api.Cell {
	letter := []api.Cell{c}
	if c.Wide == 2 {
		letter = append(letter, api.Cell{Attr: c.Attr})
	}
	return wantMend(slices.Concat(cells[:col], letter, cells[col+len(letter):]))
}

func wantErase(cells []api.Cell, from, to int, a api.Attr) []api.Cell {
	return wantMend(slices.Concat(cells[:from], blanks(to-from, a), cells[to:]))
}

func wantInsert(cells []api.Cell, col, n int, a api.Attr) []api.Cell {
	n = min(n, len(cells)-col)
	return wantMend(slices.Concat(cells[:col], blanks(n, a), cells[col:])[:len(cells)])
}

func wantDelete(cells []api.Cell, col, n int, a api.Attr) []api.Cell {
	n = min(n, len(cells)-col)
	return wantMend(slices.Concat(cells[:col], cells[col+n:], blanks(n, a)))
}

func wantScroll(g api.Grid, top, bottom, n int, up bool, a api.Attr) (api.Grid, []api.Line) {
	n = min(n, bottom-top+1)
	come := slices.Repeat([]api.Line{{Cells: blanks(g.Cols, a)}}, n)
	goes := slices.Clone(g.Lines[top : bottom+1])
	if up {
		come = append(goes, come...)
		goes = come[:n]
		come = come[n:]
	} else {
		come = append(come, goes...)[:len(goes)]
		goes = nil
	}
	return api.Grid{Cols: g.Cols, Lines: slices.Concat(g.Lines[:top], come, g.Lines[bottom+1:])}, goes
}

// lines hands on all lines of so many cells, of letters, wide ones, right halves and blank cells, whether they fit or not; each cell has a ground of its own.
func lines(cols int, f func([]api.Cell)) {
	cells := make([]api.Cell, cols)
	var fill func(i int)
	fill = func(i int) {
		if i == cols {
			f(cells)
			return
		}
		for _, name := range "aW_." {
			cells[i] = cellOf(string(name) + string('1'+rune(i)))
			fill(i + 1)
		}
	}
	fill(0)
}

// fitting hands on those of them that fit.
func fitting(cols int, f func([]api.Cell)) {
	lines(cols, func(cells []api.Cell) {
		if slices.Equal(cells, wantMend(cells)) {
			f(cells)
		}
	})
}

// P6.1: all short lines.
func TestAllShortLines(t *testing.T) {
	for cols := range 8 {
		lines(cols, func(cells []api.Cell) {
			want := wantMend(cells)
			l := api.Line{Cells: cells, Soft: cols%2 == 1}
			got := Mend(l)
			if !slices.Equal(got.Cells, want) || got.Soft != l.Soft || !Fits(got, cols) {
				t.Fatalf("Mend(%v): %v", l, got)
			}
			if Fits(l, cols) != slices.Equal(cells, want) {
				t.Fatalf("Fits(%v): %v", l, Fits(l, cols))
			}
		})
	}
}

// between is a grid of three lines, of which the line is the middle one.
func between(cells []api.Cell, on bool) api.Grid {
	other := slices.Repeat([]api.Cell{cellOf("o8")}, len(cells))
	return api.Grid{Cols: len(cells), Lines: []api.Line{{Cells: other, Soft: true}, {Cells: cells, Soft: on}, {Cells: other}}}
}

// onLine checks what a call makes of a line; the others, and Soft, stay, and so does what may be.
func onLine(t *testing.T, cells []api.Cell, do deed, want []api.Cell) {
	t.Helper()
	for _, on := range []bool{false, true} {
		g := between(cells, on)
		ahead := copyOf(g)
		got, why := do(g)
		if why != api.OK || !same(got, between(want, on)) || !Right(got) || !same(g, ahead) {
			t.Fatalf("of %v: %v %d, want %v", g, got, why, want)
		}
	}
}

// P6.2, P6.4, P6.5: each call on each place of all short lines.
func TestAllPlaces(t *testing.T) {
	a := ground(9)
	for cols := 1; cols < 6; cols++ {
		fitting(cols, func(cells []api.Cell) {
			for col := range cols {
				onLine(t, cells, putWord(1, col, "x0"), wantPut(cells, col, cellOf("x0")))
				if col+1 < cols {
					onLine(t, cells, putWord(1, col, "Z0"), wantPut(cells, col, cellOf("Z0")))
				} else {
					wrong(t, between(cells, true), putWord(1, col, "Z0"), api.ErrRoom)
				}
				for n := range cols + 2 {
					onLine(t, cells, insert(1, col, n, a), wantInsert(cells, col, n, a))
					onLine(t, cells, remove(1, col, n, a), wantDelete(cells, col, n, a))
				}
			}
			for to := range cols + 1 {
				for from := range to + 1 {
					onLine(t, cells, eraseBy(1, from, to, a), wantErase(cells, from, to, a))
				}
			}
		})
	}
}

// P6.3, P6.5: each region, by each number.
func TestAllRegions(t *testing.T) {
	a := ground(9)
	for _, text := range []string{"a1 +", "a1/b2 +", "a1 b1/W2 _2 +/c3 .3", "a1 b1 c1/W2 _2 d2 +/.3 X3 _3/e4 f4 g4 +", "W1 _1 +/b2 .2/X3 _3 +/d4 d4/e5 e5 +/f6 f6"} {
		g := gridOf(text)
		rows := len(g.Lines)
		for bottom := range rows {
			for top := range bottom + 1 {
				for n := range rows + 2 {
					want, gone := wantScroll(g, top, bottom, n, true, a)
					is(t, g, up(top, bottom, n, a), want)
					if got, went, _ := Up(g, top, bottom, n, a); !sameLines(went, gone) || !Right(got) {
						t.Errorf("%q, %d to %d by %d: gone are %v, want %v", text, top, bottom, n, went, gone)
					}
					want, _ = wantScroll(g, top, bottom, n, false, a)
					is(t, g, down(top, bottom, n, a), want)
				}
			}
		}
	}
}

// largest is a grid as large as may be, of letters that differ.
func largest() api.Grid {
	g, _ := New(80, 50)
	for row := range 50 {
		for col := range 80 {
			g.Lines[row].Cells[col] = cellOf(string(rune('a'+(row+col)%26)) + string(rune('0'+(row*3+col)%10)))
		}
		g.Lines[row].Soft = row%3 == 0
	}
	return g
}

// P6.1 to P6.4: the largest grid, at its corners.
func TestLargest(t *testing.T) {
	g, a := largest(), ground(9)
	for _, row := range []int{0, 1, 48, 49} {
		for _, col := range []int{0, 1, 40, 78, 79} {
			on := func(do deed, want []api.Cell) {
				t.Helper()
				whole := copyOf(g)
				whole.Lines[row].Cells = want
				is(t, g, do, whole)
			}
			cells := g.Lines[row].Cells
			on(putWord(row, col, "x9"), wantPut(cells, col, cellOf("x9")))
			on(eraseBy(row, col, 80, a), wantErase(cells, col, 80, a))
			on(eraseBy(row, 0, col, a), wantErase(cells, 0, col, a))
			for _, n := range []int{0, 1, 79, 80, 81, highest} {
				on(insert(row, col, n, a), wantInsert(cells, col, n, a))
				on(remove(row, col, n, a), wantDelete(cells, col, n, a))
			}
		}
		for _, n := range []int{0, 1, 49, 50, 51, highest} {
			want, _ := wantScroll(g, 0, row, n, true, a)
			is(t, g, up(0, row, n, a), want)
			want, _ = wantScroll(g, row, 49, n, false, a)
			is(t, g, down(row, 49, n, a), want)
		}
	}
}

// P6.5: what is put is there, with its right half.
func TestPutIsThere(t *testing.T) {
	for cols := 1; cols < 6; cols++ {
		fitting(cols, func(cells []api.Cell) {
			for col := range cols {
				for _, word := range []string{"x9", "Z9"} {
					c := cellOf(word)
					g, why := Put(between(cells, true), 1, col, c)
					if why != api.OK {
						continue
					}
					got := g.Lines[1].Cells
					if got[col] != c || c.Wide == 2 && got[col+1] != cellOf("_9") {
						t.Fatalf("%s at %d of %v: %v", word, col, cells, got)
					}
				}
			}
		})
	}
}

// cutBy tells whether cells that go on from col are cut from the other half of their letter.
func cutBy(cells []api.Cell, col int) bool { return col < len(cells) && cells[col].Wide == 0 }

// P6.5: what is inserted, and deleted again, is as it was, but for what was pushed out, or cut in half.
func TestInsertedAndDeleted(t *testing.T) {
	for cols := 1; cols < 7; cols++ {
		fitting(cols, func(cells []api.Cell) {
			for col := range cols {
				for n := range cols + 1 {
					g, _ := Insert(between(cells, true), 1, col, n, ground(9))
					g, why := Delete(g, 1, col, n, ground(9))
					if why != api.OK || len(g.Lines) != 3 {
						t.Fatalf("%v %d", g, why)
					}
					out := max(cols-n, col) // from here on all was pushed out
					for i, got := range g.Lines[1].Cells {
						want := cells[i]
						if i >= out {
							want = cellOf(".9")
						} else if n > 0 && (cutBy(cells, col) && (i == col-1 || i == col) || cutBy(cells, out) && i == out-1) {
							want = blankOf(cells[i].Attr)
						}
						if got != want {
							t.Fatalf("%d cells at %d of %v: %v", n, col, cells, g.Lines[1].Cells)
						}
					}
				}
			}
		})
	}
}

// P6.5: what may be stays such, in a long row of calls; no call touches a grid ahead of it.
func TestManyCalls(t *testing.T) {
	g, _ := New(9, 4)
	kept := []api.Grid{g}
	was := []api.Grid{copyOf(g)}
	for i := range 3000 {
		row, col, n, a := i*7%4, i*5%9, i%4, ground(i%10)
		word := string("aWxZ"[i%4]) + string(rune('0'+i%10))
		deeds := []deed{
			putWord(row, col, word), putWord(row, (col+i/9)%9, word), putWord(i%4, (col+3)%8, word), insert(row, col, n, a), remove(row, (col+i)%9, n, a),
			eraseBy(row, col, min(col+n, 9), a), up(min(row, i%3), row, n, a), down(min(row, i%2), row, n, a), soft(row, i%2 == 0),
		}
		next, why := deeds[i*i%len(deeds)](g)
		if why == api.ErrRoom {
			continue
		}
		if why != api.OK || !Right(next) || next.Cols != 9 || len(next.Lines) != 4 {
			t.Fatalf("call %d of %v: %v %d", i, g, next, why)
		}
		g = next
		kept, was = append(kept, g), append(was, copyOf(g))
	}
	for i := range kept {
		if !same(kept[i], was[i]) {
			t.Fatalf("the grid behind call %d was changed to %v", i, kept[i])
		}
	}
}

// R1, R4: lines that are new have cells of their own, each.
func TestNewLinesShareNone(t *testing.T) {
	from, a := gridOf("a1 b1/c2 d2/e3 f3"), ground(0)
	for row := range 3 {
		one, _ := New(2, 3)
		two, _, _ := Up(from, 0, 2, 3, a)
		three, _ := Down(from, 0, 2, 3, a)
		for _, g := range []api.Grid{one, two, three} {
			g.Lines[row].Cells[0] = cellOf("x1")
			want := gridOf(".0 .0/.0 .0/.0 .0")
			want.Lines[row].Cells[0] = cellOf("x1")
			if !same(g, want) {
				t.Errorf("%v, want %v", g, want)
			}
		}
	}
}

// R4: what is put behind the lines that are gone is written neither over the grid that came in nor over the one that is answered.
func TestGoneAreCutOff(t *testing.T) {
	for top := range 3 {
		for bottom := top; bottom < 4; bottom++ {
			for n := range 5 {
				g, want := gridOf("a1/b2/c3/d4"), gridOf("a1/b2/c3/d4")
				up, gone, _ := Up(g, top, bottom, n, ground(9))
				ahead := copyOf(up)
				gone = append(gone, lineOf("x5"), lineOf("y6"))
				if !same(g, want) || !same(up, ahead) || len(gone) != min(n, bottom-top+1)+2 {
					t.Errorf("%d to %d by %d: %v, %v, %v", top, bottom, n, g, up, gone)
				}
			}
		}
	}
}

// R4: what is behind the end of a list that is handed in stays, too.
func TestRoomBehind(t *testing.T) {
	for _, do := range []deed{up(0, 1, 1, ground(9)), up(0, 1, 2, ground(9)), up(1, 1, 1, ground(9)), down(0, 1, 1, ground(9)), down(0, 1, 2, ground(9)), down(0, 0, 1, ground(9)), putWord(1, 1, "x9"), insert(1, 0, 1, ground(9)), insert(1, 0, 3, ground(9)), remove(1, 0, 1, ground(9)), eraseBy(0, 0, 2, ground(9)), soft(1, true)} {
		large := gridOf("a1 b1 c1/W2 _2 d2/e3 f3 g3/h4 i4 j4")
		small := api.Grid{Cols: 2}
		for _, l := range large.Lines {
			small.Lines = append(small.Lines, api.Line{Cells: l.Cells[:2]})
		}
		small.Lines = small.Lines[:2]
		if got, why := do(small); why != api.OK || len(got.Lines) != 2 {
			t.Fatalf("%v %d", got, why)
		}
		if !same(large, gridOf("a1 b1 c1/W2 _2 d2/e3 f3 g3/h4 i4 j4")) || !sameLines(small.Lines[:4][2:], []api.Line{lineOf("e3 f3"), lineOf("h4 i4")}) {
			t.Errorf("%v, %v", large, small.Lines[:4])
		}
	}
}

// R4: a grid whose lines share their cells: one is changed alone.
func TestLinesThatShare(t *testing.T) {
	l := lineOf("W1 _1 a2")
	g := api.Grid{Cols: 3, Lines: []api.Line{l, l, l}}
	is(t, g, putWord(1, 1, "x9"), gridOf("W1 _1 a2/.1 x9 a2/W1 _1 a2"))
	is(t, g, eraseBy(0, 0, 3, ground(9)), gridOf(".9 .9 .9/W1 _1 a2/W1 _1 a2"))
	is(t, g, insert(2, 0, 1, ground(9)), gridOf("W1 _1 a2/W1 _1 a2/.9 W1 _1"))
	is(t, g, remove(2, 0, 1, ground(9)), gridOf("W1 _1 a2/W1 _1 a2/.1 a2 .9"))
}
