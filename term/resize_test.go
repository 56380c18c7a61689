package term

import (
	"testing"

	"backseat/api"
)

// resized is what a size makes of what bytes made of a terminal.
type resized struct {
	cols, rows int
	want       string
}

// checkSizes feeds a terminal, and has it be of each of the sizes.
func checkSizes(t *testing.T, cols, rows int, bytes string, sizes ...resized) {
	t.Helper()
	x := feed(t, newTerm(t, cols, rows, keep), bytesOf(bytes))
	checkResized(t, x, sizes...)
}

func checkResized(t *testing.T, x api.Term, sizes ...resized) {
	t.Helper()
	for _, c := range sizes {
		y := resize(t, x, c.cols, c.rows)
		if got := text(y); got != c.want || y.Back.Max != x.Back.Max {
			t.Errorf("%s to %d, %d: %s, want %s", text(x), c.cols, c.rows, got, c.want)
		}
	}
}

// P9.2: lines that go on flow to the columns there are, and up to what is kept.
func TestResize(t *testing.T) {
	checkSizes(t, 4, 2, "abcde",
		resized{4, 2, "abcd+/e... 1,1"},
		resized{3, 2, "abc+/de. 1,1"},
		resized{2, 2, "cd+/e. 1,1 kept:ab+"},
		resized{1, 2, "d+/e 1,0 kept:a+/b+/c+"},
		resized{1, 1, "e 0,0 kept:b+/c+/d+"},
		resized{5, 2, "abcde/..... 0,1"},
		resized{8, 2, "abcde.../........ 0,1"},
		resized{8, 1, "abcde... 0,1"},
		resized{4, 1, "e... 0,1 kept:abcd+"},
		resized{4, 3, "abcd+/e.../.... 1,1"},
		resized{2, 5, "ab+/cd+/e./../.. 2,1"},
		resized{1, 5, "a+/b+/c+/d+/e 4,0"},
	)
	checkSizes(t, 4, 2, "",
		resized{4, 2, "..../.... 0,0"},
		resized{1, 1, ". 0,0"},
		resized{6, 3, "....../....../...... 0,0"},
	)
	checkSizes(t, 4, 2, "abcd",
		resized{4, 2, "abcd/.... 0,3"},
		resized{6, 2, "abcd../...... 0,3"},
		resized{2, 2, "ab+/cd 1,1"},
		resized{2, 1, "cd 0,1 kept:ab+"},
	)
	checkSizes(t, 4, 3, "ab^Ecd^[41mx^[m^E",
		resized{3, 3, "ab./cdX/... 2,0"},
		resized{2, 3, "cd+/X./.. 2,0 kept:ab"},
		resized{2, 5, "ab/cd+/X./../.. 3,0"},
		resized{8, 2, "cdX...../........ 1,0 kept:ab......"},
	)
	// The row is the last one of the long row that it was in.
	checkSizes(t, 4, 4, "abcdefghij^[1;3H",
		resized{4, 4, "abcd+/efgh+/ij../.... 2,2"},
		resized{2, 4, "cd+/ef+/gh+/ij 3,1 kept:ab+"},
		resized{5, 4, "abcde+/fghij/...../..... 1,2"},
		resized{9, 4, "abcdefghi+/j......../........./......... 1,2"},
		resized{20, 1, "abcdefghij.......... 0,2"},
	)
	// It went up.
	checkSizes(t, 4, 3, "ab^Ecd^Eef^[1;2H",
		resized{4, 2, "cd../ef.. 0,1 kept:ab.."},
		resized{4, 1, "ef.. 0,1 kept:ab../cd.."},
		resized{1, 2, "e+/f 0,0 kept:b/c+/d"},
		resized{1, 5, "b/c+/d/e+/f 0,0 kept:a+"},
		resized{1, 6, "a+/b/c+/d/e+/f 1,0"},
	)
}

// P9.2: lines below the row go, if nothing at all is there, and behind them.
func TestResizeEmptyLines(t *testing.T) {
	checkSizes(t, 4, 4, "ab^Ecd^[H",
		resized{4, 2, "ab../cd.. 0,0"},
		resized{4, 1, "cd.. 0,0 kept:ab.."},
		resized{4, 5, "ab../cd../..../..../.... 0,0"},
		resized{1, 4, "a+/b/c+/d 1,0"},
	)
	checkSizes(t, 4, 4, "ab\n\n\n",
		resized{4, 2, "..../.... 1,2 kept:ab../...."},
		resized{4, 5, "ab../..../..../..../.... 3,2"},
	)
	checkSizes(t, 4, 4, "ab\n\n\n^[3;2H",
		resized{4, 2, "..../.... 1,1 kept:ab.."},
		resized{4, 3, "ab../..../.... 2,1"},
	)
	checkSizes(t, 4, 4, "ab^[4;1Hc^[2;1H",
		resized{4, 2, "..../c... 0,0 kept:ab../...."},
		resized{4, 3, "..../..../c... 0,0 kept:ab.."},
	)
	checkSizes(t, 2, 3, "^[41m^[2J^[m",
		resized{2, 1, ",, 0,0 kept:,,/,,"},
		resized{1, 3, ",/,+/, 0,0 kept:,+/,/,+"},
		resized{3, 3, ",,./,,./,,. 0,0"},
	)
	checkSizes(t, 2, 3, "^[41m^[3;2H^[K^[m^[H",
		resized{2, 2, "../., 0,0 kept:.."},
		resized{3, 2, ".../.,. 0,0 kept:..."},
	)
	x := newTerm(t, 2, 3, keep)
	x = feed(t, x, "a\r")
	x.Grid.Lines[2].Soft = true // a line on which nothing is, but that goes on
	checkResized(t, x,
		resized{2, 2, "../.. 0,0 kept:a."},
		resized{2, 3, "a./../.. 0,0"},
	)
	x.Grid.Lines[0].Soft, x.Grid.Lines[2].Soft = true, false
	checkResized(t, x,
		resized{2, 1, "a. 0,0"},
		resized{2, 3, "a./../.. 0,0"},
	)
	x.Row = 1
	checkResized(t, x,
		resized{2, 1, "a. 0,0"},
		resized{1, 3, "a/./. 0,0"},
	)
	x.Row = 2
	checkResized(t, x, resized{2, 3, "a./../.. 1,0"})
}

// P9.2: wide letters, which may leave a place at a line's end, or have none.
func TestResizeWideLetters(t *testing.T) {
	checkSizes(t, 4, 2, "abcW",
		resized{4, 2, "abc.+/W_.. 1,2"},
		resized{8, 2, "abc.W_../........ 0,2"},
		resized{3, 2, "abc+/.W_ 1,2"},
		resized{2, 2, "c.+/W_ 1,1 kept:ab+"},
		resized{1, 2, "c+/. 1,0 kept:a+/b+"},
	)
	checkSizes(t, 4, 2, "aWbW'",
		resized{4, 2, "aW_b+/W'_.. 1,2"},
		resized{3, 2, "aW_+/bW'_ 1,2"},
		resized{2, 2, "b.+/W'_ 1,1 kept:a.+/W_+"},
		resized{1, 2, "a+/b 1,0"},
		resized{6, 1, "aW_bW'_ 0,2"},
	)
}

// P9.2: what is kept flows, too, of whatever lengths it is; and comes back.
func TestResizeKept(t *testing.T) {
	checkSizes(t, 4, 1, "abcde",
		resized{8, 1, "abcde... 0,1"},
		resized{4, 2, "abcd+/e... 1,1"},
		resized{4, 4, "abcd+/e.../..../.... 1,1"},
	)
	checkSizes(t, 4, 2, "a^Eb^Ec^Ed^Ee^Ef^Eg",
		resized{4, 2, "f.../g... 1,1 kept:c.../d.../e..."},
		resized{4, 4, "d.../e.../f.../g... 3,1 kept:c..."},
		resized{4, 9, "c.../d.../e.../f.../g.../..../..../..../.... 4,1"},
		resized{2, 1, "g. 0,1 kept:d./e./f."},
	)
	x := feed(t, newTerm(t, 4, 2, keep), "abcdefghij")
	for _, c := range []resized{
		{2, 2, "gh+/ij 1,1 kept:ab+/cd+/ef+"},
		{4, 2, "efgh+/ij.. 1,1 kept:abcd+"},
		{10, 2, "abcdefghij/.......... 0,1"},
		{1, 1, "j 0,0 kept:g+/h+/i+"},
		{10, 2, "ghij....../.......... 0,0"},
	} {
		x = resize(t, x, c.cols, c.rows)
		if got := text(x); got != c.want {
			t.Errorf("to %d, %d: %s, want %s", c.cols, c.rows, got, c.want)
		}
	}
	x = feed(t, newTerm(t, 4, 1, 0), "abcdef")
	checkResized(t, x,
		resized{4, 2, "ef../.... 0,2"},
		resized{1, 1, "f 0,0"},
	)
	x.Back = api.Back{Max: 4, Lines: []api.Line{{Cells: cells("xyz")}, {Cells: cells("u"), Soft: true}, {Cells: cells("ijklmnop"), Soft: true}}}
	checkResized(t, x,
		resized{4, 1, "pef. 0,2 kept:xyz./uijk+/lmno+"},
		resized{12, 2, "xyz........./uijklmnopef. 1,2"},
	)
}

func cells(letters string) []api.Cell {
	var out []api.Cell
	for _, r := range letters {
		out = append(out, api.Cell{Text: string(r), Wide: 1})
	}
	return out
}

// P9.2: while the other grid is shown, that is cut, and the main lines flow.
func TestResizeOtherGrid(t *testing.T) {
	checkSizes(t, 4, 2, "ab^Ecd^[?47h^[Hxyz",
		resized{4, 2, "xyz./.... 0,3 saved:1,2 main:ab../cd.."},
		resized{2, 2, "xy/.. 0,1 saved:1,2 main:ab/cd"},
		resized{2, 1, "xy 0,1 saved:1,2 main:cd kept:ab"},
		resized{1, 2, "x/. 0,0 saved:1,2 main:c+/d kept:a+/b"},
		resized{6, 3, "xyz.../....../...... 0,3 saved:1,2 main:ab..../cd..../......"},
	)
	checkSizes(t, 4, 2, "^[?47habcde",
		resized{3, 2, "abc+/e.. 1,1 main:.../..."},
		resized{4, 1, "abcd+ 0,1 main:...."},
		resized{6, 4, "abcd..+/e...../....../...... 1,1 main:....../....../....../......"},
	)
	checkSizes(t, 4, 2, "^[?47hWW",
		resized{4, 2, "W_W_/.... 0,3 main:..../...."},
		resized{3, 2, "W_./... 0,2 main:.../..."},
		resized{2, 2, "W_/.. 0,1 main:../.."},
		resized{1, 2, "./. 0,0 main:./."},
		resized{6, 1, "W_W_.. 0,3 main:......"},
	)
	checkSizes(t, 2, 1, "^[?47h^[41mW",
		resized{1, 1, ", 0,0 look:0,2,0 main:."},
		resized{4, 1, "X_.. 0,1 look:0,2,0 main:...."},
	)
	// The row of what was saved counts for what is below it.
	checkSizes(t, 4, 3, "ab^[?47h",
		resized{4, 1, ".... 0,2 saved:0,2 main:ab.."},
		resized{4, 4, "..../..../..../.... 0,2 saved:0,2 main:ab../..../..../...."},
	)
	checkSizes(t, 4, 3, "ab^[3;1H^[?47h",
		resized{4, 1, ".... 0,0 saved:2,0 main:.... kept:ab../...."},
		resized{4, 2, "..../.... 1,0 saved:2,0 main:..../.... kept:ab.."},
	)
	checkSizes(t, 4, 3, "ab^[3;1H^[?47h^[H^7",
		resized{4, 1, ".... 0,0 main:ab.."},
	)
	x := feed(t, newTerm(t, 4, 3, keep), bytesOf("ab^[?47h"))
	x.Saved.Row = 79
	checkResized(t, x, resized{4, 2, "..../.... 0,2 saved:79,2 main:..../.... kept:ab.."})
	// What was kept goes on in the main lines, and these do not follow the row of the other grid.
	checkSizes(t, 4, 1, "abcdef^[?1049h^[31mg",
		resized{8, 2, "..G...../........ 0,3 look:2,0,0 saved:0,2 main:abcdef../........"},
	)
}

// P9.2: all but the lines, the place and the rows that go stays.
func TestResizeStays(t *testing.T) {
	x := feed(t, newTerm(t, 4, 3, keep), bytesOf("^]2;abc\a^[?25l^[4h^[?6h^[1;31m^7^[2;3rabcd^[12;3"))
	x.Saved.Row = 70
	for _, size := range [][2]int{{4, 3}, {2, 2}, {80, 50}, {1, 1}} {
		y := resize(t, x, size[0], size[1])
		want := x
		want.Grid, want.Row, want.Col = y.Grid, y.Row, y.Col
		want.Top, want.Bottom, want.Late, want.Back = 0, size[1]-1, false, y.Back
		if !same(y, want) {
			t.Errorf("%v: %s, want %s", size, text(y), text(want))
		}
	}
	if y := feed(t, resize(t, x, 4, 2), "1m"); y.Look.Flags != api.Bold {
		t.Error(text(y))
	}
	check(t, 4, 3, fed{"^[2;3r^[?7labcdef", "abcf/..../.... 0,3 rows:1,2 nowrap"})
	y := resize(t, feed(t, newTerm(t, 4, 3, keep), bytesOf("^[2;3r^[?7labcdef")), 3, 3)
	if got := text(y); got != "abc+/f../... 1,2 nowrap" {
		t.Error(got)
	}
	if got := text(resize(t, feed(t, newTerm(t, 1, 2, 0), "a"), 1, 1)); got != "a 0,0" {
		t.Error(got)
	}
}
