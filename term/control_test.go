package term

import (
	"slices"
	"strconv"
	"strings"
	"testing"

	"backseat/api"
)

// csi is a control sequence, of the params that are written out.
func csi(params string, code rune) string { return escape + "[" + params + string(code) }

// asked are params, and what they ask for as counts: n and m.
var asked = []struct {
	params string
	n, m   int
}{
	{"", 1, 1},
	{"0", 1, 1},
	{"1", 1, 1},
	{"2", 2, 1},
	{"3", 3, 1},
	{"4", 4, 1},
	{"7", 7, 1},
	{"9999", 9999, 1},
	{"99999999999999999999", 9999, 1},
	{";", 1, 1},
	{"0;0", 1, 1},
	{";2", 1, 2},
	{"2;3", 2, 3},
	{"3;2;1", 3, 2},
	{"2;9999", 2, 9999},
	{"9999;9999", 9999, 9999},
	{"2;3;1;1;1;1;1;1;1;1;1;1;1;1;1;1", 2, 3}, // as many as there are places for
}

// tooMany are params of which there are more than there are places for: the sequence is left out.
const tooMany = "2;3;1;1;1;1;1;1;1;1;1;1;1;1;1;1;1"

// place is where a sequence is asked to go from, in a terminal of that size.
type place struct {
	row, col, top, bottom, rows, cols int
	origin                            bool
}

// wantRow is the row that a code leads to.
func wantRow(p place, code rune, n int) int {
	bound := 0
	switch code {
	case 'A', 'F':
		if p.row >= p.top {
			bound = p.top
		}
		return max(bound, p.row-n)
	case 'B', 'E':
		bound = p.rows - 1
		if p.row <= p.bottom {
			bound = p.bottom
		}
		return min(bound, p.row+n)
	case 'd', 'H', 'f':
		if p.origin {
			return min(p.bottom, p.top+n-1)
		}
		return min(p.rows-1, n-1)
	}
	return p.row
}

// wantCol is the column that a code leads to.
func wantCol(p place, code rune, n, m int) int {
	switch code {
	case 'C':
		return min(p.cols-1, p.col+n)
	case 'D':
		return max(0, p.col-n)
	case 'E', 'F':
		return 0
	case 'G':
		return min(p.cols-1, n-1)
	case 'H', 'f':
		return min(p.cols-1, m-1)
	}
	return p.col
}

// checkMoves has each code that moves asked of a terminal by each params: it moves, and does nothing else.
func checkMoves(t *testing.T, x api.Term) {
	t.Helper()
	p := place{x.Row, x.Col, x.Top, x.Bottom, len(x.Grid.Lines), x.Grid.Cols, x.Origin}
	for _, code := range "ABCDEFGdHf" {
		for _, a := range asked {
			want := x
			want.Row, want.Col, want.Late = wantRow(p, code, a.n), wantCol(p, code, a.n, a.m), false
			if got := feed(t, x, csi(a.params, code)); !same(got, want) {
				t.Fatalf("%q %c of %s: %s, want %s", a.params, code, text(x), text(got), text(want))
			}
		}
		if got := feed(t, x, csi(tooMany, code)); !same(got, x) {
			t.Errorf("%c of too many: %s", code, text(got))
		}
	}
}

// P9.2: moves, from each place, with each of the rows that go.
func TestMoves(t *testing.T) {
	for _, size := range [][2]int{{1, 1}, {4, 1}, {1, 4}, {3, 5}, {9, 8}} {
		x := newTerm(t, size[0], size[1], 0)
		last := size[1] - 1
		for _, region := range [][2]int{{0, last}, {1, 2}, {1, 3}, {0, 1}, {3, 4}, {2, 6}} {
			x.Top, x.Bottom = region[0], region[1]
			x.Row, x.Col, x.Late = 0, 0, false
			for i := 0; Right(x) && i <= last; i++ {
				for _, j := range []int{0, 1, size[0] - 1} {
					x.Row, x.Col = i, min(j, size[0]-1)
					for _, origin := range []bool{false, true} {
						x.Origin = origin
						x.Late = x.Col == x.Grid.Cols-1
						checkMoves(t, x)
					}
				}
			}
		}
	}
	large := newTerm(t, 80, 50, 0)
	for _, at := range [][4]int{{0, 0, 0, 49}, {49, 79, 0, 49}, {25, 40, 20, 30}, {48, 78, 20, 30}, {1, 1, 20, 30}} {
		large.Row, large.Col, large.Top, large.Bottom = at[0], at[1], at[2], at[3]
		checkMoves(t, large)
	}
	check(t, 4, 2,
		fed{"abcd^[A", "abcd/.... 0,3"},
		fed{"abcd^[C", "abcd/.... 0,3"},
		fed{"abcd^[Ce", "abce/.... 0,3 late"},
		fed{"^[2;3Ha", "..../..a. 1,3"},
		fed{"^[f^[C^[2d^[Ca", "..../..a. 1,3"},
	)
}

// P9.2: what J and K have be blank, and which lines go on no more then.
func TestErase(t *testing.T) {
	const full = "abcdefghijklmnop^[2;2H" // at the second place of the second line of four, of which three are Soft
	const whole = "abcd+/efgh+/ijkl+/mnop 1,1"
	check(t, 4, 4,
		fed{full, whole},
		fed{full + "^[J", "abcd+/e.../..../.... 1,1"},
		fed{full + "^[0J", "abcd+/e.../..../.... 1,1"},
		fed{full + "^[;2J", "abcd+/e.../..../.... 1,1"},
		fed{full + "^[1J", "..../..gh+/ijkl+/mnop 1,1"},
		fed{full + "^[1;0J", "..../..gh+/ijkl+/mnop 1,1"},
		fed{full + "^[2J", "..../..../..../.... 1,1"},
		fed{full + "^[3J", whole},
		fed{full + "^[4J", whole},
		fed{full + "^[9999J", whole},
		fed{full + "^[" + tooMany + "J", whole},
		fed{full + "^[K", "abcd+/e.../ijkl+/mnop 1,1"},
		fed{full + "^[0K", "abcd+/e.../ijkl+/mnop 1,1"},
		fed{full + "^[;1K", "abcd+/e.../ijkl+/mnop 1,1"},
		fed{full + "^[1K", "abcd+/..gh+/ijkl+/mnop 1,1"},
		fed{full + "^[2K", "abcd+/..../ijkl+/mnop 1,1"},
		fed{full + "^[3K", whole},
		fed{full + "^[9999K", whole},
		fed{full + "^[" + tooMany + "K", whole},
		fed{full + "^[4G^[1K", "abcd+/..../ijkl+/mnop 1,3"},
		fed{full + "^[4G^[1J", "..../..../ijkl+/mnop 1,3"},
		fed{full + "^[3G^[1K", "abcd+/...h+/ijkl+/mnop 1,2"},
		fed{full + "^[1G^[K", "abcd+/..../ijkl+/mnop 1,0"},
		fed{full + "^[4G^[K", "abcd+/efg./ijkl+/mnop 1,3"},
		fed{full + "^[4G^[K^[1K", "abcd+/..../ijkl+/mnop 1,3"},
		fed{full + "^[H^[1J", ".bcd+/efgh+/ijkl+/mnop 0,0"},
		fed{full + "^[4;4H^[J", "abcd+/efgh+/ijkl+/mno. 3,3"},
		fed{full + "^[4;4H^[1J", "..../..../..../.... 3,3"},
		fed{full + "^[H^[J", "..../..../..../.... 0,0"},
		fed{full + "^[41m^[J", "abcd+/e,,,/,,,,/,,,, 1,1 look:0,2,0"},
		fed{full + "^[41m^[1J", ",,,,/,,gh+/ijkl+/mnop 1,1 look:0,2,0"},
		fed{full + "^[41m^[2J", ",,,,/,,,,/,,,,/,,,, 1,1 look:0,2,0"},
		fed{full + "^[31m^[2J", "..../..../..../.... 1,1 look:2,0,0"},
		fed{full + "^[41m^[2K", "abcd+/,,,,/ijkl+/mnop 1,1 look:0,2,0"},
	)
	// A line that was blank ahead, or is so as it was mended, goes on still.
	check(t, 4, 2,
		fed{"abcde^[1;3H^[1K", "...d+/e... 0,2"},
		fed{"abcde^[1;4H^[X^[1;3H^[1K", "....+/e... 0,2"},
		fed{"abcde^[1;3H^[2X^[2G^[1K", "....+/e... 0,1"},
		fed{"abWe^[1;3H^[1K", "....+/e... 0,2"},
		fed{"abWe^[1;4H^[1K", "..../e... 0,3"},
		fed{"abWe^[1;4H^[K", "ab../e... 0,3"},
		fed{"abWe^[1;3H^[K", "ab../e... 0,2"},
		fed{"WWe^[1;2H^[1K", "..W_+/e... 0,1"},
		fed{"WWe^[1;1H^[1K", "..W_+/e... 0,0"},
		fed{"WWe^[1;2H^[K", "..../e... 0,1"},
		fed{"abWe^[1;3H^[1J", "....+/e... 0,2"},
		fed{"Wabe^[1;4H^[41m^[1K", ",,,,/e... 0,3 look:0,2,0"},
		fed{"aWbe^[1;3H^[1K", "...b+/e... 0,2"},
		fed{"aWbe^[1;2H^[1K", "...b+/e... 0,1"},
	)
	// They move, so that the line is full no more; but 3, and what is above, does nothing there.
	for _, seq := range []string{"^[J", "^[K", "^[X"} {
		check(t, 4, 2, fed{"abcd" + seq + "e", "abce/.... 0,3 late"})
	}
	for _, seq := range []string{"^[1J", "^[2J", "^[1K", "^[2K"} {
		check(t, 4, 2, fed{"abcd" + seq + "e", "...e/.... 0,3 late"})
	}
	for _, seq := range []string{"^[3J", "^[4J", "^[3K", "^[4K", "^[9999J", "^[9999K"} {
		check(t, 4, 2, fed{"abcd" + seq + "e", "abcd+/e... 1,1"})
	}
	check(t, 1, 1,
		fed{"a^[J", ". 0,0"},
		fed{"a^[1J", ". 0,0"},
		fed{"a^[2K", ". 0,0"},
		fed{"a\n^[J", ". 0,0 kept:a"},
		fed{"a\n^[2J", ". 0,0 kept:a"},
		fed{"a\nb^[3J", "b 0,0 late"},
	)
	check(t, 2, 1,
		fed{"ab\nc\n^[3Jd\ne", ".e 0,1 late kept:.d"},
		fed{"a\nb\n^[?47h^[3J", ".. 0,1 saved:0,1 main:.."},
	)
}

// P9.2: cells that are blank, come, and go.
func TestCells(t *testing.T) {
	const full = "abcdefgh^[1;2H" // at the second place of the first line, which is Soft
	for _, one := range []string{"", "0", "1", ";3", "0;3"} {
		check(t, 4, 2,
			fed{full + "^[" + one + "X", "a.cd+/efgh 0,1"},
			fed{full + "^[" + one + "@", "a.bc+/efgh 0,1"},
			fed{full + "^[" + one + "P", "acd.+/efgh 0,1"},
		)
	}
	for _, all := range []string{"3", "4", "5", "9999"} {
		check(t, 4, 2,
			fed{full + "^[" + all + "X", "a...+/efgh 0,1"},
			fed{full + "^[" + all + "@", "a...+/efgh 0,1"},
			fed{full + "^[" + all + "P", "a...+/efgh 0,1"},
		)
	}
	check(t, 4, 2,
		fed{full + "^[2X", "a..d+/efgh 0,1"},
		fed{full + "^[2@", "a..b+/efgh 0,1"},
		fed{full + "^[2P", "ad..+/efgh 0,1"},
		fed{full + "^[H^[4X", "....+/efgh 0,0"},
		fed{full + "^[41m^[2X", "a,,d+/efgh 0,1 look:0,2,0"},
		fed{full + "^[41m^[2@", "a,,b+/efgh 0,1 look:0,2,0"},
		fed{full + "^[41m^[2P", "ad,,+/efgh 0,1 look:0,2,0"},
		fed{full + "^[" + tooMany + "X", "abcd+/efgh 0,1"},
		fed{full + "^[" + tooMany + "@", "abcd+/efgh 0,1"},
		fed{full + "^[" + tooMany + "P", "abcd+/efgh 0,1"},
		fed{"abcd^[Xe", "abce/.... 0,3 late"},
		fed{"abcd^[@e", "abce/.... 0,3 late"},
		fed{"abcd^[Pe", "abce/.... 0,3 late"},
		fed{"WW^[2G^[X", "..W_/.... 0,1"},
		fed{"WW^[2G^[2X", "..../.... 0,1"},
		fed{"WW\r^[@", ".W_./.... 0,0"},
		fed{"WW^[2G^[@", "..../.... 0,1"},
		fed{"WW\r^[P", ".W_./.... 0,0"},
		fed{"WW\r^[2P", "W_../.... 0,0"},
		fed{"WW^[2G^[2P", "W_../.... 0,1"},
	)
	check(t, 1, 1,
		fed{"a^[X", ". 0,0"},
		fed{"a^[@", ". 0,0"},
		fed{"a^[9P", ". 0,0"},
	)
}

// P9.2: lines that come and go, in the rows that go, and above and below them.
func TestLines(t *testing.T) {
	const full = "a^Eb^Ec^Ed^[2;2H" // at the second place of the second line of four
	for _, one := range []string{"", "0", "1", ";2"} {
		check(t, 2, 4,
			fed{full + "^[" + one + "L", "a./../b./c. 1,0"},
			fed{full + "^[" + one + "M", "a./c./d./.. 1,0"},
			fed{full + "^[" + one + "S", "b./c./d./.. 1,1 kept:a."},
			fed{full + "^[" + one + "T", "../a./b./c. 1,1"},
		)
	}
	for _, all := range []string{"4", "5", "9999"} {
		check(t, 2, 4,
			fed{full + "^[" + all + "L", "a./../../.. 1,0"},
			fed{full + "^[" + all + "M", "a./../../.. 1,0"},
			fed{full + "^[" + all + "S", "../../../.. 1,1 kept:b./c./d."},
			fed{full + "^[" + all + "T", "../../../.. 1,1"},
		)
	}
	check(t, 2, 4,
		fed{full + "^[2L", "a./../../b. 1,0"},
		fed{full + "^[2M", "a./d./../.. 1,0"},
		fed{full + "^[2S", "c./d./../.. 1,1 kept:a./b."},
		fed{full + "^[2T", "../../a./b. 1,1"},
		fed{full + "^[H^[L", "../a./b./c. 0,0"},
		fed{full + "^[H^[2M", "c./d./../.. 0,0"},
		fed{full + "^[4;2H^[M", "a./b./c./.. 3,0"},
		fed{full + "^[41m^[L", "a./,,/b./c. 1,0 look:0,2,0"},
		fed{full + "^[41m^[M", "a./c./d./,, 1,0 look:0,2,0"},
		fed{full + "^[41m^[S", "b./c./d./,, 1,1 look:0,2,0 kept:a."},
		fed{full + "^[41m^[T", ",,/a./b./c. 1,1 look:0,2,0"},
		fed{full + "^[" + tooMany + "L", "a./b./c./d. 1,1"},
		fed{full + "^[" + tooMany + "M", "a./b./c./d. 1,1"},
		fed{full + "^[" + tooMany + "S", "a./b./c./d. 1,1"},
		fed{full + "^[" + tooMany + "T", "a./b./c./d. 1,1"},
	)
	for _, seq := range []string{"^[L", "^[M", "^[9L", "^[9M"} {
		check(t, 2, 4,
			fed{full + "^[2;3r^[1;2H" + seq, "a./b./c./d. 0,1 rows:1,2"},
			fed{full + "^[2;3r^[4;2H" + seq, "a./b./c./d. 3,1 rows:1,2"},
			fed{full + "^[2;3r^[4;1Hxy" + seq, "a./b./c./xy 3,1 late rows:1,2"},
			fed{full + "^[2;3r^[1;1Hxy" + seq, "xy/b./c./d. 0,1 late rows:1,2"},
		)
	}
	check(t, 2, 4,
		fed{full + "^[2;3r^[2;2H^[L", "a./../b./d. 1,0 rows:1,2"},
		fed{full + "^[2;3r^[2;2H^[M", "a./c./../d. 1,0 rows:1,2"},
		fed{full + "^[2;3r^[3;2H^[L", "a./b./../d. 2,0 rows:1,2"},
		fed{full + "^[2;3r^[3;2H^[9M", "a./b./../d. 2,0 rows:1,2"},
		fed{full + "^[2;3r^[S", "a./c./../d. 0,0 rows:1,2"},
		fed{full + "^[2;3r^[4;2H^[S", "a./c./../d. 3,1 rows:1,2"},
		fed{full + "^[2;3r^[T", "a./../b./d. 0,0 rows:1,2"},
		fed{full + "^[2;3r^[9T", "a./../../d. 0,0 rows:1,2"},
		fed{full + "^[1;2r^[S", "b./../c./d. 0,0 rows:0,1 kept:a."},
		fed{full + "^[1;2r^[9S", "../../c./d. 0,0 rows:0,1 kept:a./b."},
		fed{full + "^[H^[9M", "../../../.. 0,0"},
		// L and M move, S and T do not.
		fed{"xy^[Lz", "z./xy/../.. 0,1"},
		fed{"xy^[Mz", "z./../../.. 0,1"},
		fed{"xy^[Sz", "..+/z./../.. 1,1 kept:xy"},
		fed{"xy^[Tz", "..+/zy/../.. 1,1"},
	)
}

// P9.2: the look, by all params.
func TestLooks(t *testing.T) {
	const plain = ".... 0,0"
	check(t, 4, 1,
		fed{"^[31m", plain + " look:2,0,0"},
		fed{"^[1;4;31;42m", plain + " look:2,3,9"},
		fed{"^[1;4;31;42m^[m", plain},
		fed{"^[1;4;31;42m^[0m", plain},
		fed{"^[1;4;31;42m^[;1m", plain + " look:0,0,1"},
		fed{"^[1m^[31m", plain + " look:2,0,1"},
		fed{"^[38;5;7m", plain + " look:8,0,0"},
		fed{"^[48;5;255;7m", plain + " look:0,256,32"},
		fed{"^[38;5m", plain},
		fed{"^[9999m", plain},
		fed{"^[31;" + tooMany + "m", plain},
		fed{"^[31;1;1;1;1;1;1;1;1;1;1;1;1;1;1;42m", plain + " look:2,3,1"},
		fed{"^[31ma^[mb", "Ab.. 0,2"},
		fed{"^[31mW^[mb", "X_b. 0,3"},
		fed{"abcd^[31m", "abcd 0,3 late look:2,0,0"},
	)
	x := feed(t, newTerm(t, 4, 1, 0), bytesOf("^[1;31;42mW"))
	a := api.Attr{Fg: 2, Bg: 3, Flags: api.Bold}
	if want := []api.Cell{{Text: wide, Wide: 2, Attr: a}, {Attr: a}, {Wide: 1}, {Wide: 1}}; !slices.Equal(x.Grid.Lines[0].Cells, want) {
		t.Error(x.Grid)
	}
	x = feed(t, x, bytesOf("^[K"))
	if want := (api.Cell{Wide: 1, Attr: api.Attr{Bg: 3}}); x.Grid.Lines[0].Cells[3] != want {
		t.Error(x.Grid)
	}
}

// P9.2: Insert alone is a mode that is none of the private ones.
func TestModes(t *testing.T) {
	const full = "abcd/.... 0,3 late"
	check(t, 4, 2,
		fed{"abcd^[4h", full + " insert"},
		fed{"abcd^[4h^[4h", full + " insert"},
		fed{"abcd^[4h^[4l", full},
		fed{"abcd^[4l^[4l", full},
		fed{"abcd^[4l^[4h", full + " insert"},
		fed{"abcd^[1;4;7h", full + " insert"},
		fed{"abcd^[4;4h", full + " insert"},
		fed{"abcd^[4h^[2;4l", full},
		fed{"abcd^[4h^[2;3l", full + " insert"},
		fed{"abcd^[h^[l", full},
		fed{"abcd^[4h^[l", full + " insert"},
		fed{"abcd^[6;7;25;47;1047;1049h^[6;7;25;47;1047;1049l", full},
		fed{"abcd^[1;1;1;1;1;1;1;1;1;1;1;1;1;1;1;4h", full + " insert"},
		fed{"abcd^[4;1;1;1;1;1;1;1;1;1;1;1;1;1;1;1;4h", full},
		fed{"abcd^[?4h", full},
	)
}

// P9.2: which rows go.
func TestRegion(t *testing.T) {
	const full = "abcde" // full, and one more
	check(t, 4, 4,
		fed{full + "^[2;3r", "abcd+/e.../..../.... 0,0 rows:1,2"},
		fed{full + "^[2r", "abcd+/e.../..../.... 0,0 rows:1,3"},
		fed{full + "^[2;r", "abcd+/e.../..../.... 0,0 rows:1,3"},
		fed{full + "^[2;0r", "abcd+/e.../..../.... 0,0 rows:1,3"},
		fed{full + "^[2;4r", "abcd+/e.../..../.... 0,0 rows:1,3"},
		fed{full + "^[2;5r", "abcd+/e.../..../.... 0,0 rows:1,3"},
		fed{full + "^[2;9999r", "abcd+/e.../..../.... 0,0 rows:1,3"},
		fed{full + "^[0;2r", "abcd+/e.../..../.... 0,0 rows:0,1"},
		fed{full + "^[;2r", "abcd+/e.../..../.... 0,0 rows:0,1"},
		fed{full + "^[1;2;4r", "abcd+/e.../..../.... 0,0 rows:0,1"},
		fed{full + "^[3;4r", "abcd+/e.../..../.... 0,0 rows:2,3"},
		fed{full + "^[2;3r^[r", "abcd+/e.../..../.... 0,0"},
		fed{full + "^[2;3r^[0;0r", "abcd+/e.../..../.... 0,0"},
		fed{full + "^[2;3r^[1;4r", "abcd+/e.../..../.... 0,0"},
		fed{full + "^[?6h^[2;3r", "abcd+/e.../..../.... 1,0 rows:1,2 origin"},
		fed{full + "^[2;3r^[?6h^[3;4r", "abcd+/e.../..../.... 2,0 rows:2,3 origin"},
		fed{"abcd^[r", "abcd/..../..../.... 0,0"},
		fed{"abcd^[re", "ebcd/..../..../.... 0,1"},
	)
	for _, none := range []string{"1;1", "2;2", "3;2", "4", "4;4", "5", "5;5", "9999", "9999;9999", ";1", "0;1", "4;1", tooMany} {
		check(t, 4, 4,
			fed{full + "^[2;3r^[3;3H^[" + none + "r", "abcd+/e.../..../.... 2,2 rows:1,2"},
			fed{"abcd^[" + none + "r", "abcd/..../..../.... 0,3 late"},
		)
	}
	for _, any := range []string{"", "1", "1;1", "1;2", "2;1", ";", "9999;9999"} {
		check(t, 4, 1, fed{"abcd^[" + any + "r", "abcd 0,3 late"})
	}
	x := feed(t, newTerm(t, 80, 50, 0), bytesOf("^[50;50r^[49;50r"))
	if x.Top != 48 || x.Bottom != 49 {
		t.Error(x.Top, x.Bottom)
	}
}

// P9.2: private modes, each twice, and several at once.
func TestPrivateModes(t *testing.T) {
	const full = "abcd/..../.... "
	check(t, 4, 3,
		fed{"abcd^[?6h", full + "0,0 origin"},
		fed{"abcd^[?6h^[2;2H^[?6h", full + "0,0 origin"},
		fed{"abcd^[?6l", full + "0,0"},
		fed{"abcd^[?6h^[2;2H^[?6l", full + "0,0"},
		fed{"abcd^[2;3r^[3;2H^[?6h", full + "1,0 rows:1,2 origin"},
		fed{"abcd^[2;3r^[?6h^[?6l", full + "0,0 rows:1,2"},
		fed{"abcd^[2;3r^[?6h^[2;2H", full + "2,1 rows:1,2 origin"},
		fed{"abcd^[2;3r^[?6h^[9;2H", full + "2,1 rows:1,2 origin"},
		fed{"abcd^[?7l", full + "0,3 nowrap"},
		fed{"abcd^[?7l^[?7l", full + "0,3 nowrap"},
		fed{"abcd^[?7h", full + "0,3 late"},
		fed{"abcd^[?7h^[?7h", full + "0,3 late"},
		fed{"abcd^[?7l^[?7h", full + "0,3"},
		fed{"abcd^[?25l", full + "0,3 late hide"},
		fed{"abcd^[?25l^[?25l", full + "0,3 late hide"},
		fed{"abcd^[?25l^[?25h", full + "0,3 late"},
		fed{"abcd^[?25h^[?25h", full + "0,3 late"},
		fed{"abcd^[?25;7l", full + "0,3 nowrap hide"},
		fed{"abcd^[?7;25l^[?25;7h", full + "0,3"},
		fed{"abcd^[?25;6;25h", full + "0,0 origin"},
		fed{"abcd^[?1;25;2004l", full + "0,3 late hide"},
		fed{"abcd^[?h^[?l", full + "0,3 late"},
		fed{"abcd^[?0;1;2;3;4;5;8;9;26;46;48;1000;1046;1048;1050;9999h", full + "0,3 late"},
		fed{"abcd^[?25;1;1;1;1;1;1;1;1;1;1;1;1;1;1;1l", full + "0,3 late hide"},
		fed{"abcd^[?25;1;1;1;1;1;1;1;1;1;1;1;1;1;1;1;1l", full + "0,3 late"},
	)
}

// P9.2: the other grid, and the main one again.
func TestOtherGrid(t *testing.T) {
	for _, mode := range []string{"47", "1047", "1049"} {
		on, off := "^[?"+mode+"h", "^[?"+mode+"l"
		check(t, 4, 2,
			fed{"abcd" + on, "..../.... 0,3 saved:0,3 main:abcd/...."},
			fed{"abcd" + on + on, "..../.... 0,3 saved:0,3 main:abcd/...."},
			fed{"abcd" + on + "\rx" + on, "x.../.... 0,1 saved:0,3 main:abcd/...."},
			fed{"abcd" + on + "e", "...e/.... 0,3 late saved:0,3 main:abcd/...."},
			fed{"abcd" + on + "efgh" + off, "abcd/.... 0,3 saved:0,3"},
			fed{"abcd" + on + "efgh" + off + off, "abcd/.... 0,3 saved:0,3"},
			fed{"abcd" + off, "abcd/.... 0,3 late"},
			fed{"ab^[2;2H^[31;41m^[?6h^[2;3H" + on + "^[m^[?6lx" + off, "ab../.... 1,2 look:2,2,0 saved:1,2 savedlook:2,2,0 savedorigin origin"},
			fed{"ab^[2;2H^[41m" + on, "..../.... 1,1 look:0,2,0 saved:1,1 savedlook:0,2,0 main:ab../...."},
			fed{"ab" + on + "\n\n\n\nxy", "..../..xy 1,3 late saved:0,2 main:ab../...."},
			fed{"ab" + on + "\r\nc\r\nd\r\ne^[S^[2;1H^[M" + off, "ab../.... 0,2 saved:0,2"},
			fed{"ab" + on + "\r\nc\r\nd\r\ne", "d.../e... 1,1 saved:0,2 main:ab../...."},
			fed{"ab" + on + "c^[2;2H^7" + off, "ab../.... 1,1 saved:1,1"},
			fed{"ab" + on + "c" + off + on + "d", "..d./.... 0,3 saved:0,2 main:ab../...."},
			fed{"a\n\nb" + on + "\n\n\n\n" + off + "\nc", ".b../..c. 1,3 saved:1,2 kept:a.../...."},
			fed{"a^[?" + mode + ";25l", "a.../.... 0,1 hide"},
			fed{"a^[?" + mode + ";7;" + mode + "h", "..../.... 0,1 saved:0,1 main:a.../...."},
			fed{"a^[?47;1047;1049h", "..../.... 0,1 saved:0,1 main:a.../...."},
			fed{"a^[?47h^[?1047;47;1049l", "a.../.... 0,1 saved:0,1"},
			fed{"a" + on + "b^[?4h^[4h^[1;2r^[?7l^[?25l" + off, "a.../.... 0,1 saved:0,1 nowrap insert hide"},
		)
		check(t, 2, 3, fed{"^[2;3r" + on + "^[3;1Ha^Db" + off, "../../.. 0,0 rows:1,2"})
	}
}

// P9.2: what the chapter does not name does nothing.
func TestOthers(t *testing.T) {
	x := feed(t, newTerm(t, 3, 4, keep), bytesOf("^[41mabc^[2;3r^[31m\n\n\n^[2;3H^7^[1;1Hab^[42mcde^[2;1Hfgh"))
	if !x.Late {
		t.Fatal(text(x))
	}
	nothing := func(s string) {
		t.Helper()
		if got := feed(t, x, s); !same(got, x) {
			t.Errorf("%q: %s, want %s", s, text(got), text(x))
		}
	}
	for _, params := range []string{"", "0", "1", "2;2", "4", "6", "7", "25", "47", "1049"} {
		for code := rune('@'); code < 127; code++ {
			if !strings.ContainsRune("ABCDEFGHfdJKX@PLMSTmhlrsu", code) {
				nothing(csi(params, code))
			}
			if code != 'h' && code != 'l' {
				nothing(csi("?"+params, code))
			}
			for _, private := range "<=>" {
				nothing(csi(string(private)+params, code))
			}
			for between := ' '; between < '0'; between++ {
				nothing(csi(params+string(between), code))
				nothing(csi("?"+params+string(between), code))
			}
		}
	}
	for code := rune('0'); code < 127; code++ {
		if !strings.ContainsRune("78DEMc[]PX^_", code) {
			nothing(escape + string(code))
		}
		for between := ' '; between < '0'; between++ {
			nothing(escape + string(between) + string(code))
		}
	}
	for _, text := range []string{"Pabc", "X2;abc", "^2;a", "_2;a"} {
		nothing(escape + text + escape + "\\")
	}
}

// P9.2: titles.
func TestTitles(t *testing.T) {
	long := strings.Repeat("x", 32)
	wide16 := strings.Repeat("\u00e4", 16)
	for _, c := range []struct{ osc, want string }{
		{"2;a", "a"},
		{"0;a", "a"},
		{"2;", ""},
		{"0;", ""},
		{"2;" + long, long},
		{"0;" + long, long},
		{"2;" + long + "x", "old"},
		{"0;" + long + "x", "old"},
		{"2;" + wide16, wide16},
		{"2;" + wide16 + "x", "old"},
		{"2;" + strings.Repeat("x", 200), "old"},
		{"2;a;b", "a;b"},
		{"2; ", " "},
		{"2;\u4e00\u0301\u0085", "\u4e00\u0301\u0085"},
		{"2;\x7f", "\x7f"},
		{"2;\xff", "old"},
		{"2;a\xc3", "old"},
		{"2;\xed\xa0\x80", "old"},
		{"0;\x80", "old"},
		{"1;a", "old"},
		{"3;a", "old"},
		{"20;a", "old"},
		{"02;a", "old"},
		{";a", "old"},
		{"a", "old"},
		{"", "old"},
		{"2", "old"},
		{"0", "old"},
		{"2a", "old"},
		{" 2;a", "old"},
		{"l2;a", "old"},
	} {
		for _, end := range []string{"\a", escape + "\\"} {
			x := feed(t, newTerm(t, 4, 1, 0), bytesOf("abcd^]2;old\a"))
			got := feed(t, x, escape+"]"+c.osc+end)
			x.Title = c.want
			if !same(got, x) {
				t.Errorf("%q: %s, want %s", c.osc, text(got), text(x))
			}
		}
	}
	check(t, 4, 1,
		fed{"^]2;a^]0;b\a", ".... 0,0 title:b"},
		fed{"^]2;a\x18", ".... 0,0"},
		fed{"^]2;a\x1a", ".... 0,0"},
		fed{"^]2;a", ".... 0,0"},
		fed{"^]2;a\n\rb\a", ".... 0,0 title:ab"},
	)
}

// P9.2: what went up is kept, as far as there is room.
func TestKept(t *testing.T) {
	for _, c := range []struct {
		keep int
		want string
	}{
		{0, "d.../e... 1,1"},
		{1, "d.../e... 1,1 kept:c..."},
		{2, "d.../e... 1,1 kept:b.../c..."},
		{3, "d.../e... 1,1 kept:a.../b.../c..."},
		{40, "d.../e... 1,1 kept:a.../b.../c..."},
	} {
		x := feed(t, newTerm(t, 4, 2, c.keep), bytesOf("a^Eb^Ec^Ed^Ee"))
		if text(x) != c.want || x.Back.Max != c.keep {
			t.Errorf("%d: %s, want %s", c.keep, text(x), c.want)
		}
	}
	x := newTerm(t, 3, 1, 40)
	for i := range 50 {
		x = feed(t, x, strconv.Itoa(i)+"\r\n")
	}
	if n := len(x.Back.Lines); n != 40 || linesText(x.Back.Lines[:1]) != "10." || linesText(x.Back.Lines[39:]) != "49." {
		t.Error(text(x))
	}
}
