package term

import (
	"slices"
	"strconv"
	"strings"
	"testing"

	"backseat/api"
)

// dice are numbers that look thrown, and are the same ones each time.
type dice uint64

func (d *dice) roll(n int) int {
	*d = *d*6364136223846793005 + 1442695040888963407
	return int(uint64(*d) >> 33 % uint64(n))
}

func pick[T any](d *dice, of []T) T { return of[d.roll(len(of))] }

// tokens are bytes that do one thing each, or nothing.
func tokens() []string {
	out := []string{"a", "b", wide, mark, "\b", "\t", "\n", "\r", "\x00", "\xff", "\x7f", "\u0085"}
	for _, code := range "78DEMcZ" {
		out = append(out, escape+string(code))
	}
	for _, code := range "ABCDEFGdX@PLMST" {
		out = append(out, csi("", code), csi("2", code))
	}
	for _, params := range []string{"", "1", "2", "3", "4"} {
		out = append(out, csi(params, 'J'), csi(params, 'K'))
	}
	for _, params := range []string{"", "2;2", "3;1", "1;3", "9;9"} {
		out = append(out, csi(params, 'H'), csi(params, 'r'))
	}
	for _, code := range "hl" {
		for _, params := range []string{"4", "?6", "?7", "?25", "?47", "?1049;6"} {
			out = append(out, csi(params, code))
		}
	}
	return append(out, csi("2;2", 'f'), csi("", 's'), csi("", 'u'), csi("", 'm'), csi("1;31;42", 'm'), csi("2 ", 'A'), escape+"]2;x\a")
}

// agree feeds a terminal, and holds what comes of it against the model.
func agree(t *testing.T, x api.Term, s string) api.Term {
	t.Helper()
	got, why := Feed(x, s)
	if want := wantFeed(x, s); why != api.OK || !same(got, want) {
		t.Fatalf("%q to %s: %d %s, want %s", s, text(x), why, text(got), text(want))
	}
	if !Right(got) {
		t.Fatalf("%q to %s: %s may not be", s, text(x), text(got))
	}
	return got
}

// P9.2, P9.3: each two things, one behind the other, on terminals of several sizes, of which some have more than a new one.
func TestEachTwo(t *testing.T) {
	const ahead = "a\u4e00bcd\u4e00\u0301e^[41m^[K^[2;3rf^[2;2H"
	for _, size := range [][2]int{{1, 1}, {1, 3}, {2, 1}, {3, 2}, {4, 3}} {
		for _, first := range []string{"", "ab", ahead, ahead + "^[?47hx^[?6h", "^[?7l^[4h^[32mabc"} {
			x := agree(t, newTerm(t, size[0], size[1], 2), bytesOf(first))
			for _, one := range tokens() {
				y := agree(t, x, one)
				for _, two := range tokens() {
					agree(t, y, two)
				}
			}
		}
	}
}

// randomBytes are of things that are done, and of bytes alone.
func randomBytes(d *dice, all []string, n int) string {
	var s strings.Builder
	for range n {
		switch d.roll(8) {
		case 0:
			s.WriteString(strings.Repeat(pick(d, []string{"x", wide, "yz", "\n", "q" + mark}), 1+d.roll(9)))
		case 1:
			var params []string
			for range d.roll(4) {
				params = append(params, strconv.Itoa(pick(d, []int{0, 1, 2, 3, 4, 5, 6, 7, 9, 22, 25, 31, 38, 41, 47, 48, 80, 95, 103, 1047, 1049, 9999})))
			}
			s.WriteString(csi(pick(d, []string{"", "", "", "?", ">"})+strings.Join(params, ";"), pick(d, []rune("ABCDEFGHfdJKX@PLMSTmhlrsuhlJKW"))))
		case 2:
			s.WriteByte(byte(d.roll(256)))
		default:
			s.WriteString(pick(d, all))
		}
	}
	return s.String()
}

// randomLine is a line that fits, or that does so when it is mended.
func randomLine(d *dice, cols int) api.Line {
	l := api.Line{Soft: d.roll(3) == 0}
	looks := []api.Attr{{}, {}, {}, {Fg: 2}, {Bg: 3}, {Fg: 256, Bg: 256, Flags: 255}}
	shape := d.roll(4)
	for range cols {
		c := api.Cell{Wide: 1, Attr: pick(d, looks)}
		switch r := d.roll(8); {
		case shape == 0:
			c = api.Cell{Wide: 1}
		case r < 3:
			c.Text = pick(d, []string{"a", "b", "c" + mark, "d" + mark + mark})
		case r < 6 && len(l.Cells)+1 < cols:
			c.Text, c.Wide = pick(d, []string{wide, wide + mark}), 2
			l.Cells = append(l.Cells, c)
			c = api.Cell{Attr: pick(d, looks)}
		case r == 6:
			c.Attr = api.Attr{}
		}
		l.Cells = append(l.Cells, c)
		if len(l.Cells) >= cols {
			break
		}
	}
	l.Cells = tidy(l.Cells[:cols])
	return l
}

func randomGrid(d *dice, cols, rows int) api.Grid {
	g := api.Grid{Cols: cols}
	for range rows {
		g.Lines = append(g.Lines, randomLine(d, cols))
	}
	return g
}

// randomTerm is a terminal that may be, whether bytes come to it or not.
func randomTerm(d *dice, maxCols, maxRows int) api.Term {
	cols, rows := 1+d.roll(maxCols), 1+d.roll(maxRows)
	x := api.Term{Grid: randomGrid(d, cols, rows), Row: d.roll(rows), Col: d.roll(cols), Wrap: d.roll(4) > 0}
	x.Late = x.Wrap && x.Col == cols-1 && d.roll(2) == 0
	if d.roll(3) == 0 {
		x.Alt, x.Main = true, randomGrid(d, cols, rows)
	}
	if rows > 1 {
		x.Top = d.roll(rows - 1)
		x.Bottom = x.Top + 1 + d.roll(rows-1-x.Top)
		if d.roll(2) == 0 {
			x.Top, x.Bottom = 0, rows-1
		}
	}
	look := func() api.Attr {
		if d.roll(2) == 0 {
			return api.Attr{}
		}
		return api.Attr{Fg: d.roll(257), Bg: d.roll(257), Flags: d.roll(256)}
	}
	x.Look = look()
	x.Saved = api.Saved{Row: pick(d, []int{0, 1, 2, 79}), Col: pick(d, []int{0, 1, 3, 79}), Look: look(), Origin: d.roll(2) == 0}
	x.Origin, x.Insert, x.Hide = d.roll(3) == 0, d.roll(4) == 0, d.roll(2) == 0
	x.Back.Max = d.roll(5)
	for range d.roll(x.Back.Max + 1) {
		x.Back.Lines = append(x.Back.Lines, randomLine(d, 1+d.roll(maxCols)))
	}
	x.Title = pick(d, []string{"", "old", strings.Repeat("\u00e4", 16)})
	return x
}

// P9.2, P9.3: many things, on terminals of any kind, with a size now and then.
func TestManyThings(t *testing.T) {
	d := dice(1)
	all := tokens()
	for range 3000 {
		x := randomTerm(&d, 7, 5)
		if !Right(x) {
			t.Fatalf("%s may not be", text(x))
		}
		for range 8 {
			x = agree(t, x, randomBytes(&d, all, 1+d.roll(12)))
			x = agreeOnSize(t, x, 1+d.roll(9), 1+d.roll(6))
		}
	}
}

// agreeOnSize has a terminal be of another size, and holds what comes of it against the model.
func agreeOnSize(t *testing.T, x api.Term, cols, rows int) api.Term {
	t.Helper()
	got, why := Resize(x, cols, rows)
	if want := wantResize(x, cols, rows); why != api.OK || !same(got, want) {
		t.Fatalf("%s to %d, %d: %d %s, want %s", text(x), cols, rows, why, text(got), text(want))
	}
	if !Right(got) {
		t.Fatalf("%s to %d, %d: %s may not be", text(x), cols, rows, text(got))
	}
	return got
}

// P9.2: large terminals, of large sizes.
func TestLargeOnes(t *testing.T) {
	d := dice(2)
	all := tokens()
	for range 12 {
		x := newTerm(t, 80, 50, 40)
		for range 4 {
			x = agree(t, x, randomBytes(&d, all, 150))
			x = agreeOnSize(t, x, pick(&d, []int{1, 2, 79, 80}), pick(&d, []int{1, 2, 49, 50}))
		}
	}
}

// P9.2: each size to each other one, of a few lines.
func TestEachSize(t *testing.T) {
	d := dice(3)
	for range 150 {
		x := randomTerm(&d, 6, 4)
		for cols := 1; cols < 9; cols++ {
			for rows := 1; rows < 7; rows++ {
				agreeOnSize(t, x, cols, rows)
			}
		}
	}
}

// P9.3: bytes in two parts come to the same as in one, cut at each byte, also where they are cut within a letter, or a sequence.
func TestTwoParts(t *testing.T) {
	d := dice(4)
	all := tokens()
	for range 300 {
		x := randomTerm(&d, 6, 4)
		s := randomBytes(&d, all, 1+d.roll(10))
		want := feed(t, x, s)
		for i := range len(s) + 1 {
			if got := feed(t, feed(t, x, s[:i]), s[i:]); !same(got, want) {
				t.Fatalf("%q and %q to %s: %s, want %s", s[:i], s[i:], text(x), text(got), text(want))
			}
		}
	}
}

// P9.3: letters of width 1, as many as fit the line, stand there as they came, wherever it stands.
func TestLettersStand(t *testing.T) {
	const letters = "\u00e4b~\u20ac\U00010348 !\ufffdz"
	d := dice(5)
	for range 500 {
		x := randomTerm(&d, 9, 4)
		x.Late = false
		row := x.Row
		came := []rune(letters)[:min(len([]rune(letters)), x.Grid.Cols-x.Col)]
		y := feed(t, x, string(came))
		for i, r := range came {
			if c := y.Grid.Lines[row].Cells[x.Col+i]; c != (api.Cell{Text: string(r), Wide: 1, Attr: x.Look}) {
				t.Fatalf("%q to %s: %s", string(came), text(x), text(y))
			}
		}
		if y.Row != row || y.Late != (x.Wrap && x.Col+len(came) == x.Grid.Cols) {
			t.Fatalf("%q to %s: %s", string(came), text(x), text(y))
		}
	}
}

// spare is the terminal, with room behind each of its lists: what is written there is seen by who has the lists whole.
func spare(x api.Term) (api.Term, func() bool) {
	var all [][]api.Line
	var cells [][]api.Cell
	room := func(lines []api.Line) []api.Line {
		whole := append(copyLines(lines), api.Line{Soft: true}, api.Line{Soft: true})
		for i := range lines {
			row := append(whole[i].Cells, api.Cell{Text: "spare"}, api.Cell{Text: "spare"})
			cells = append(cells, row)
			whole[i].Cells = row[:len(row)-2]
		}
		all = append(all, whole)
		return whole[:len(lines)]
	}
	x.Grid.Lines, x.Main.Lines, x.Back.Lines = room(x.Grid.Lines), room(x.Main.Lines), room(x.Back.Lines)
	lines, ahead := copyAll(all), copyAll(cells)
	return x, func() bool {
		for i := range all {
			if !sameLines(all[i], lines[i]) {
				return false
			}
		}
		return slices.EqualFunc(cells, ahead, slices.Equal[[]api.Cell])
	}
}

func copyAll[T any](lists [][]T) [][]T {
	var out [][]T
	for _, l := range lists {
		out = append(out, slices.Clone(l))
	}
	return out
}

// R4: what is handed in stays, also behind its end; and what one call answered stays behind the next one.
func TestArgumentsStay(t *testing.T) {
	d := dice(6)
	all := tokens()
	for range 400 {
		x, stays := spare(randomTerm(&d, 6, 4))
		ahead := copyOf(x)
		s := randomBytes(&d, all, 1+d.roll(8))
		y := feed(t, x, s)
		yAhead := copyOf(y)
		z := feed(t, x, s+"^[2J")
		resize(t, x, 1+d.roll(7), 1+d.roll(5))
		resize(t, y, 1+d.roll(7), 1+d.roll(5))
		for _, one := range []string{"abcdefgh\u4e00\n\n\n\n", escape + "[2J", escape + "[H" + escape + "[9L", escape + "c", escape + "[?47lxyz", escape + "[?47hxyz"} {
			feed(t, y, one)
			feed(t, x, one)
			feed(t, z, one)
		}
		if !stays() || !same(x, ahead) {
			t.Fatalf("%q changed %s", s, text(ahead))
		}
		if !same(y, yAhead) {
			t.Fatalf("%q: what it answered was changed, %s", s, text(yAhead))
		}
	}
	x := newTerm(t, 4, 2, keep)
	x.Parser = api.Parser{State: api.SCsi, Params: append(make([]int, 0, 16), 1, 2)}
	feed(t, x, "3;4;5H")
	if !slices.Equal(x.Parser.Params[:4], []int{1, 2, 0, 0}) {
		t.Error(x.Parser.Params[:4])
	}
}
