package flow

import (
	"slices"
	"strconv"
	"strings"
	"testing"

	"backseat/api"
	"backseat/grid"
)

const (
	lowest  = -1 << 63
	highest = 1<<63 - 1
)

// inked is the look of letters.
func inked() api.Attr { return api.Attr{Fg: 256, Bg: 3, Flags: api.Bold | api.Strike} }

// cellOf is a cell by the letter it is written out with: "W" and "_" the halves of a wide letter, "V" the left half of a wide one with marks, "M" a letter with marks, "~" the letter that is a blank, "." a blank cell of no look; ",", ";" and ":" blank ones of a ground, a colour and a flag alone; any other one itself.
func cellOf(r rune) api.Cell {
	switch r {
	case 'W':
		return api.Cell{Text: "一", Wide: 2, Attr: inked()}
	case 'V':
		return api.Cell{Text: "字\u0301\u0308", Wide: 2}
	case '_':
		return api.Cell{Attr: inked()}
	case 'M':
		return api.Cell{Text: "m\u0301\ufe0f", Wide: 1}
	case '~':
		return api.Cell{Text: " ", Wide: 1}
	case '.':
		return api.Cell{Wide: 1}
	case ',':
		return api.Cell{Wide: 1, Attr: api.Attr{Bg: 1}}
	case ';':
		return api.Cell{Wide: 1, Attr: api.Attr{Fg: 1}}
	case ':':
		return api.Cell{Wide: 1, Attr: api.Attr{Flags: api.Underline}}
	}
	return api.Cell{Text: string(r), Wide: 1, Attr: inked()}
}

// rowOf is cells that are written out. Behind the list there is room, with cells in it that no call may write over.
func rowOf(text string) []api.Cell {
	var cells []api.Cell
	for _, r := range text {
		cells = append(cells, cellOf(r))
	}
	n := len(cells)
	return slices.Concat(cells, slices.Repeat([]api.Cell{cellOf('x')}, 3))[:n]
}

// lineOf is a line that is written out; "+" at the end: it is Soft.
func lineOf(text string) api.Line {
	cells, soft := strings.CutSuffix(text, "+")
	return api.Line{Cells: rowOf(cells), Soft: soft}
}

// linesOf are lines that are written out, with a blank between each two. Behind the list there is room, too.
func linesOf(text string) []api.Line {
	var lines []api.Line
	for word := range strings.FieldsSeq(text) {
		lines = append(lines, lineOf(word))
	}
	n := len(lines)
	return slices.Concat(lines, slices.Repeat([]api.Line{lineOf("spare")}, 5))[:n]
}

// rowsOf are rows that are written out, with a blank between each two; "-" is one of nothing.
func rowsOf(text string) [][]api.Cell {
	var rows [][]api.Cell
	for word := range strings.FieldsSeq(text) {
		rows = append(rows, rowOf(strings.Trim(word, "-")))
	}
	return rows
}

func sameLine(a, b api.Line) bool { return a.Soft == b.Soft && slices.Equal(a.Cells, b.Cells) }

// sameLines tells whether lines are the same; a nil list is as an empty one.
func sameLines(a, b []api.Line) bool { return slices.EqualFunc(a, b, sameLine) }

func sameRows(a, b [][]api.Cell) bool { return slices.EqualFunc(a, b, slices.Equal[[]api.Cell]) }

// toldRow is cells as a failing test tells them: the first few.
func toldRow(cells []api.Cell) string {
	text := "[" + strconv.Itoa(len(cells)) + " cells"
	for _, c := range cells[:min(12, len(cells))] {
		text += " " + strconv.Quote(c.Text) + strconv.Itoa(c.Wide)
		if c.Attr != (api.Attr{}) {
			text += ":" + strconv.Itoa(c.Attr.Fg) + "," + strconv.Itoa(c.Attr.Bg) + "," + strconv.Itoa(c.Attr.Flags)
		}
	}
	return text + "]"
}

func toldRows(rows [][]api.Cell) string {
	text := strconv.Itoa(len(rows)) + ":"
	for _, cells := range rows[:min(8, len(rows))] {
		text += " " + toldRow(cells)
	}
	return text
}

func told(lines []api.Line) string {
	text := strconv.Itoa(len(lines)) + ":"
	for _, l := range lines[:min(8, len(lines))] {
		text += " " + toldRow(l.Cells)
		if l.Soft {
			text += "+"
		}
	}
	return text
}

// witness is what lines are, with the room behind each list, and tells whether they are still so.
func witness(lines []api.Line) (stays func() bool) {
	whole := func() []api.Line {
		var all []api.Line
		for _, l := range lines[:cap(lines)] {
			l.Cells = slices.Clone(l.Cells[:cap(l.Cells)])
			all = append(all, l)
		}
		return all
	}
	ahead := whole()
	return func() bool { return sameLines(ahead, whole()) }
}

// joins checks what Join makes of lines, and that they stay as they were.
func joins(t *testing.T, l []api.Line, want [][]api.Cell) {
	t.Helper()
	stays := witness(l)
	got, why := Join(l)
	if why != api.OK || !sameRows(got, want) || !stays() {
		t.Fatalf("Join of (%s): (%s) %d, want (%s)", told(l), toldRows(got), why, toldRows(want))
	}
}

// folds checks what Fold makes of a row, that it fits, and that the row stays as it was.
func folds(t *testing.T, c []api.Cell, cols int, want []api.Line) {
	t.Helper()
	stays := witness([]api.Line{{Cells: c}})
	got, why := Fold(c, cols)
	if why != api.OK || !sameLines(got, want) || !fit(got, cols) || !stays() {
		t.Fatalf("Fold of %s, %d: (%s) %d, want (%s)", toldRow(c), cols, told(got), why, told(want))
	}
}

func fit(lines []api.Line, cols int) bool {
	return !slices.ContainsFunc(lines, func(l api.Line) bool { return !grid.Fits(l, cols) })
}

// flows checks what Flow makes of lines, that it fits, and that they stay as they were.
func flows(t *testing.T, l []api.Line, cols int, want []api.Line) []api.Line {
	t.Helper()
	stays := witness(l)
	got, why := Flow(l, cols)
	if why != api.OK || !sameLines(got, want) || !fit(got, cols) || !stays() {
		t.Fatalf("Flow of (%s), %d: (%s) %d, want (%s)", told(l), cols, told(got), why, told(want))
	}
	return got
}

// says checks what Letters tells of lines, and that they stay as they were.
func says(t *testing.T, l []api.Line, want ...string) {
	t.Helper()
	stays := witness(l)
	if got, why := Letters(l); why != api.OK || !slices.Equal(got, want) || !stays() {
		t.Fatalf("Letters of (%s): %q %d, want %q", told(l), got, why, want)
	}
}

// wrong checks that all calls tell ErrArg of lines, and nothing beside it, whatever cols is.
func wrong(t *testing.T, l []api.Line) {
	t.Helper()
	stays := witness(l)
	if got, why := Join(l); why != api.ErrArg || len(got) > 0 {
		t.Errorf("Join of (%s): (%s) %d", told(l), toldRows(got), why)
	}
	if got, why := Letters(l); why != api.ErrArg || len(got) > 0 {
		t.Errorf("Letters of (%s): %q %d", told(l), got, why)
	}
	for _, cols := range []int{1, 2, 3, 80, 0, 81} {
		wrongFlow(t, l, cols)
	}
	if !stays() {
		t.Errorf("(%s) was changed", told(l))
	}
}

func wrongFlow(t *testing.T, l []api.Line, cols int) {
	t.Helper()
	if got, why := Flow(l, cols); why != api.ErrArg || len(got) > 0 {
		t.Errorf("Flow of (%s), %d: (%s) %d", told(l), cols, told(got), why)
	}
}

func wrongFold(t *testing.T, c []api.Cell, cols int) {
	t.Helper()
	if got, why := Fold(c, cols); why != api.ErrArg || len(got) > 0 {
		t.Errorf("Fold of %s, %d: (%s) %d", toldRow(c), cols, told(got), why)
	}
}

func TestExample(t *testing.T) {
	flows(t, linesOf("abc+ de"), 4, linesOf("abcd+ e..."))
}

// P8.1: lines that go on, and that don't, the last one, too; ends that are blank, of no look, of a look, or nothing but such.
func TestJoin(t *testing.T) {
	for _, c := range []struct{ lines, want string }{
		{"", ""},
		{"a", "a"},
		{"a+", "a"},
		{"a b", "a b"},
		{"a+ b", "ab"},
		{"a+ b+", "ab"},
		{"a b+", "a b"},
		{"a+ b c", "ab c"},
		{"a b+ c", "a bc"},
		{"a+ b+ c+ d+ e", "abcde"},
		{"abc+ W_ d+ .e+ f g+", "abcW_ d.ef g"},
		{".", "-"},
		{".+", "-"},
		{"...+ ..+ . .", "- -"},
		{". a .", "- a -"},
		{"a.. .b", "a .b"},
		{"a..+ b..", "a..b"},
		{"a..+ ..b+ ..", "a....b"},
		{"a..+ ...+ .", "a"},
		{"a.+ . b", "a b"},
		{"ab..+", "ab"},
		{"..+ a", "..a"},
		{"W_. V_.", "W_ V_"},
		{"aW_.+ V_", "aW_.V_"},
		{"W_", "W_"},
		{"M~. ~M", "M~ ~M"},
		{"~", "~"},
		{"ab b", "ab b"},
		{";.. :. ,", "; : ,"},
		{".;.+ .:.+ .,.+ ...", ".;..:..,"},
		{",,, ;;;+ :::+", ",,, ;;;:::"},
		{",.", ","},
		{".,", ".,"},
	} {
		joins(t, linesOf(c.lines), rowsOf(c.want))
	}
}

// P8.1: rows of no cells, of one, of as many as a line has, of one more; wide letters at a line's end, and where cols is 1; blank cells, which all stay.
func TestFold(t *testing.T) {
	for _, c := range []struct {
		row  string
		cols int
		want string
	}{
		{"", 1, "."},
		{"", 2, ".."},
		{"", 4, "...."},
		{"a", 1, "a"},
		{"a", 2, "a."},
		{"a", 4, "a..."},
		{"abc", 4, "abc."},
		{"abcd", 4, "abcd"},
		{"abcde", 4, "abcd+ e..."},
		{"abcdefgh", 4, "abcd+ efgh"},
		{"abcdefghi", 4, "abcd+ efgh+ i..."},
		{"abc", 1, "a+ b+ c"},
		{"abc", 2, "ab+ c."},
		{"ab.", 2, "ab+ .."},
		{"....", 4, "...."},
		{".....", 4, "....+ ...."},
		{"..", 1, ".+ ."},
		{".....a", 2, "..+ ..+ .a"},
		{",;:,;", 3, ",;:+ ,;."},
		{"M~M~M", 2, "M~+ M~+ M."},
		{"W_", 1, "."},
		{"W_V_", 1, "."},
		{"aW_", 1, "a"},
		{"W_a", 1, "a"},
		{"aW_b", 1, "a+ b"},
		{"W_aV_W_bV_", 1, "a+ b"},
		{".W_", 1, "."},
		{"W_.", 1, "."},
		{".W_.", 1, ".+ ."},
		{"W_", 2, "W_"},
		{"W_", 3, "W_."},
		{"W_V_", 2, "W_+ V_"},
		{"aW_", 2, "a.+ W_"},
		{"W_a", 2, "W_+ a."},
		{"aW_b", 2, "a.+ W_+ b."},
		{"aW_V_b", 3, "aW_+ V_b"},
		{"abW_V_c", 3, "ab.+ W_.+ V_c"},
		{"W_V_W_V_", 3, "W_.+ V_.+ W_.+ V_."},
		{"W_V_W_", 4, "W_V_+ W_.."},
		{"W_V_W_", 5, "W_V_.+ W_..."},
		{"abW_", 4, "abW_"},
		{"abcW_", 4, "abc.+ W_.."},
		{"abcdW_", 4, "abcd+ W_.."},
		{"abc.W_", 4, "abc.+ W_.."},
		{",,,W_", 4, ",,,.+ W_.."},
		{";:;W_,:,", 4, ";:;.+ W_,:+ ,..."},
	} {
		folds(t, rowOf(c.row), c.cols, linesOf(c.want))
	}
}

// P8.1: cols of 80, and rows of up to 16000 cells.
func TestFoldLong(t *testing.T) {
	full, wides := strings.Repeat("a", 80), strings.Repeat("W_", 40)
	folds(t, nil, 80, linesOf(strings.Repeat(".", 80)))
	folds(t, rowOf("a"), 80, linesOf("a"+strings.Repeat(".", 79)))
	folds(t, rowOf(full), 80, linesOf(full))
	folds(t, rowOf(full+"a"), 80, linesOf(full+"+ a"+strings.Repeat(".", 79)))
	folds(t, rowOf(","+wides), 80, linesOf(","+wides[:78]+".+ W_"+strings.Repeat(".", 78)))
	folds(t, rowOf(wides+","), 79, linesOf(wides[:78]+".+ W_,"+strings.Repeat(".", 76)))
	folds(t, rowOf(strings.Repeat(full, 200)), 80, linesOf(strings.Repeat(full+"+ ", 199)+full))
	folds(t, rowOf(strings.Repeat(wides, 200)), 80, linesOf(strings.Repeat(wides+"+ ", 199)+wides))
	folds(t, rowOf(strings.Repeat(wides, 200)), 1, linesOf("."))
	folds(t, rowOf(strings.Repeat("a", 16000)), 1, linesOf(strings.Repeat("a+ ", 15999)+"a"))
	folds(t, rowOf(strings.Repeat(",", 15999)), 2, linesOf(strings.Repeat(",,+ ", 7999)+",."))
	folds(t, rowOf(strings.Repeat(".", 16000)), 3, linesOf(strings.Repeat("...+ ", 5333)+"..."))
	folds(t, rowOf(strings.Repeat("aW_", 5333)+"a"), 2, linesOf(strings.Repeat("a.+ W_+ ", 5333)+"a."))
	for cols := 1; cols <= 80; cols++ {
		folds(t, rowOf(full), cols, linesOf(strings.Repeat(full[:cols]+"+ ", (80-1)/cols)+full[:(80-1)%cols+1]+strings.Repeat(".", cols-1-(80-1)%cols)))
	}
}

// badCols are widths that no lines flow to.
func badCols() []int {
	return []int{0, 81, -1, 82, -80, 160, 1 << 32, 1<<32 + 4, -1 << 32, highest, lowest, lowest + 4}
}

// P8.1: cols that may not be; rows that are too long, or do not fit.
func TestFoldWrong(t *testing.T) {
	for _, cols := range badCols() {
		for _, text := range []string{"", "a", "aW_.b", "W", strings.Repeat("a", 81)} {
			wrongFold(t, rowOf(text), cols)
		}
	}
	for _, cols := range []int{1, 2, 4, 80} {
		for _, n := range []int{16001, 16002, 32000, 1<<16 + 1} {
			wrongFold(t, rowOf(strings.Repeat("a", n)), cols)
			wrongFold(t, rowOf(strings.Repeat(".", n)), cols)
		}
		wrongFold(t, rowOf(strings.Repeat("W_", 8001)), cols)
		for _, text := range []string{"W", "_", "Wa", "aW", "a_", "_a", "_W", "WW_", "W__", "W.", "W_W", "_W_", "._", strings.Repeat("a", 15999) + "W", strings.Repeat("a", 15999) + "_", "_" + strings.Repeat("a", 15999)} {
			wrongFold(t, rowOf(text), cols)
		}
		for _, bad := range badCells() {
			for i := range 3 {
				row := rowOf("abc")
				row[i] = bad
				wrongFold(t, row, cols)
			}
		}
	}
}

// P8.1: lines of unlike lengths, to widths that are less, more and the same.
func TestFlow(t *testing.T) {
	for _, c := range []struct {
		lines string
		cols  int
		want  string
	}{
		{"", 1, ""},
		{"", 80, ""},
		{"a", 1, "a"},
		{"a+", 1, "a"},
		{".", 3, "..."},
		{".+ .+", 3, "..."},
		{". .", 1, ". ."},
		{"abc de", 4, "abc. de.."},
		{"abc+ de+", 4, "abcd+ e..."},
		{"abc+ de f", 4, "abcd+ e... f..."},
		{"abc+ de f+ ghi+ jklm", 4, "abcd+ e... fghi+ jklm"},
		{"abcd+ e...", 3, "abc+ de."},
		{"abcd+ e...", 2, "ab+ cd+ e."},
		{"abcd+ e...", 1, "a+ b+ c+ d+ e"},
		{"abcd+ e...", 4, "abcd+ e..."},
		{"abcd+ e...", 8, "abcde..."},
		{"ab..+ c...", 3, "ab.+ .c."},
		{"ab....", 2, "ab"},
		{"ab.b..", 2, "ab+ .b"},
		{"abW_ c", 3, "ab.+ W_. c.."},
		{"ab.+ W_. c..", 4, "ab..+ W_.. c..."},
		{"aW_+ b", 1, "a+ b"},
		{"W_ V_+ W_ a", 1, ". . a"},
		{"W_+ V_", 2, "W_+ V_"},
		{"a+ W_+ b", 2, "a.+ W_+ b."},
		{"MM+ ~~", 3, "MM~+ ~.."},
		{",,+ ,,.", 3, ",,,+ ,.."},
		{";;. ..:", 2, ";; ..+ :."},
		{"a..........+ b", 4, "a...+ ....+ ...b"},
	} {
		flows(t, linesOf(c.lines), c.cols, linesOf(c.want))
	}
}

// P8.1: one line, 200 lines, and one more: of one row, and of a row each.
func TestMostLines(t *testing.T) {
	full := strings.Repeat("a", 80)
	flows(t, linesOf(strings.Repeat("ab ", 200)), 1, linesOf(strings.Repeat("a+ b ", 200)))
	flows(t, linesOf(strings.Repeat(full+"+ ", 200)), 1, linesOf(strings.Repeat("a+ ", 15999)+"a"))
	flows(t, linesOf(strings.Repeat(full+"+ ", 200)), 80, linesOf(strings.Repeat(full+"+ ", 199)+full))
	flows(t, linesOf(strings.Repeat("a+ ", 200)), 80, linesOf(full+"+ "+full+"+ "+full[:40]+strings.Repeat(".", 40)))
	joins(t, linesOf(strings.Repeat(full+"+ ", 200)), rowsOf(strings.Repeat(full, 200)))
	joins(t, linesOf(strings.Repeat("a ", 200)), rowsOf(strings.Repeat("a ", 200)))
	joins(t, linesOf(strings.Repeat(strings.Repeat(".", 80)+"+ ", 200)), rowsOf("-"))
	says(t, linesOf(strings.Repeat(full+"+ ", 200)), strings.Repeat(full, 200))
	says(t, linesOf(strings.Repeat(". ", 200)), make([]string, 200)...)
	for _, n := range []int{201, 202, 400, 5000} {
		wrong(t, linesOf(strings.Repeat("a ", n)))
		wrong(t, linesOf(strings.Repeat("a+ ", n)))
		wrong(t, linesOf(strings.Repeat(full+"+ ", n)))
	}
}

// P8.2: letters with marks, blanks and right halves; blank cells of no look say something, unless they are at the end.
func TestLetters(t *testing.T) {
	for _, c := range []struct {
		lines string
		want  []string
	}{
		{"", nil},
		{"a", []string{"a"}},
		{".", []string{""}},
		{"..+ . .", []string{"", ""}},
		{"abc+ de f", []string{"abcde", "f"}},
		{"a+ b+", []string{"ab"}},
		{"W_", []string{"一"}},
		{"aW_bV_.", []string{"a一b字\u0301\u0308"}},
		{"M+ MW_", []string{"m\u0301\ufe0fm\u0301\ufe0f一"}},
		{"~ a~", []string{" ", "a "}},
		{"a.b..", []string{"a b"}},
		{"..a", []string{"  a"}},
		{", ; :", []string{" ", " ", " "}},
		{"a..,.. a.;. a:.", []string{"a   ", "a  ", "a "}},
		{"a.+ .b+ W_", []string{"a  b一"}},
		{"ab.+ W_. c..", []string{"ab 一", "c"}},
	} {
		says(t, linesOf(c.lines), c.want...)
	}
}

// The iterator hands on letters with their halves, and stops where it is left.
func TestEachLetter(t *testing.T) {
	row := rowOf("aW_.V_")
	var got [][]api.Cell
	for letter := range eachLetter(row) {
		got = append(got, letter)
	}
	if want := rowsOf("a W_ . V_"); !sameRows(got, want) {
		t.Errorf("(%s), want (%s)", toldRows(got), toldRows(want))
	}
	for letter := range eachLetter(row) {
		if letter[0].Wide == 2 {
			break
		}
	}
}

// P8.3: lines that flow to another width, and to the same one again, and back.
func TestAgainAndBack(t *testing.T) {
	ahead := linesOf("abcd+ efW_+ V_g. hi.. .... W_V_+ j...")
	less := flows(t, ahead, 3, linesOf("abc+ def+ W_.+ V_g hi. ... W_.+ V_j"))
	flows(t, less, 3, less)
	flows(t, less, 4, linesOf("abcd+ efW_+ .V_g hi.. .... W_..+ V_j."))
	even := flows(t, ahead, 2, linesOf("ab+ cd+ ef+ W_+ V_+ g. hi .. W_+ V_+ j."))
	flows(t, even, 2, even)
	flows(t, even, 4, ahead)
	more := flows(t, ahead, 80, linesOf(dotted("abcdefW_V_g")+" "+dotted("hi")+" "+dotted("")+" "+dotted("W_V_j")))
	flows(t, more, 80, more)
	flows(t, more, 4, ahead)
	says(t, ahead, "abcdef一字\u0301\u0308g", "hi", "", "一字\u0301\u0308j")
	says(t, less, "abcdef一 字\u0301\u0308g", "hi", "", "一 字\u0301\u0308j")
}

// dotted is a line of 80 cells, blank behind those that are written out.
func dotted(text string) string { return text + strings.Repeat(".", 80-len(text)) }

// badCells are cells that may not be, by each field.
func badCells() []api.Cell {
	all := []api.Cell{
		{Text: "a"}, {Text: "a", Wide: 2}, {Text: "a", Wide: -1}, {Text: "ab", Wide: 1}, {Text: "a\u0301\u0301\u0301", Wide: 1}, {Text: "\xff", Wide: 1}, {Text: "\u0301", Wide: 1},
		{Text: "一"}, {Text: "一", Wide: 1}, {Wide: 2}, {Wide: 3}, {Wide: -1}, {Wide: lowest}, {Wide: highest}, {Wide: 1 << 32},
	}
	for _, n := range []int{-1, 257, lowest, highest} {
		all = append(all, api.Cell{Wide: 1, Attr: api.Attr{Fg: n}}, api.Cell{Wide: 1, Attr: api.Attr{Bg: n}}, api.Cell{Wide: 1, Attr: api.Attr{Flags: n}})
	}
	return append(all, api.Cell{Text: "a", Wide: 1, Attr: api.Attr{Flags: 256}})
}

// badLines are lines that may not be kept: too short, too long, with halves that are alone, with cells that may not be at each place.
func badLines() []api.Line {
	all := []api.Line{{}, {Soft: true}, {Cells: []api.Cell{}}}
	for _, text := range []string{"W", "_", "Wa", "aW", "a_", "_a", "_W", "WW_", "W__", "W.", "a_+", "W+", "W_W", "_W_", strings.Repeat("W_", 39) + "aW"} {
		all = append(all, lineOf(text))
	}
	for _, cols := range []int{81, 82, 160, 16000} {
		all = append(all, lineOf(strings.Repeat("a", cols)), lineOf(strings.Repeat(".", cols)+"+"))
	}
	all = append(all, lineOf(strings.Repeat("W_", 41)))
	for _, bad := range badCells() {
		for i := range 3 {
			l := lineOf("abc")
			l.Cells[i] = bad
			all = append(all, l)
		}
	}
	return all
}

// P8.1, P8.2: lines that may not be kept, at each place; halves of a letter in two lines; cols that may not be.
func TestWrong(t *testing.T) {
	for _, bad := range badLines() {
		wrong(t, []api.Line{bad})
		for i := range 4 {
			l := linesOf("x y+ W_ z+")
			l[i] = bad
			wrong(t, l)
		}
		l := linesOf(strings.Repeat("a ", 200))
		l[199] = bad
		wrong(t, l)
	}
	wrong(t, linesOf("W+ _"))
	wrong(t, linesOf("aW+ _a"))
	for _, cols := range badCols() {
		for _, text := range []string{"", "a", "abc+ de", ". W_+ a"} {
			wrongFlow(t, linesOf(text), cols)
		}
	}
}

// R4: no two lists of one answer share any, nor does an answer share with what was handed in: what is put into one, or behind it, is seen in no other.
func TestAnswersStayApart(t *testing.T) {
	l := linesOf("abcW_+ de. f..+ gh .. ij")
	stays := witness(l)
	spoil := func(cells []api.Cell) {
		cells = cells[:cap(cells)]
		for i := range cells {
			cells[i] = cellOf('!')
		}
	}
	rows, _ := Join(l)
	for i, want := range rowsOf("abcW_de f..gh - ij") {
		if !slices.Equal(rows[i], want) {
			t.Errorf("row %d: %s, want %s", i, toldRow(rows[i]), toldRow(want))
		}
		spoil(rows[i])
	}
	lines, _ := Flow(l, 5)
	for i, want := range linesOf("abcW_+ de... f..gh ..... ij...") {
		if !sameLine(lines[i], want) {
			t.Errorf("line %d: (%s), want (%s)", i, told(lines[i:i+1]), told([]api.Line{want}))
		}
		spoil(lines[i].Cells)
	}
	row := rowOf("abcW_defg")
	folded, _ := Fold(row, 3)
	for i, want := range linesOf("abc+ W_d+ efg") {
		if !sameLine(folded[i], want) {
			t.Errorf("line %d: (%s), want (%s)", i, told(folded[i:i+1]), told([]api.Line{want}))
		}
		spoil(folded[i].Cells)
	}
	if !stays() || !slices.Equal(row, rowOf("abcW_defg")) {
		t.Error("what was handed in was changed")
	}
}
