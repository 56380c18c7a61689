package find

import (
	"slices"
	"strconv"
	"strings"
	"testing"

	"backseat/api"
	"backseat/flow"
)

const (
	lowest  = -1 << 63
	highest = 1<<63 - 1
)

// In what is written out here, a letter is a cell; W and E are wide ones, V a wide one with marks, _ a right half, M one with marks; ~ is the letter that is a blank, B that one with a mark; "." and "," are blank cells, of no ground and of one.

const (
	wide       = "\u4e00"
	face       = "\U0001f600"
	markedWide = "\u5b57\u0301\u0308"
	marked     = "m\u0301\ufe0f"
	blankMark  = " \u0301"
)

func cellOf(r rune) api.Cell {
	ground := api.Attr{Bg: 3}
	switch r {
	case 'W':
		return api.Cell{Text: wide, Wide: 2, Attr: ground}
	case 'E':
		return api.Cell{Text: face, Wide: 2}
	case 'V':
		return api.Cell{Text: markedWide, Wide: 2, Attr: ground}
	case '_':
		return api.Cell{Attr: ground}
	case 'M':
		return api.Cell{Text: marked, Wide: 1, Attr: api.Attr{Fg: 256, Flags: 255}}
	case '~':
		return api.Cell{Text: " ", Wide: 1, Attr: ground}
	case 'B':
		return api.Cell{Text: blankMark, Wide: 1}
	case '.':
		return api.Cell{Wide: 1}
	case ',':
		return api.Cell{Wide: 1, Attr: ground}
	}
	return api.Cell{Text: string(r), Wide: 1}
}

// lineOf is a line that is written out; "+" at the end: it is Soft. Behind its cells there is room, with others in it.
func lineOf(text string) api.Line {
	text, soft := strings.CutSuffix(text, "+")
	var cells []api.Cell
	for _, r := range text + "xxx" {
		cells = append(cells, cellOf(r))
	}
	return api.Line{Cells: cells[:len(cells)-3], Soft: soft}
}

// linesOf are lines that are written out, with "/" between each two. Behind the list there is room, too.
func linesOf(text string) []api.Line {
	if text == "" {
		return nil
	}
	words := strings.Split(text, "/")
	var lines []api.Line
	for _, word := range append(words, "spare", "spare") {
		lines = append(lines, lineOf(word))
	}
	return lines[:len(words)]
}

// told is lines as a failing test tells them: the first few.
func told(lines []api.Line) string {
	text := strconv.Itoa(len(lines)) + " lines:"
	for _, l := range lines[:min(6, len(lines))] {
		text += " [" + strconv.Itoa(len(l.Cells))
		for _, c := range l.Cells[:min(12, len(l.Cells))] {
			text += " " + strconv.Quote(c.Text) + strconv.Itoa(c.Wide)
		}
		text += "]"
		if l.Soft {
			text += "+"
		}
	}
	return text
}

// witness is what lines are, with the room behind each list, and tells whether they are still so.
func witness(lines []api.Line) (stays func() bool) {
	whole := func() []api.Line {
		var all []api.Line
		for _, l := range lines[:cap(lines)] {
			l.Cells = slices.Clone(l.Cells[:cap(l.Cells)])
			all = append(all, l)
		}
		return all
	}
	ahead := whole()
	return func() bool {
		return slices.EqualFunc(ahead, whole(), func(a, b api.Line) bool { return a.Soft == b.Soft && slices.Equal(a.Cells, b.Cells) })
	}
}

// none is what is told where nothing is found.
var none = place{-1, -1}

// finds checks where Find finds a text; none: nowhere.
func finds(t *testing.T, l []api.Line, s string, from place, back bool, want place) {
	t.Helper()
	row, col, why := Find(l, s, from.row, from.col, back)
	switch {
	case want == none && (row != 0 || col != 0 || why != api.ErrNone), want != none && (place{row, col} != want || why != api.OK):
		t.Fatalf("Find in %s of %q from %v, back %t: %d, %d, %d, want %v", told(l), s, from, back, row, col, why, want)
	}
}

// sought is a text in lines that are written out, and where it is found from a place on, and back.
type sought struct {
	lines, text  string
	row, col     int
	behind, back place
}

// findsEach checks where texts are found, in lines that stay as they were.
func findsEach(t *testing.T, cases []sought) {
	t.Helper()
	for _, c := range cases {
		l := linesOf(c.lines)
		stays := witness(l)
		finds(t, l, c.text, place{c.row, c.col}, false, c.behind)
		finds(t, l, c.text, place{c.row, c.col}, true, c.back)
		if !stays() {
			t.Fatalf("%q was changed", c.lines)
		}
	}
}

// takes checks what Take takes, with the two places in either order; in a block, with its other two corners, too, where they are there.
func takes(t *testing.T, l []api.Line, a, b place, block bool, want string) {
	t.Helper()
	pairs := [][2]place{{a, b}, {b, a}}
	if c, d := (place{a.row, b.col}), (place{b.row, a.col}); block && c.in(l) && d.in(l) {
		pairs = append(pairs, [2]place{c, d}, [2]place{d, c})
	}
	for _, p := range pairs {
		got, why := Take(l, p[0].row, p[0].col, p[1].row, p[1].col, block)
		if got != want || why != api.OK {
			t.Fatalf("Take of %s from %v to %v, block %t: %q, %d, want %q", told(l), p[0], p[1], block, got, why, want)
		}
	}
}

// taken is what is taken between two places of lines that are written out.
type taken struct {
	lines      string
	row, col   int
	row2, col2 int
	want       string
}

// takesEach checks what is taken, of lines that stay as they were.
func takesEach(t *testing.T, block bool, cases []taken) {
	t.Helper()
	for _, c := range cases {
		l := linesOf(c.lines)
		stays := witness(l)
		takes(t, l, place{c.row, c.col}, place{c.row2, c.col2}, block, c.want)
		if !stays() {
			t.Fatalf("%q was changed", c.lines)
		}
	}
}

// words checks where the word of a place begins and ends; -1: it has none.
func words(t *testing.T, l []api.Line, at place, first, last int) {
	t.Helper()
	want := [3]int{first, last, int(api.OK)}
	if first < 0 {
		want = [3]int{0, 0, int(api.ErrNone)}
	}
	a, b, why := Word(l, at.row, at.col)
	if got := [3]int{a, b, int(why)}; got != want {
		t.Fatalf("Word of %s at %v: %v, want %v", told(l), at, got, want)
	}
}

func TestExample(t *testing.T) {
	finds(t, linesOf("ab/b"), "b", place{0, 0}, false, place{0, 1})
}

// P10.1: places from the first one to the last one; texts at the place itself, twice, over themselves, within cells and lines, and beyond them.
func TestFind(t *testing.T) {
	findsEach(t, []sought{
		{"a", "a", 0, 0, none, none},
		{"a", "b", 0, 0, none, none},
		{"ab", "a", 0, 0, none, none},
		{"ab", "b", 0, 0, place{0, 1}, none},
		{"ab", "a", 0, 1, none, place{0, 0}},
		{"ab", "b", 0, 1, none, none},
		{"ab/b", "b", 0, 1, place{1, 0}, none},
		{"ab/b", "b", 1, 0, none, place{0, 1}},
		{"ab/b", "a", 1, 0, none, place{0, 0}},
		{"a/b/a/c", "a", 1, 0, place{2, 0}, place{0, 0}},
		{"a/b/a/c", "a", 0, 0, place{2, 0}, none},
		{"a/b/a/c", "a", 2, 0, none, place{0, 0}},
		{"abcabcabc", "abc", 0, 0, place{0, 3}, none},
		{"abcabcabc", "abc", 0, 2, place{0, 3}, place{0, 0}},
		{"abcabcabc", "abc", 0, 3, place{0, 6}, place{0, 0}},
		{"abcabcabc", "abc", 0, 4, place{0, 6}, place{0, 3}},
		{"abcabcabc", "abc", 0, 8, none, place{0, 6}},
		{"aaaa", "aa", 0, 0, place{0, 1}, none},
		{"aaaa", "aa", 0, 1, place{0, 2}, place{0, 0}},
		{"aaaa", "aa", 0, 2, none, place{0, 1}},
		{"aaaa", "aa", 0, 3, none, place{0, 2}},
		{"xaab", "ab", 0, 0, place{0, 2}, none},
		{"ab/ab/ab", "ab", 1, 0, place{2, 0}, place{0, 0}},
		{"ab/ab/ab", "ab", 1, 1, place{2, 0}, place{1, 0}},
		{"xxab/x/abxx", "ab", 1, 0, place{2, 0}, place{0, 2}},
		{"aab/bab/abb", "ab", 1, 1, place{2, 0}, place{0, 1}},
		{"xab/cx", "abc", 0, 0, none, none},
		{"xab+/cx", "abc", 0, 0, none, none},
		{"xab+/cx", "abc", 1, 1, none, none},
		{"xab+/c", "ab\nc", 0, 0, none, none},
		{"xab+/abc+", "ab", 0, 0, place{0, 1}, none},
		{"xab+/abc+", "ab", 0, 1, place{1, 0}, none},
		{"xab+/abc+", "ab", 1, 2, none, place{1, 0}},
		{"xA", "a", 0, 0, none, none},
		{"xa", "A", 0, 0, none, none},
		{"xäx", "ä", 0, 0, place{0, 1}, none},
		{"xäx", "\xc3", 0, 0, place{0, 1}, none},
		{"xäx", "\xa4", 0, 0, none, none},
		{"xäx", "\xa4x", 0, 2, none, none},
		{"xäx", "\xff", 0, 0, none, none},
		{"xäx", "\x00", 0, 0, none, none},
	})
}

// P10.1: wide letters, at both halves of which one may stand; marks; blanks, with and without Text.
func TestFindCells(t *testing.T) {
	findsEach(t, []sought{
		{"W_W_", wide, 0, 0, place{0, 2}, none},
		{"W_W_", wide, 0, 1, place{0, 2}, place{0, 0}},
		{"W_W_", wide, 0, 2, none, place{0, 0}},
		{"W_W_", wide, 0, 3, none, place{0, 2}},
		{"aW_b", wide + "b", 0, 0, place{0, 1}, none},
		{"aW_b", wide + " b", 0, 0, none, none},
		{"aW_b", wide[:1], 0, 3, none, place{0, 1}},
		{"aW_b", wide[:2], 0, 0, place{0, 1}, none},
		{"aW_b", wide[1:], 0, 0, none, none},
		{"aW_b", wide[1:] + "b", 0, 3, none, none},
		{"aW_b", wide[2:], 0, 0, none, none},
		{"aW_b", "b", 0, 0, place{0, 3}, none},
		{"aW_bb", "b", 0, 1, place{0, 3}, none},
		{"aW_bb", "b", 0, 2, place{0, 3}, none},
		{"W_b", "b", 0, 1, place{0, 2}, none},
		{"bW_", "b", 0, 2, none, place{0, 0}},
		{"aW_", "a" + wide, 0, 2, none, place{0, 0}},
		{"xW_/W_", wide, 0, 2, place{1, 0}, place{0, 1}},
		{"aE_", face[:3], 0, 0, place{0, 1}, none},
		{"aE_", face[1:], 0, 0, none, none},
		{"aV_b", markedWide, 0, 0, place{0, 1}, none},
		{"aV_b", markedWide + "b", 0, 0, place{0, 1}, none},
		{"aV_b", markedWide[:3], 0, 0, place{0, 1}, none},
		{"aV_b", markedWide[:4], 0, 0, place{0, 1}, none},
		{"aV_b", markedWide[:5], 0, 3, none, place{0, 1}},
		{"aV_b", markedWide[:5] + "b", 0, 0, none, none},
		{"aV_b", markedWide[3:], 0, 0, none, none},
		{"aV_b", markedWide[3:] + "b", 0, 3, none, none},
		{"aMb", "m", 0, 0, place{0, 1}, none},
		{"aMb", "mb", 0, 0, none, none},
		{"aMb", marked + "b", 0, 0, place{0, 1}, none},
		{"aMb", marked[:3], 0, 2, none, place{0, 1}},
		{"aMb", marked[1:], 0, 0, none, none},
		{"aMb", marked[1:] + "b", 0, 2, none, none},
		{"aMb", "a" + marked[:2], 0, 2, none, place{0, 0}},
		{"aMMb", marked + "m", 0, 0, place{0, 1}, none},
		{"a.b", " ", 0, 0, place{0, 1}, none},
		{"a,b", " ", 0, 0, place{0, 1}, none},
		{"a~b", " ", 0, 2, none, place{0, 1}},
		{"aBb", " ", 0, 2, none, place{0, 1}},
		{"aBb", " b", 0, 0, none, none},
		{"x.,~a", "   a", 0, 0, place{0, 1}, none},
		{"x...", "   ", 0, 0, place{0, 1}, none},
		{"x...", "    ", 0, 0, none, none},
		{"x...", "x  ", 0, 3, none, place{0, 0}},
		{"x.../...", "    ", 0, 0, none, none},
		{"x...+/...", "    ", 1, 2, none, none},
		{"ab..+/.b", "b ", 1, 1, none, place{0, 1}},
		{"ab..+/.b", " b", 0, 0, place{1, 0}, none},
		{"W_.b", " b", 0, 0, place{0, 2}, none},
		{"W_.b", wide + " b", 0, 3, none, place{0, 0}},
		{"W_b", " ", 0, 0, none, none},
		{"xW_b", " ", 0, 3, none, none},
	})
}

// P10.1: texts of 64 bytes, and of fewer and more; lines of 80 cells, and 200 of them.
func TestFindLong(t *testing.T) {
	full := strings.Repeat("a", 80)
	l := linesOf(full + "/" + full)
	for n := 1; n <= 64; n++ {
		text := full[:n]
		finds(t, l, text, place{0, 0}, false, place{0, 1})
		finds(t, l, text, place{0, 80 - n}, false, place{1, 0})
		finds(t, l, text, place{0, 79 - n}, false, place{0, 80 - n})
		finds(t, l, text, place{1, 79}, true, place{1, min(78, 80-n)})
		finds(t, l, text, place{1, 0}, true, place{0, 80 - n})
		finds(t, l, text[:n-1]+"b", place{0, 0}, false, none)
		finds(t, l, text[:n-1]+"b", place{1, 79}, true, none)
	}
	wides := linesOf("x" + strings.Repeat("W_", 39) + "x")
	finds(t, wides, strings.Repeat(wide, 21)+wide[:1], place{0, 1}, false, place{0, 3})
	finds(t, wides, strings.Repeat(wide, 21)+"x", place{0, 0}, false, place{0, 1 + 2*18})
	finds(t, wides, wide[2:]+strings.Repeat(wide, 21), place{0, 0}, false, none)
	most := linesOf("x" + strings.Repeat("/"+full, 198) + "/" + full[:79] + "x")
	finds(t, most, "x", place{0, 0}, false, place{199, 79})
	finds(t, most, "x", place{199, 79}, true, place{0, 0})
	finds(t, most, full[:63]+"x", place{0, 0}, false, place{199, 16})
	finds(t, most, "b", place{0, 0}, false, none)
	finds(t, most, "b", place{199, 79}, true, none)
}

// P10.1: texts that may not be, wherever one stands.
func TestFindWrong(t *testing.T) {
	full := strings.Repeat("a", 80)
	for _, text := range []string{"", full[:65], full[:66], full, full + full, strings.Repeat("b", 65), strings.Repeat(wide, 22), strings.Repeat("a", 1<<16)} {
		for _, lines := range []string{"a", full + "/" + full, full + "+/" + full} {
			for _, from := range []place{{0, 0}, {len(lines) / 81, len(lines) % 81 / 2}} {
				wrongFind(t, linesOf(lines), text, from)
			}
		}
	}
}

func wrongFind(t *testing.T, l []api.Line, text string, from place) {
	t.Helper()
	for _, back := range []bool{false, true} {
		if row, col, why := Find(l, text, from.row, from.col, back); row != 0 || col != 0 || why != api.ErrArg {
			t.Errorf("Find in %s of %.70q from %v, back %t: %d, %d, %d", told(l), text, from, back, row, col, why)
		}
	}
}

// P10.2: one place, one line, many; Soft ones first, in the middle and last; blanks at the end, and alone; right halves at either end.
func TestTake(t *testing.T) {
	takesEach(t, false, []taken{
		{"a", 0, 0, 0, 0, "a"},
		{"a+", 0, 0, 0, 0, "a"},
		{".", 0, 0, 0, 0, ""},
		{",", 0, 0, 0, 0, ""},
		{"~", 0, 0, 0, 0, ""},
		{"B", 0, 0, 0, 0, blankMark},
		{"M", 0, 0, 0, 0, marked},
		{"abcd", 0, 0, 0, 3, "abcd"},
		{"abcd", 0, 1, 0, 2, "bc"},
		{"abcd", 0, 1, 0, 1, "b"},
		{"abcd", 0, 3, 0, 3, "d"},
		{"a.b..", 0, 0, 0, 4, "a b"},
		{"a.b..", 0, 0, 0, 1, "a"},
		{"a.b..", 0, 1, 0, 2, " b"},
		{"a~,.", 0, 0, 0, 3, "a"},
		{"a~B.", 0, 0, 0, 3, "a " + blankMark},
		{"..a", 0, 0, 0, 2, "  a"},
		{"...", 0, 0, 0, 2, ""},
		{"W_V_", 0, 0, 0, 3, wide + markedWide},
		{"W_V_", 0, 1, 0, 3, markedWide},
		{"W_V_", 0, 1, 0, 2, markedWide},
		{"W_V_", 0, 0, 0, 2, wide + markedWide},
		{"W_V_", 0, 1, 0, 1, ""},
		{"W_V_", 0, 0, 0, 0, wide},
		{"W_.", 0, 1, 0, 2, ""},
		{"abc/def", 0, 0, 1, 2, "abc\ndef"},
		{"abc/def", 0, 1, 1, 0, "bc\nd"},
		{"abc/def", 0, 2, 1, 1, "c\nde"},
		{"abc/def", 0, 0, 1, 0, "abc\nd"},
		{"abc+/def", 0, 1, 1, 1, "bcde"},
		{"abc/def+", 0, 1, 1, 1, "bc\nde"},
		{"abc+/def+", 0, 1, 1, 1, "bcde"},
		{"abc/def/ghi", 0, 2, 2, 0, "c\ndef\ng"},
		{"abc+/def/ghi", 0, 2, 2, 0, "cdef\ng"},
		{"abc/def+/ghi", 0, 2, 2, 0, "c\ndefg"},
		{"abc/def/ghi+", 0, 2, 2, 0, "c\ndef\ng"},
		{"abc+/def+/ghi+", 0, 2, 2, 0, "cdefg"},
		{"abc+/def+/ghi", 0, 0, 1, 2, "abcdef"},
		{"abc+/def+/ghi", 1, 0, 2, 2, "defghi"},
		{"x+/ab/cd+/x", 1, 0, 2, 1, "ab\ncd"},
		{"a../b../c..", 0, 0, 2, 2, "a\nb\nc"},
		{"a..+/b../c..", 0, 0, 2, 2, "a  b\nc"},
		{"a..+/...+/c..", 0, 0, 2, 2, "a     c"},
		{"a..+/...+/...", 0, 0, 2, 2, "a"},
		{"a..+/.../c", 0, 0, 2, 0, "a\nc"},
		{"a..+/..c", 0, 0, 1, 1, "a"},
		{".../...", 0, 0, 1, 2, "\n"},
		{".../.../...", 0, 2, 2, 0, "\n\n"},
		{"...+/...", 0, 0, 1, 2, ""},
		{"..a/...", 0, 0, 1, 2, "  a\n"},
		{".../..a", 0, 0, 1, 2, "\n  a"},
		{"a/abcdef/ab", 0, 0, 2, 1, "a\nabcdef\nab"},
		{"abcdef/a", 0, 4, 1, 0, "ef\na"},
		{"a/abcdef", 0, 0, 1, 4, "a\nabcde"},
		{"aW_/W_b", 0, 2, 1, 0, "\n" + wide},
		{"aW_+/W_b", 0, 2, 1, 1, wide},
		{"aW_.+/W_b.", 0, 1, 1, 3, wide + " " + wide + "b"},
		{"ab+/.c/d~+/,e", 0, 1, 3, 1, "b c\nd  e"},
	})
}

// P10.2: blocks of one cell, one line, one column; lines shorter than either col; Soft lines, which are as any other.
func TestTakeBlock(t *testing.T) {
	takesEach(t, true, []taken{
		{"a", 0, 0, 0, 0, "a"},
		{".", 0, 0, 0, 0, ""},
		{"abcd", 0, 1, 0, 2, "bc"},
		{"a.c.", 0, 0, 0, 3, "a c"},
		{"W_V_", 0, 1, 0, 2, markedWide},
		{"W_V_", 0, 1, 0, 1, ""},
		{"abcd/efgh/ijkl", 0, 1, 2, 2, "bc\nfg\njk"},
		{"abcd/efgh/ijkl", 0, 2, 2, 1, "bc\nfg\njk"},
		{"abcd/efgh/ijkl", 1, 0, 2, 3, "efgh\nijkl"},
		{"abcd/efgh/ijkl", 0, 3, 1, 3, "d\nh"},
		{"abcd+/efgh+/ijkl+", 0, 1, 2, 2, "bc\nfg\njk"},
		{"abcd+/efgh", 0, 0, 1, 0, "a\ne"},
		{"ab../..../.c..", 0, 0, 2, 3, "ab\n\n c"},
		{"ab..+/....+/.c..+", 0, 0, 2, 3, "ab\n\n c"},
		{".../...", 0, 0, 1, 2, "\n"},
		{"a~,./M.B.", 0, 0, 1, 3, "a\n" + marked + " " + blankMark},
		{"abcdef/ab/abcd", 0, 1, 2, 3, "bcd\nb\nbcd"},
		{"abcdef/ab/abcd", 0, 2, 2, 3, "cd\n\ncd"},
		{"abcdef/a/abcd", 0, 5, 2, 2, "cdef\n\ncd"},
		{"abcdef/a", 0, 5, 1, 0, "abcdef\na"},
		{"a/abcdef", 0, 0, 1, 5, "a\nabcdef"},
		{"abc/a/ab/abc", 0, 2, 3, 2, "c\n\n\nc"},
		{"abc/abcd/abc", 0, 1, 2, 2, "bc\nbc\nbc"},
		{"aW_b/W_cd", 0, 0, 1, 1, "a" + wide + "\n" + wide},
		{"aW_b/W_cd", 0, 1, 1, 2, wide + "\nc"},
		{"aW_b/W_cd", 0, 2, 1, 3, "b\ncd"},
		{"W_a/cW_", 0, 1, 1, 2, "a\n" + wide},
	})
}

// P10.2: as much as there may be.
func TestTakeMost(t *testing.T) {
	full := strings.Repeat("V_", 40)
	said := strings.Repeat(markedWide, 40)
	l := linesOf(strings.Repeat(full+"/", 199) + full)
	takes(t, l, place{0, 0}, place{199, 79}, false, strings.Repeat(said+"\n", 199)+said)
	takes(t, l, place{0, 0}, place{199, 79}, true, strings.Repeat(said+"\n", 199)+said)
	l = linesOf(strings.Repeat(full+"+/", 199) + full + "+")
	takes(t, l, place{0, 0}, place{199, 79}, false, strings.Repeat(said, 200))
	takes(t, l, place{0, 0}, place{199, 79}, true, strings.Repeat(said+"\n", 199)+said)
	blank := strings.Repeat(".", 80)
	takes(t, linesOf(strings.Repeat(blank+"+/", 199)+blank), place{0, 0}, place{199, 79}, false, "")
	takes(t, linesOf(strings.Repeat(blank+"/", 199)+blank), place{0, 0}, place{199, 79}, false, strings.Repeat("\n", 199))
}

// P10.3: for each place of a line, where its word begins and ends: a digit each, "-" for none.
func TestWord(t *testing.T) {
	for _, c := range []struct{ line, first, last string }{
		{"a", "0", "0"},
		{".", "-", "-"},
		{"~", "-", "-"},
		{",", "-", "-"},
		{"B", "0", "0"},
		{"M", "0", "0"},
		{"W_", "00", "11"},
		{"abc", "000", "222"},
		{"a.b", "0-2", "0-2"},
		{"a~b", "0-2", "0-2"},
		{"aBb", "000", "222"},
		{".a.", "-1-", "-1-"},
		{"ab..cd", "00--44", "11--55"},
		{"..ab,~", "--22--", "--33--"},
		{"~ab.", "-11-", "-22-"},
		{"aW_b", "0000", "3333"},
		{".W_.", "-11-", "-22-"},
		{"W_.V_", "00-33", "11-44"},
		{"W_V_E_", "000000", "555555"},
		{"W_a.aW_", "000-444", "222-666"},
		{"a-b,c:d", "000-444", "222-666"},
		{"abc+", "000", "222"},
		{"\u00a0a\u3000", "000", "222"},
	} {
		l := linesOf("abc/" + c.line + "/abc")
		stays := witness(l)
		for col := range c.first {
			first, last := int(c.first[col])-'0', int(c.last[col])-'0'
			words(t, l, place{1, col}, first, last)
			words(t, l[1:2], place{0, col}, first, last)
		}
		if !stays() {
			t.Fatalf("%q was changed", c.line)
		}
	}
	full := linesOf(strings.Repeat(strings.Repeat("a", 80)+"+/", 199) + "." + strings.Repeat("a", 78) + ".")
	for _, col := range []int{0, 1, 40, 79} {
		words(t, full, place{0, col}, 0, 79)
		words(t, full, place{198, col}, 0, 79)
	}
	words(t, full, place{199, 40}, 1, 78)
	words(t, full, place{199, 0}, -1, -1)
	words(t, full, place{199, 79}, -1, -1)
}

// badCells are cells that may not be, by each field.
func badCells() []api.Cell {
	all := []api.Cell{
		{Text: "a"}, {Text: "a", Wide: 2}, {Text: "a", Wide: -1}, {Text: "ab", Wide: 1}, {Text: "a\u0301\u0301\u0301", Wide: 1}, {Text: "\xff", Wide: 1}, {Text: "\u0301", Wide: 1}, {Text: "\n", Wide: 1},
		{Text: wide}, {Text: wide, Wide: 1}, {Wide: 2}, {Wide: 3}, {Wide: -1}, {Wide: lowest}, {Wide: highest}, {Wide: 1 << 32},
	}
	for _, n := range []int{-1, 257, lowest, highest} {
		all = append(all, api.Cell{Wide: 1, Attr: api.Attr{Fg: n}}, api.Cell{Wide: 1, Attr: api.Attr{Bg: n}}, api.Cell{Wide: 1, Attr: api.Attr{Flags: n}})
	}
	return append(all, api.Cell{Text: "a", Wide: 1, Attr: api.Attr{Flags: 256}})
}

// badLines are lines that may not be kept: too short, too long, with halves that are alone, with cells that may not be at each place.
func badLines() []api.Line {
	all := []api.Line{{}, {Soft: true}, {Cells: []api.Cell{}}}
	for _, text := range []string{"W", "_", "Wa", "aW", "a_", "_a", "_W", "WW_", "W__", "W.", "a_+", "W+", strings.Repeat("W_", 39) + "aW", "_" + strings.Repeat("a", 79)} {
		all = append(all, lineOf(text))
	}
	for _, cols := range []int{81, 82, 160, 16000} {
		all = append(all, lineOf(strings.Repeat("a", cols)), lineOf(strings.Repeat(".", cols)+"+"))
	}
	all = append(all, lineOf(strings.Repeat("W_", 41)))
	for _, bad := range badCells() {
		for i := range 3 {
			l := lineOf("aba")
			l.Cells[i] = bad
			all = append(all, l)
		}
	}
	return all
}

// wrong checks that all calls tell ErrArg, and nothing beside it, of lines and a place; Take, wherever the other place is.
func wrong(t *testing.T, l []api.Line, at place) {
	t.Helper()
	stays := witness(l)
	for _, text := range []string{"a", " ", "", strings.Repeat("a", 65)} {
		wrongFind(t, l, text, at)
	}
	if first, last, why := Word(l, at.row, at.col); first != 0 || last != 0 || why != api.ErrArg {
		t.Errorf("Word of %s at %v: %d, %d, %d", told(l), at, first, last, why)
	}
	for _, other := range []place{at, {0, 0}, {len(l) - 1, 0}, {0, 79}, {-1, -1}} {
		for _, p := range [][2]place{{at, other}, {other, at}} {
			for _, block := range []bool{false, true} {
				if got, why := Take(l, p[0].row, p[0].col, p[1].row, p[1].col, block); got != "" || why != api.ErrArg {
					t.Errorf("Take of %s from %v to %v, block %t: %q, %d", told(l), p[0], p[1], block, got, why)
				}
			}
		}
	}
	if !stays() {
		t.Errorf("%s was changed", told(l))
	}
}

// P10.1 to P10.3: lines that may not be, at each place among others, whether one asks of that line or of another one.
func TestWrongLines(t *testing.T) {
	for _, bad := range badLines() {
		wrong(t, []api.Line{bad}, place{0, 0})
		for i := range 4 {
			l := linesOf("aba/aba+/W_b/aba+")
			l[i] = bad
			for row := range l {
				wrong(t, l, place{row, 0})
			}
		}
		l := linesOf(strings.Repeat("a/", 199) + "a")
		l[199] = bad
		wrong(t, l, place{0, 0})
	}
	wrong(t, linesOf("aW+/_a"), place{0, 0})
	wrong(t, linesOf("aW/_a"), place{1, 1})
	for _, n := range []int{201, 202, 400, 5000} {
		for _, line := range []string{"a", "a+", strings.Repeat("a", 80)} {
			wrong(t, linesOf(strings.Repeat(line+"/", n-1)+line), place{0, 0})
			wrong(t, linesOf(strings.Repeat(line+"/", n-1)+line), place{n - 1, 0})
		}
	}
}

// P10.1 to P10.3: places that are not there, by row, by col, and in no line.
func TestWrongPlaces(t *testing.T) {
	outside := []int{-1, -2, -80, 1 << 32, -1 << 32, highest, lowest}
	for _, text := range []string{"a", "aba", "ab/abc+/a", "W_+/V_b"} {
		l := linesOf(text)
		for row := range l {
			for _, col := range append(outside, len(l[row].Cells), len(l[row].Cells)+1, 80) {
				wrong(t, l, place{row, col})
			}
		}
		for _, row := range append(outside, len(l), len(l)+1, 200) {
			for _, col := range append(outside, 0, 1) {
				wrong(t, l, place{row, col})
			}
		}
	}
	for _, n := range append(outside, 0, 1) {
		wrong(t, nil, place{n, 0})
		wrong(t, []api.Line{}, place{0, n})
	}
}

// The iterator hands on places from line to line, either way, and stops where it is left.
func TestPlaces(t *testing.T) {
	l := linesOf("ab/c/de")
	all := []place{{0, 0}, {0, 1}, {1, 0}, {2, 0}, {2, 1}}
	for i, from := range all {
		if got := slices.Collect(places(l, from, false)); !slices.Equal(got, all[i+1:]) {
			t.Errorf("behind %v: %v", from, got)
		}
		back := slices.Clone(all[:i])
		slices.Reverse(back)
		if got := slices.Collect(places(l, from, true)); !slices.Equal(got, back) {
			t.Errorf("ahead of %v: %v", from, got)
		}
	}
	for _, back := range []bool{false, true} {
		n := 0
		for range places(l, place{1, 0}, back) {
			n++
			break
		}
		if n != 1 {
			t.Errorf("back %t: %d places", back, n)
		}
	}
}

// P10.4: what is taken of a whole long row is what it says, but for blanks at its end.
func TestTakeRows(t *testing.T) {
	for _, text := range []string{"a", "...", "ab.+/cd../.e+/..f+/~.", "a,,", "W_.+/V_,/B+", "~~+/~~"} {
		takesRows(t, linesOf(text))
	}
}

// takesRows checks what is taken of each long row of lines, and of all of them.
func takesRows(t *testing.T, l []api.Line) {
	t.Helper()
	said, _ := flow.Letters(l)
	first := 0
	for row := range l {
		if l[row].Soft && row < len(l)-1 {
			continue
		}
		takes(t, l, place{first, 0}, place{row, len(l[row].Cells) - 1}, false, strings.TrimRight(said[0], " "))
		said, first = said[1:], row+1
	}
	if len(said) > 0 {
		t.Fatalf("%s: %q is left", told(l), said)
	}
}
