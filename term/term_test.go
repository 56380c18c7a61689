package term

import (
	"slices"
	"strconv"
	"strings"
	"testing"

	"backseat/api"
)

const (
	lowest  = -1 << 63
	highest = 1<<63 - 1
)

// In what is written out here, ^ is an escape, W a wide letter, and ' a mark; a letter of a look is a capital one (X, if it is wide).

const (
	escape = "\x1b"
	wide   = "\u4e00"
	mark   = "\u0301"
)

// bytesOf are the bytes that are written out.
func bytesOf(text string) string {
	return strings.NewReplacer("^", escape, "W", wide, "'", mark).Replace(text)
}

// cellText is a cell, written out: "." and "," are blank ones, of no ground and of one, "_" is a right half.
func cellText(c api.Cell) string {
	plain := c.Attr == api.Attr{}
	switch {
	case c.Text == "" && c.Wide == 0:
		return "_"
	case c.Text == "" && plain:
		return "."
	case c.Text == "":
		return ","
	}
	text := strings.ReplaceAll(strings.ReplaceAll(c.Text, wide, "W"), mark, "'")
	if plain {
		return text
	}
	return strings.ToUpper(strings.ReplaceAll(text, "W", "X"))
}

// linesText is lines, written out, with "/" between each two. "+" at a line's end: it is Soft.
func linesText(lines []api.Line) string {
	var texts []string
	for _, l := range lines {
		text := ""
		for _, c := range l.Cells {
			text += cellText(c)
		}
		if l.Soft {
			text += "+"
		}
		texts = append(texts, text)
	}
	return strings.Join(texts, "/")
}

func numbers(n ...int) string {
	var texts []string
	for _, n := range n {
		texts = append(texts, strconv.Itoa(n))
	}
	return strings.Join(texts, ",")
}

func lookText(a api.Attr) string { return numbers(a.Fg, a.Bg, a.Flags) }

// text is a terminal, written out: its lines and its place, and then all that is otherwise than in a new one.
func text(t api.Term) string {
	words := []string{linesText(t.Grid.Lines), numbers(t.Row, t.Col)}
	say := func(on bool, word string) {
		if on {
			words = append(words, word)
		}
	}
	say(t.Late, "late")
	say(t.Look != api.Attr{}, "look:"+lookText(t.Look))
	say(t.Top != 0 || t.Bottom != len(t.Grid.Lines)-1, "rows:"+numbers(t.Top, t.Bottom))
	say(t.Saved != api.Saved{}, "saved:"+numbers(t.Saved.Row, t.Saved.Col))
	say(t.Saved.Look != api.Attr{}, "savedlook:"+lookText(t.Saved.Look))
	say(t.Saved.Origin, "savedorigin")
	say(t.Origin, "origin")
	say(!t.Wrap, "nowrap")
	say(t.Insert, "insert")
	say(t.Hide, "hide")
	say(t.Alt, "main:"+linesText(t.Main.Lines))
	say(len(t.Back.Lines) > 0, "kept:"+linesText(t.Back.Lines))
	say(t.Title != "", "title:"+t.Title)
	return strings.Join(words, " ")
}

func newTerm(t *testing.T, cols, rows, keep int) api.Term {
	t.Helper()
	x, why := New(cols, rows, keep)
	if why != api.OK {
		t.Fatalf("New(%d, %d, %d): %d", cols, rows, keep, why)
	}
	return x
}

func feed(t *testing.T, x api.Term, s string) api.Term {
	t.Helper()
	y, why := Feed(x, s)
	if why != api.OK || !Right(y) {
		t.Fatalf("%q to %s: %d, %s", s, text(x), why, text(y))
	}
	return y
}

func resize(t *testing.T, x api.Term, cols, rows int) api.Term {
	t.Helper()
	y, why := Resize(x, cols, rows)
	if why != api.OK || !Right(y) || y.Grid.Cols != cols || len(y.Grid.Lines) != rows {
		t.Fatalf("%s to %d, %d: %d, %s", text(x), cols, rows, why, text(y))
	}
	return y
}

// keep is what each terminal keeps here, if nothing else is said.
const keep = 3

// fed is what bytes make of a new terminal.
type fed struct {
	bytes, want string
}

// check feeds a new terminal with bytes, all at once, and one by one.
func check(t *testing.T, cols, rows int, cases ...fed) {
	t.Helper()
	for _, c := range cases {
		s := bytesOf(c.bytes)
		x := newTerm(t, cols, rows, keep)
		if got := text(feed(t, x, s)); got != c.want {
			t.Errorf("%q: %s, want %s", c.bytes, got, c.want)
		}
		for i := range len(s) {
			x = feed(t, x, s[i:i+1])
		}
		if got := text(x); got != c.want {
			t.Errorf("%q, one by one: %s, want %s", c.bytes, got, c.want)
		}
	}
}

func TestExample(t *testing.T) {
	check(t, 4, 2, fed{"abcde", "abcd+/e... 1,1"})
}

// P9.1: each size and each number of lines about the bounds.
func TestNew(t *testing.T) {
	sizes := []int{lowest, -80, -1, 0, 1, 2, 24, 49, 50, 51, 79, 80, 81, 1 << 32, 1<<32 + 1, highest}
	keeps := []int{lowest, -1, 0, 1, 39, 40, 41, 1 << 32, highest}
	for _, cols := range sizes {
		for _, rows := range sizes {
			for _, keep := range keeps {
				x, why := New(cols, rows, keep)
				if cols < 1 || cols > 80 || rows < 1 || rows > 50 || keep < 0 || keep > 40 {
					if why != api.ErrArg || !isNothing(x) {
						t.Errorf("New(%d, %d, %d): %v %d", cols, rows, keep, x, why)
					}
					continue
				}
				want := api.Term{Grid: api.Grid{Cols: cols, Lines: empty(cols, rows)}, Bottom: rows - 1, Wrap: true, Back: api.Back{Max: keep}}
				if why != api.OK || !same(x, want) || !Right(x) {
					t.Errorf("New(%d, %d, %d): %s %d", cols, rows, keep, text(x), why)
				}
			}
		}
	}
}

// empty are lines of blank cells of no look.
func empty(cols, rows int) []api.Line {
	return copyLines(slices.Repeat([]api.Line{{Cells: slices.Repeat([]api.Cell{{Wide: 1}}, cols)}}, rows))
}

// P9.2: letters of a cell, at the line's end, with Wrap and without.
func TestLetters(t *testing.T) {
	check(t, 3, 2,
		fed{"", ".../... 0,0"},
		fed{"a", "a../... 0,1"},
		fed{"ab", "ab./... 0,2"},
		fed{"abc", "abc/... 0,2 late"},
		fed{"abcd", "abc+/d.. 1,1"},
		fed{"abcdef", "abc+/def 1,2 late"},
		fed{"abcdefg", "def+/g.. 1,1 kept:abc+"},
		fed{"abcdefghijklmnop", "mno+/p.. 1,1 kept:def+/ghi+/jkl+"},
		fed{"^[?7labc", "abc/... 0,2 nowrap"},
		fed{"^[?7labcd", "abd/... 0,2 nowrap"},
		fed{"^[?7labcde^[?7hf", "abf/... 0,2 late"},
		fed{"abc^[?7ld", "abd/... 0,2 nowrap"},
		fed{"abc^[?7l^[?7hd", "abd/... 0,2 late"},
		fed{"abc^[?7hd", "abc+/d.. 1,1"},
		fed{"a\x7fb", "ab./... 0,2"},
		fed{"a\u0080\u0085\u009fb", "ab./... 0,2"},
		fed{"\xff", "\ufffd../... 0,1"},
		fed{"\xe4\xb8a", "\ufffda./... 0,2"},
	)
	check(t, 1, 1,
		fed{"a", "a 0,0 late"},
		fed{"ab", "b 0,0 late kept:a+"},
		fed{"^[?7lab", "b 0,0 nowrap"},
		fed{"abcde", "e 0,0 late kept:b+/c+/d+"},
	)
	check(t, 1, 3,
		fed{"abc", "a+/b+/c 2,0 late"},
		fed{"abcd", "b+/c+/d 2,0 late kept:a+"},
	)
}

// P9.2: wide letters.
func TestWideLetters(t *testing.T) {
	check(t, 4, 2,
		fed{"W", "W_../.... 0,2"},
		fed{"WW", "W_W_/.... 0,3 late"},
		fed{"WWW", "W_W_+/W_.. 1,2"},
		fed{"abcW", "abc.+/W_.. 1,2"},
		fed{"aWW", "aW_.+/W_.. 1,2"},
		fed{"abcdW", "abcd+/W_.. 1,2"},
		fed{"abc^[?7lW", "abc./.... 0,3 nowrap"},
		fed{"abcd^[?7lW", "abcd/.... 0,3 nowrap"},
		fed{"ab^[?7lW", "abW_/.... 0,3 nowrap"},
		fed{"ab^[?7lWW", "abW_/.... 0,3 nowrap"},
		fed{"ab^[?7lWc", "ab.c/.... 0,3 nowrap"},
		fed{"^[?7lWWa^[4Gb", "W_.b/.... 0,3 nowrap"},
		fed{"WW\r\tW", "W_W_+/W_.. 1,2"},
		fed{"WW\r\ta", "W_.a/.... 0,3 late"},
		fed{"WW^[2Ga", ".aW_/.... 0,2"},
		fed{"WW\ra", "a.W_/.... 0,1"},
		fed{"WW^[2GW", ".W_./.... 0,3"},
		fed{"WWWWW", "W_W_+/W_.. 1,2 kept:W_W_+"},
	)
	check(t, 2, 1,
		fed{"W", "W_ 0,1 late"},
		fed{"aW", "W_ 0,1 late kept:a.+"},
		fed{"Wa", "a. 0,1 kept:W_+"},
		fed{"WW", "W_ 0,1 late kept:W_+"},
		fed{"^[?7lWa", ".a 0,1 nowrap"},
		fed{"^[?7lWW", "W_ 0,1 nowrap"},
	)
	check(t, 1, 1,
		fed{"W", ". 0,0"},
		fed{"^[?7lW", ". 0,0 nowrap"},
		fed{"aW", ". 0,0 kept:a+"},
		fed{"aWb", "b 0,0 late kept:a+"},
		fed{"^[?7laW", "a 0,0 nowrap"},
	)
	check(t, 1, 2,
		fed{"aW", "a+/. 1,0"},
		fed{"aWW", "a+/. 1,0"},
	)
}

// P9.2: marks go to the letter that was written last.
func TestMarks(t *testing.T) {
	check(t, 4, 2,
		fed{"'", "..../.... 0,0"},
		fed{"a'", "a'.../.... 0,1"},
		fed{"a''", "a''.../.... 0,1"},
		fed{"a'''", "a''.../.... 0,1"},
		fed{"a'b'", "a'b'../.... 0,2"},
		fed{"W'", "W'_../.... 0,2"},
		fed{"W'''", "W''_../.... 0,2"},
		fed{"abcd'", "abcd'/.... 0,3 late"},
		fed{"abcd'''e", "abcd''+/e... 1,1"},
		fed{"abW'", "abW'_/.... 0,3 late"},
		fed{"abW'e", "abW'_+/e... 1,1"},
		fed{"abc'", "abc'./.... 0,3"},
		fed{"a\r'", "a.../.... 0,0"},
		fed{"a^[C'", "a.../.... 0,2"},
		fed{"W^[D'", "W'_../.... 0,1"},
		fed{"W^[C'", "W_../.... 0,3"},
		fed{"aW^[D'", "aW'_./.... 0,2"},
		fed{"aW'^[3G'", "aW''_./.... 0,2"},
		fed{"abcd\b'", "ab'cd/.... 0,2"},
		fed{"^[?7labcd'", "abc'd/.... 0,3 nowrap"},
		fed{"^[?7labW'", "abW'_/.... 0,3 nowrap"},
		fed{"^[31ma^[m'", "A'.../.... 0,1"},
		fed{"a^[31m'", "a'.../.... 0,1 look:2,0,0"},
		fed{"a\n'", "a.../.... 1,1"},
		fed{"^[4hab\b'", "a'b../.... 0,1 insert"},
		fed{"abcdW'", "abcd+/W'_.. 1,2"},
		fed{"a\u200d", "a\u200d.../.... 0,1"},
	)
	check(t, 1, 1,
		fed{"'", ". 0,0"},
		fed{"a'", "a' 0,0 late"},
		fed{"^[?7la'", "a 0,0 nowrap"},
		fed{"a\r'", "a 0,0"},
		fed{"a''b'", "b' 0,0 late kept:a''+"},
	)
}

// P9.2: Insert has those behind a letter go on.
func TestInsert(t *testing.T) {
	check(t, 4, 2,
		fed{"abc\r^[4hx", "xabc/.... 0,1 insert"},
		fed{"abcd\r^[4hx", "xabc/.... 0,1 insert"},
		fed{"abcd\r^[4hW", "W_ab/.... 0,2 insert"},
		fed{"abW\r^[4hx", "xab./.... 0,1 insert"},
		fed{"WW^[2G^[4hx", ".x../.... 0,2 insert"},
		fed{"abcd^[4hx", "abcd+/x... 1,1 insert"},
		fed{"abc^[4hW", "abc.+/W_.. 1,2 insert"},
		fed{"abcd^[4G^[4hx", "abcx/.... 0,3 late insert"},
		fed{"abcd^[3G^[4hW", "abW_/.... 0,3 late insert"},
		fed{"abcd\r^[4h^[4lx", "xbcd/.... 0,1"},
		fed{"abcd\r^[4h^[41mx", "Xabc/.... 0,1 look:0,2,0 insert"},
		fed{"abcd\r^[4h'", "abcd/.... 0,0 insert"},
		fed{"ab\r^[4h^[?7lwxyz", "wxyz/.... 0,3 nowrap insert"},
		fed{"^[4habcdefgh", "abcd+/efgh 1,3 late insert"},
		fed{"^[?7l^[4habcde", "abce/.... 0,3 nowrap insert"},
	)
}

// P9.2: each control.
func TestExec(t *testing.T) {
	check(t, 4, 2,
		fed{"ab\b", "ab../.... 0,1"},
		fed{"\b", "..../.... 0,0"},
		fed{"ab\b\b\b", "ab../.... 0,0"},
		fed{"abcd\b", "abcd/.... 0,2"},
		fed{"abcd\be", "abed/.... 0,3"},
		fed{"\t", "..../.... 0,3"},
		fed{"abcd\t", "abcd/.... 0,3"},
		fed{"abcd\te", "abce/.... 0,3 late"},
		fed{"ab\rc", "cb../.... 0,1"},
		fed{"abcd\r", "abcd/.... 0,0"},
		fed{"\r", "..../.... 0,0"},
	)
	for _, down := range []string{"\n", "\v", "\f", "^D", "^[31m^D^[m"} {
		check(t, 4, 2,
			fed{"ab" + down, "ab../.... 1,2"},
			fed{"ab" + down + "c", "ab../..c. 1,3"},
			fed{"ab" + down + "c" + down + "d", "..c./...d 1,3 late kept:ab.."},
			fed{"abcd" + down + "e", "abcd/...e 1,3 late"},
			fed{"abcdefgh" + down, "efgh/.... 1,3 kept:abcd+"},
		)
	}
	check(t, 1, 1,
		fed{"a\b", "a 0,0"},
		fed{"a\t", "a 0,0"},
		fed{"a\n", ". 0,0 kept:a"},
		fed{"a\r", "a 0,0"},
	)
	for code := range 32 {
		switch code {
		case 8, 9, 10, 11, 12, 13, 27:
		default:
			check(t, 4, 2,
				fed{"abcd" + string(rune(code)), "abcd/.... 0,3 late"},
				fed{"ab" + string(rune(code)) + "c", "abc./.... 0,3"},
			)
		}
	}
	for col := range 80 {
		x := feed(t, newTerm(t, 80, 1, 0), escape+"["+strconv.Itoa(col+1)+"G\t")
		if want := min(col-col%8+8, 79); x.Col != want || x.Row != 0 {
			t.Errorf("a tab at %d: %d, want %d", col, x.Col, want)
		}
	}
}

// P9.2: what goes down, and up, at the bounds of the rows that go.
func TestDownAndUp(t *testing.T) {
	const ahead = "a\r\nb\r\nc\r\nd" // 4 lines
	check(t, 2, 4,
		fed{ahead + "^[H^D", "a./b./c./d. 1,0"},
		fed{ahead + "^[H^M", "../a./b./c. 0,0"},
		fed{ahead + "^[H^[41m^M", ",,/a./b./c. 0,0 look:0,2,0"},
		fed{ahead + "^[41m^D", "b./c./d./,, 3,1 look:0,2,0 kept:a."},
		fed{ahead + "^[2;3r^[2;1H^D", "a./b./c./d. 2,0 rows:1,2"},
		fed{ahead + "^[2;3r^[3;2H^D", "a./c./../d. 2,1 rows:1,2"},
		fed{ahead + "^[2;3r^[4;1H^D", "a./b./c./d. 3,0 rows:1,2"},
		fed{ahead + "^[2;3r^[4;1H^M", "a./b./c./d. 2,0 rows:1,2"},
		fed{ahead + "^[2;3r^[3;1H^M", "a./b./c./d. 1,0 rows:1,2"},
		fed{ahead + "^[2;3r^[2;2H^M", "a./../b./d. 1,1 rows:1,2"},
		fed{ahead + "^[2;3r^[1;1H^M", "a./b./c./d. 0,0 rows:1,2"},
		fed{ahead + "^[2;3r^[1;1H^D", "a./b./c./d. 1,0 rows:1,2"},
		fed{ahead + "^[1;2r^[2;1H^D", "b./../c./d. 1,0 rows:0,1 kept:a."},
		fed{ahead + "^[1;2r^[2;2H\n\n", "../../c./d. 1,1 rows:0,1 kept:a./b."},
		fed{ahead + "^[3;4r^[4;1H^D", "a./b./d./.. 3,0 rows:2,3"},
		fed{ahead + "^[2;3r^[4;1Hxyz", "a./b./c./zy+ 3,1 rows:1,2"},
		fed{ahead + "^[2;3r^[3;1Hxyz", "a./xy+/z./d. 2,1 rows:1,2"},
		fed{ahead + "^[H^E", "a./b./c./d. 1,0"},
		fed{ahead + "^E", "b./c./d./.. 3,0 kept:a."},
		fed{"xy^E", "xy/../../.. 1,0"},
		fed{"xy^M", "../xy/../.. 0,1"},
		fed{"xy^Mz", ".z/xy/../.. 0,1 late"},
		fed{"xy^Dz", "xy/.z/../.. 1,1 late"},
		fed{ahead + "\n\n\n\n\n", "../../../.. 3,1 kept:c./d./.."},
	)
	check(t, 2, 1,
		fed{"a^M", ".. 0,1"},
		fed{"a^D", ".. 0,1 kept:a."},
		fed{"a^E", ".. 0,0 kept:a."},
	)
}

// P9.2: what is saved and restored.
func TestSaved(t *testing.T) {
	for _, by := range [][2]string{{"^7", "^8"}, {"^[s", "^[u"}, {"^[3;4s", "^[9u"}, {"^7", "^[u"}, {"^[s", "^8"}} {
		check(t, 4, 3,
			fed{by[1], "..../..../.... 0,0"},
			fed{"abcd\n^[31m" + by[0], "abcd/..../.... 1,3 look:2,0,0 saved:1,3 savedlook:2,0,0"},
			fed{"abcd\n^[31m" + by[0] + "^[H^[1m" + by[1], "abcd/..../.... 1,3 look:2,0,0 saved:1,3 savedlook:2,0,0"},
			fed{"abcd" + by[0], "abcd/..../.... 0,3 late saved:0,3"},
			fed{"abcd" + by[0] + by[1], "abcd/..../.... 0,3 saved:0,3"},
			fed{"abcd" + by[1], "abcd/..../.... 0,0"},
			fed{"^[31m^[?6h" + by[1], "..../..../.... 0,0"},
			fed{"^[2;3r^[?6h" + by[0], "..../..../.... 1,0 rows:1,2 saved:1,0 savedorigin origin"},
			fed{"^[2;3r^[?6h" + by[0] + "^[?6l" + by[1], "..../..../.... 1,0 rows:1,2 saved:1,0 savedorigin origin"},
			fed{"^[?7l^[4h^[?25l" + by[0] + "^[?7h^[4l^[?25h" + by[1], "..../..../.... 0,0"},
			fed{"^[2;3H" + by[0] + "^[2;3r^[?6h" + by[1], "..../..../.... 1,2 rows:1,2 saved:1,2"},
			fed{"ab" + by[0] + "c" + by[0], "abc./..../.... 0,3 saved:0,3"},
		)
	}
	for _, c := range []struct {
		cols, rows int
		want       string
	}{
		{6, 3, "....../....../...... 2,3 saved:2,3"},
		{2, 3, "../../.. 2,1 saved:2,3"},
		{4, 1, ".... 0,3 saved:2,3"},
		{1, 1, ". 0,0 saved:2,3"},
	} {
		x := resize(t, feed(t, newTerm(t, 4, 3, 0), bytesOf("^[3;4H^7^[H")), c.cols, c.rows)
		if got := text(feed(t, x, bytesOf("^8"))); got != c.want {
			t.Errorf("%d, %d: %s, want %s", c.cols, c.rows, got, c.want)
		}
	}
}

// P9.2: it is as a new one, but for what is kept.
func TestReset(t *testing.T) {
	check(t, 4, 2,
		fed{"ab\n\n\n^[31m^[4h^[?6h^[?7l^[?25l^7^]2;x\a^c", "..../.... 0,0 kept:ab../...."},
		fed{"a^[?47hb^[1;2r^c", "..../.... 0,0"},
		fed{"abcd^c", "..../.... 0,0"},
		fed{"^[2;2H^7^c^8", "..../.... 0,0"},
		fed{"abc^cx", "x.../.... 0,1"},
	)
	check(t, 4, 3, fed{"^[2;3r^[31m\n\nab^c", "..../..../.... 0,0"})
	x := newTerm(t, 5, 4, 2)
	x = feed(t, x, bytesOf("a\r\nb\r\nc\r\nd\r\ne\r\nf^[?1049h^c"))
	if text(x) != "...../...../...../..... 0,0 kept:a..../b...." || x.Back.Max != 2 {
		t.Error(text(x), x.Back.Max)
	}
	if got := text(feed(t, x, bytesOf("a^c^["))); got != text(x) {
		t.Error(got)
	}
}

// isNothing tells whether a terminal is the zero one.
func isNothing(x api.Term) bool {
	return len(x.Grid.Lines) == 0 && len(x.Main.Lines) == 0 && len(x.Back.Lines) == 0
}
