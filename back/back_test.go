package back

import (
	"runtime"
	"slices"
	"strconv"
	"strings"
	"testing"

	"backseat/api"
)

const (
	lowest  = -1 << 63
	highest = 1<<63 - 1
)

// inked is the look of what is no blank cell.
func inked() api.Attr { return api.Attr{Fg: 256, Bg: 3, Flags: api.Bold | api.Strike} }

// lineOf is a line that is written out: a cell a byte, "W" and "_" the halves of a wide letter, "." a blank cell, "+" at the end: the line is Soft.
func lineOf(text string) api.Line {
	var l api.Line
	for _, r := range text {
		switch r {
		case '+':
			l.Soft = true
		case 'W':
			l.Cells = append(l.Cells, api.Cell{Text: "一", Wide: 2, Attr: inked()})
		case '_':
			l.Cells = append(l.Cells, api.Cell{Attr: inked()})
		case '.':
			l.Cells = append(l.Cells, api.Cell{Wide: 1, Attr: api.Attr{Bg: 7}})
		default:
			l.Cells = append(l.Cells, api.Cell{Text: string(r), Wide: 1, Attr: inked()})
		}
	}
	return l
}

// linesOf are lines that are written out, with a blank between each two. Behind the list there is room, with lines in it that no call may write over.
func linesOf(text string) []api.Line {
	var lines []api.Line
	for word := range strings.FieldsSeq(text) {
		lines = append(lines, lineOf(word))
	}
	return roomy(lines)
}

func roomy(lines []api.Line) []api.Line {
	n := len(lines)
	return slices.Concat(lines, slices.Repeat([]api.Line{lineOf("spare")}, 5))[:n]
}

// numbered are n lines that are told apart by their looks, from one number on.
func numbered(from, n int) []api.Line {
	var lines []api.Line
	for i := from; i < from+n; i++ {
		look := api.Attr{Fg: i % 257, Bg: i / 257}
		lines = append(lines, api.Line{Cells: []api.Cell{{Text: "n", Wide: 1, Attr: look}}, Soft: i%3 == 1})
	}
	return roomy(lines)
}

func keptOf(most int, text string) api.Back { return api.Back{Max: most, Lines: linesOf(text)} }

// sameLines tells whether lines are the same; a nil list is as an empty one.
func sameLines(a, b []api.Line) bool {
	return slices.EqualFunc(a, b, func(a, b api.Line) bool { return a.Soft == b.Soft && slices.Equal(a.Cells, b.Cells) })
}

func same(a, b api.Back) bool { return a.Max == b.Max && sameLines(a.Lines, b.Lines) }

func isNothing(b api.Back) bool { return b.Max == 0 && len(b.Lines) == 0 }

// told is lines as a failing test tells them: the first few, each by its first few cells.
func told(lines []api.Line) string {
	const few = 8
	text := strconv.Itoa(len(lines)) + " lines:"
	for _, l := range lines[:min(few, len(lines))] {
		text += " [" + strconv.Itoa(len(l.Cells)) + " cells"
		for _, c := range l.Cells[:min(few, len(l.Cells))] {
			text += " " + strconv.Quote(c.Text) + strconv.Itoa(c.Wide) + ":" + strconv.Itoa(c.Attr.Fg) + "," + strconv.Itoa(c.Attr.Bg)
		}
		text += " " + strconv.FormatBool(l.Soft) + "]"
	}
	return text
}

func toldBack(b api.Back) string { return "Max " + strconv.Itoa(b.Max) + ", " + told(b.Lines) }

// witness is what a list is, with the room behind it, and tells whether it is still so.
func witness(lines []api.Line) (stays func() bool) {
	whole := func(list []api.Line) []api.Line {
		var all []api.Line
		for _, l := range list[:cap(list)] {
			l.Cells = slices.Clone(l.Cells[:cap(l.Cells)])
			all = append(all, l)
		}
		return all
	}
	ahead := whole(lines)
	return func() bool { return sameLines(ahead, whole(lines)) }
}

// pushed checks what Push makes of lines, and that they stay as they were.
func pushed(t *testing.T, b api.Back, l []api.Line, want []api.Line) api.Back {
	t.Helper()
	backStays, linesStay := witness(b.Lines), witness(l)
	got, why := Push(b, l...)
	if why != api.OK || !same(got, api.Back{Max: b.Max, Lines: want}) || !Right(got) {
		t.Fatalf("Push of (%s), (%s): (%s) %d, want (%s)", toldBack(b), told(l), toldBack(got), why, told(want))
	}
	if !backStays() || !linesStay() {
		t.Fatalf("Push of (%s), (%s) changed what it was handed", toldBack(b), told(l))
	}
	return got
}

// taken checks what Take makes of lines, and that they stay as they were.
func taken(t *testing.T, b api.Back, n int, stay, gone []api.Line) (api.Back, []api.Line) {
	t.Helper()
	stays := witness(b.Lines)
	got, lines, why := Take(b, n)
	if why != api.OK || !same(got, api.Back{Max: b.Max, Lines: stay}) || !sameLines(lines, gone) || !Right(got) {
		t.Fatalf("Take of (%s), %d: (%s) (%s) %d, want (%s) (%s)", toldBack(b), n, toldBack(got), told(lines), why, told(stay), told(gone))
	}
	if !stays() {
		t.Fatalf("Take of (%s), %d changed what it was handed", toldBack(b), n)
	}
	return got, lines
}

// is checks that At tells the line of a number.
func is(t *testing.T, b api.Back, i int, line api.Line) {
	t.Helper()
	stays := witness(b.Lines)
	l, why := At(b, i)
	if got, want := []api.Line{l}, []api.Line{line}; why != api.OK || !sameLines(got, want) || !stays() {
		t.Errorf("At of (%s), %d: (%s) %d, want (%s)", toldBack(b), i, told(got), why, told(want))
	}
}

// none checks that At tells an error, and nothing beside it.
func none(t *testing.T, b api.Back, i int, want api.Errno) {
	t.Helper()
	stays := witness(b.Lines)
	if got, why := At(b, i); why != want || got.Soft || len(got.Cells) > 0 || !stays() {
		t.Errorf("At of (%s), %d: (%s) %d, want %d", toldBack(b), i, told([]api.Line{got}), why, want)
	}
}

// wrongPush checks that Push tells ErrArg, and nothing beside it.
func wrongPush(t *testing.T, b api.Back, l ...api.Line) {
	t.Helper()
	backStays, linesStay := witness(b.Lines), witness(l)
	if got, why := Push(b, l...); why != api.ErrArg || !isNothing(got) || !backStays() || !linesStay() {
		t.Errorf("Push of (%s), (%s): (%s) %d", toldBack(b), told(l), toldBack(got), why)
	}
}

// wrongTake checks that Take tells ErrArg, and nothing beside it.
func wrongTake(t *testing.T, b api.Back, n int) {
	t.Helper()
	stays := witness(b.Lines)
	if got, lines, why := Take(b, n); why != api.ErrArg || !isNothing(got) || len(lines) > 0 || !stays() {
		t.Errorf("Take of (%s), %d: (%s) (%s) %d", toldBack(b), n, toldBack(got), told(lines), why)
	}
}

func TestExample(t *testing.T) {
	pushed(t, keptOf(2, ""), linesOf("a b c"), linesOf("b c"))
}

// badCells are cells that may not be, by each field.
func badCells() []api.Cell {
	all := []api.Cell{
		{Text: "a"}, {Text: "a", Wide: 2}, {Text: "a", Wide: -1}, {Text: "ab", Wide: 1}, {Text: "a\u0301\u0301\u0301", Wide: 1}, {Text: "\xff", Wide: 1}, {Text: "\u0301", Wide: 1},
		{Text: "一"}, {Text: "一", Wide: 1}, {Wide: 2}, {Wide: 3}, {Wide: lowest}, {Wide: highest}, {Wide: 1 << 32},
	}
	for _, n := range []int{-1, 257, lowest, highest} {
		all = append(all, api.Cell{Wide: 1, Attr: api.Attr{Fg: n}}, api.Cell{Wide: 1, Attr: api.Attr{Bg: n}}, api.Cell{Wide: 1, Attr: api.Attr{Flags: n}})
	}
	return append(all, api.Cell{Text: "a", Wide: 1, Attr: api.Attr{Flags: 256}})
}

// badLines are lines that may not be kept: too short, too long, with halves that are alone, with cells that may not be at each place.
func badLines() []api.Line {
	all := []api.Line{{}, {Soft: true}, {Cells: []api.Cell{}}}
	for _, text := range []string{"W", "_", "Wa", "aW", "a_", "_a", "_W", "WW_", "W__", "W.", "a_+", "W_W", "_W_", "a" + strings.Repeat("W_", 39) + "W"} {
		all = append(all, lineOf(text))
	}
	for _, cols := range []int{81, 82, 160, 16000, 1<<16 + 1} {
		all = append(all, lineOf(strings.Repeat("a", cols)), lineOf(strings.Repeat(".", cols)+"+"))
	}
	all = append(all, lineOf(strings.Repeat("W_", 41)))
	for _, bad := range badCells() {
		for i := range 3 {
			l := lineOf("abc")
			l.Cells[i] = bad
			all = append(all, l)
		}
	}
	return all
}

// badBacks are what may not be kept, by each field.
func badBacks() []api.Back {
	var all []api.Back
	for _, most := range []int{-1, -2, -40, 41, 42, 80, 1 << 32, 1<<32 + 3, lowest, highest} {
		all = append(all, keptOf(most, ""), keptOf(most, "a bc +d"))
	}
	for _, most := range []int{0, 1, 2, 39, 40} {
		all = append(all, api.Back{Max: most, Lines: numbered(0, most+1)}, api.Back{Max: most, Lines: numbered(0, most+2)}, api.Back{Max: most, Lines: numbered(0, 200)})
	}
	for _, bad := range badLines() {
		for i := range 3 {
			b := keptOf(3+i, "a bc W_+")
			b.Lines[i] = bad
			all = append(all, b)
		}
	}
	b := api.Back{Max: 40, Lines: numbered(0, 40)}
	b.Lines[39] = lineOf("a_")
	return append(all, b, api.Back{Max: 1, Lines: []api.Line{{}}}, api.Back{Max: 0, Lines: []api.Line{{}}})
}

// P7.1: Max 0, 1 and 40, and each number of lines up to it; lines of all lengths, and of unlike ones.
func TestRight(t *testing.T) {
	for most := range 41 {
		for n := range most + 1 {
			if !Right(api.Back{Max: most, Lines: numbered(0, n)}) {
				t.Errorf("%d lines, of %d", n, most)
			}
		}
		if Right(api.Back{Max: most, Lines: numbered(0, most+1)}) {
			t.Errorf("one line more than %d", most)
		}
	}
	for cols := range 100 {
		for _, on := range []string{"", "+"} {
			l := lineOf(strings.Repeat("a", cols) + on)
			if got := Right(api.Back{Max: 1, Lines: []api.Line{l}}); got != (1 <= cols && cols <= 80) {
				t.Errorf("a line of %d cells: %v", cols, got)
			}
		}
	}
	for _, text := range []string{"a", "+a", ".", "W_", "aW_+ W_W_ . b", "abc a ab+ W_ .....", strings.Repeat("W_", 40) + " a " + strings.Repeat(".", 80) + "+"} {
		if !Right(keptOf(40, text)) {
			t.Errorf("%q", text)
		}
	}
	if !Right(api.Back{}) || !Right(api.Back{Max: 40, Lines: []api.Line{}}) {
		t.Error("nothing may be kept")
	}
	for _, b := range badBacks() {
		if Right(b) {
			t.Error(toldBack(b))
		}
	}
}

// P7.1: none, one, as many as fit, as many as Max, and more; lines of unlike lengths.
func TestPush(t *testing.T) {
	long := strings.Repeat("W_", 40) + "+"
	for _, c := range []struct {
		most            int
		from, put, want string
	}{
		{0, "", "", ""},
		{0, "", "a", ""},
		{0, "", "a b+ c", ""},
		{1, "", "", ""},
		{1, "", "a", "a"},
		{1, "", "a b", "b"},
		{1, "a", "", "a"},
		{1, "a", "b", "b"},
		{1, "a", "b c+ d", "d"},
		{4, "", "a b c d", "a b c d"},
		{4, "", "a b c d e", "b c d e"},
		{4, "a b", "", "a b"},
		{4, "a b", "c", "a b c"},
		{4, "a b", "c d", "a b c d"},
		{4, "a b", "c d e", "b c d e"},
		{4, "a b", "c d e f", "c d e f"},
		{4, "a b", "c d e f g", "d e f g"},
		{4, "a b c d", "e", "b c d e"},
		{4, "a b c d", "a b c d", "a b c d"},
		{3, "abc+ W_", "a..+ " + long, "W_ a..+ " + long},
		{3, long + " .", "a bb+", ". a bb+"},
		{2, "a", "a+", "a a+"},
		{40, "", "a", "a"},
	} {
		pushed(t, keptOf(c.most, c.from), linesOf(c.put), linesOf(c.want))
	}
	b := keptOf(4, "a b+ W_")
	pushed(t, b, b.Lines, linesOf("W_ a b+ W_"))
	pushed(t, b, b.Lines[1:2], linesOf("a b+ W_ b+"))
	for _, n := range []int{39, 40, 41, 42, 80, 5000} {
		lines := numbered(0, n)
		pushed(t, keptOf(40, "a"), lines, slices.Concat(linesOf("a"), lines)[max(0, n-39):])
		pushed(t, keptOf(1, "a"), lines, lines[n-1:])
		pushed(t, keptOf(0, ""), lines, nil)
	}
}

// P7.1: lines that may not be kept, at each place, also where they would not stay; what is kept may not be.
func TestPushWrong(t *testing.T) {
	for _, bad := range badLines() {
		for _, b := range []api.Back{{}, keptOf(1, "a"), keptOf(3, "a b+"), {Max: 40, Lines: numbered(0, 40)}} {
			wrongPush(t, b, bad)
			for i := range 4 {
				lines := linesOf("x y+ W_ z")
				lines[i] = bad
				wrongPush(t, b, lines...)
			}
		}
	}
	for _, b := range badBacks() {
		wrongPush(t, b)
		wrongPush(t, b, linesOf("a")...)
		wrongPush(t, b, linesOf("a b+ c")...)
		wrongPush(t, b, lineOf("W"))
	}
}

// P7.1: each line by its number, the one behind the oldest, and numbers below 0.
func TestAt(t *testing.T) {
	b := keptOf(4, "a bb+ W_W_")
	is(t, b, 0, lineOf("W_W_"))
	is(t, b, 1, lineOf("bb+"))
	is(t, b, 2, lineOf("a"))
	for _, i := range []int{3, 4, 5, 1 << 32, 1<<32 + 1, highest, -1, -2, -3, -1 << 32, lowest, lowest + 1} {
		none(t, b, i, api.ErrNone)
	}
	for most := range 41 {
		for n := range most + 1 {
			b := api.Back{Max: most, Lines: numbered(0, n)}
			for i := range n {
				is(t, b, i, b.Lines[n-1-i])
			}
			none(t, b, n, api.ErrNone)
			none(t, b, -1, api.ErrNone)
		}
	}
}

// P7.1: ErrArg comes ahead of ErrNone.
func TestAtWrong(t *testing.T) {
	for _, b := range badBacks() {
		for _, i := range []int{0, 1, 2, 40, -1, lowest, highest} {
			none(t, b, i, api.ErrArg)
		}
	}
}

// P7.2: 0, 1, as many as there are, and more.
func TestTake(t *testing.T) {
	for _, c := range []struct {
		from       string
		n          int
		stay, gone string
	}{
		{"", 0, "", ""},
		{"", 1, "", ""},
		{"", highest, "", ""},
		{"a", 0, "a", ""},
		{"a", 1, "", "a"},
		{"a", 2, "", "a"},
		{"a+ W_ ..", 0, "a+ W_ ..", ""},
		{"a+ W_ ..", 1, "a+ W_", ".."},
		{"a+ W_ ..", 2, "a+", "W_ .."},
		{"a+ W_ ..", 3, "", "a+ W_ .."},
		{"a+ W_ ..", 4, "", "a+ W_ .."},
		{"a+ W_ ..", 1 << 32, "", "a+ W_ .."},
		{"a+ W_ ..", highest, "", "a+ W_ .."},
	} {
		for _, most := range []int{3, 4, 40} {
			taken(t, keptOf(most, c.from), c.n, linesOf(c.stay), linesOf(c.gone))
		}
	}
	taken(t, api.Back{}, 0, nil, nil)
	taken(t, api.Back{}, 1, nil, nil)
	taken(t, keptOf(1, "a"), 1, nil, linesOf("a"))
	for n := range 42 {
		lines := numbered(0, 40)
		at := max(0, 40-n)
		taken(t, api.Back{Max: 40, Lines: lines}, n, lines[:at], lines[at:])
	}
}

// P7.2: n below 0; what is kept may not be.
func TestTakeWrong(t *testing.T) {
	for _, n := range []int{-1, -2, -40, -1 << 32, lowest, lowest + 1} {
		wrongTake(t, api.Back{}, n)
		wrongTake(t, keptOf(1, "a"), n)
		wrongTake(t, keptOf(4, "a b+ W_"), n)
		wrongTake(t, api.Back{Max: 40, Lines: numbered(0, 40)}, n)
	}
	for _, b := range badBacks() {
		for _, n := range []int{-1, 0, 1, 3, 40, lowest, highest} {
			wrongTake(t, b, n)
		}
	}
}

// R4: what a call answers is not written over by what is done with another answer of it, or with what it was handed.
func TestAnswersStayApart(t *testing.T) {
	b := keptOf(4, "a b c")
	stays := witness(b.Lines)
	one := pushed(t, b, linesOf("x"), linesOf("a b c x"))
	other := pushed(t, b, linesOf("y"), linesOf("a b c y"))
	as := pushed(t, b, nil, linesOf("a b c"))
	stay, gone := taken(t, b, 1, linesOf("a b"), linesOf("c"))
	again := pushed(t, stay, linesOf("z"), linesOf("a b z"))
	_ = append(as.Lines, lineOf("1"))
	_ = append(stay.Lines, lineOf("2"))
	_ = append(gone, lineOf("3"))
	if !stays() {
		t.Errorf("(%s) was changed", toldBack(b))
	}
	for _, c := range []struct {
		got  []api.Line
		want string
	}{{one.Lines, "a b c x"}, {other.Lines, "a b c y"}, {as.Lines, "a b c"}, {stay.Lines, "a b"}, {gone, "c"}, {again.Lines, "a b z"}} {
		if !sameLines(c.got, linesOf(c.want)) {
			t.Errorf("(%s), want %q", told(c.got), c.want)
		}
	}
}

// P6: a long list is not laid in memory for the few lines of it that are kept.
func TestPushHoldsLittle(t *testing.T) {
	b, lines := keptOf(3, "a b"), numbered(0, 1<<16)
	var ahead, behind runtime.MemStats
	runtime.ReadMemStats(&ahead)
	_, why := Push(b, lines...)
	runtime.ReadMemStats(&behind)
	if taken := behind.TotalAlloc - ahead.TotalAlloc; why != api.OK || taken > 1<<16 {
		t.Errorf("%d bytes, %d", taken, why)
	}
}
