package find

import (
	"slices"
	"strings"
	"testing"

	"backseat/api"
)

// What follows is read from the chapter apart from the package: all places stand in one list, where one is behind another one if it comes later; what is taken is said cell by cell, and blanks wait until something comes behind them.

func allPlaces(lines []api.Line) []place {
	var all []place
	for row, l := range lines {
		for col := range l.Cells {
			all = append(all, place{row, col})
		}
	}
	return all
}

func wantSays(c api.Cell) string {
	if c.Wide == 1 && c.Text == "" {
		return " "
	}
	return c.Text
}

// wantStands tells for each place whether a text stands there.
func wantStands(lines []api.Line, text string) []bool {
	var all []bool
	for _, l := range lines {
		behind := ""
		there := make([]bool, len(l.Cells))
		for col, c := range slices.Backward(l.Cells) {
			behind = wantSays(c) + behind
			there[col] = c.Wide > 0 && strings.HasPrefix(behind, text)
		}
		all = append(all, there...)
	}
	return all
}

func wantTake(lines []api.Line, a, b place, block bool) string {
	all := allPlaces(lines)
	first, last := slices.Index(all, a), slices.Index(all, b)
	if first > last {
		first, last = last, first
	}
	of := func(i int, p place) bool {
		if block {
			return (p.col-a.col)*(p.col-b.col) <= 0
		}
		return first <= i && i <= last
	}
	top, bottom := all[first].row, all[last].row
	var said []byte
	blanks := ""
	for i, p := range all {
		if p.row < top || p.row > bottom {
			continue
		}
		if p.col == 0 && p.row > top && (block || !lines[p.row-1].Soft) {
			said, blanks = append(said, '\n'), ""
		}
		text := wantSays(lines[p.row].Cells[p.col])
		switch {
		case !of(i, p):
		case text == " ":
			blanks += text
		case text != "":
			said, blanks = append(said, blanks+text...), ""
		}
	}
	return string(said)
}

// wantWord is where the word of a place begins and ends; -1: it has none.
func wantWord(l api.Line, col int) (int, int) {
	kinds := ""
	for _, c := range l.Cells {
		if c.Wide > 0 && strings.Trim(c.Text, " ") == "" {
			kinds += "."
		} else {
			kinds += "w"
		}
	}
	if kinds[col] == '.' {
		return -1, -1
	}
	return strings.LastIndex(kinds[:col], ".") + 1, col + strings.Index(kinds[col:]+".", ".") - 1
}

// findsAll checks where a text is found from each place, either way; and that it is found again from the place next to where it was.
func findsAll(t *testing.T, lines []api.Line, text string) {
	t.Helper()
	all, there := allPlaces(lines), wantStands(lines, text)
	nearest := func(from, step int) int {
		for i := from + step; 0 <= i && i < len(all); i += step {
			if there[i] {
				return i
			}
		}
		return -1
	}
	for i, from := range all {
		for _, step := range []int{1, -1} {
			n := nearest(i, step)
			if n < 0 {
				finds(t, lines, text, from, step < 0, none)
				continue
			}
			finds(t, lines, text, from, step < 0, all[n])
			if beyond := n + step; 0 <= beyond && beyond < len(all) {
				finds(t, lines, text, all[beyond], step > 0, all[n])
			}
		}
	}
}

// wordsAll checks the word of each place.
func wordsAll(t *testing.T, lines []api.Line) {
	t.Helper()
	for _, at := range allPlaces(lines) {
		first, last := wantWord(lines[at.row], at.col)
		words(t, lines, at, first, last)
	}
}

// takesAll checks what is taken between all pairs of places, and of each long row.
func takesAll(t *testing.T, lines []api.Line) {
	t.Helper()
	all := allPlaces(lines)
	for i, a := range all {
		for _, b := range all[i:] {
			takes(t, lines, a, b, false, wantTake(lines, a, b, false))
			takes(t, lines, a, b, true, wantTake(lines, a, b, true))
		}
	}
	takesRows(t, lines)
}

// shortLines are all lines of 1 to so many cells of some letters, not Soft.
func shortLines(most int, letters ...string) []string {
	var all []string
	var grow func(ahead string)
	grow = func(ahead string) {
		if ahead != "" {
			all = append(all, ahead)
		}
		for _, letter := range letters {
			if len(ahead)+len(letter) <= most {
				grow(ahead + letter)
			}
		}
	}
	grow("")
	return all
}

// someTexts are texts that stand at some cells of letters, and at none.
func someTexts() []string {
	return []string{
		"a", "aa", "aaa", "aaaa", "b", " ", "  ", "   ", "a ", " a", "a a", "\n", "a\na", "\xff",
		wide, wide[:1], wide[1:], wide + wide[:2], wide + "a", "a" + wide, " " + wide, wide + " ",
		"m", marked, marked[:4], marked[1:], marked + "m", "m" + "a", "a" + marked, marked + "a",
	}
}

// P10.1, P10.3, P10.4: all pairs of short lines, and threes of shorter ones.
func TestFindAll(t *testing.T) {
	short := shortLines(3, "a", "M", ".", "W_")
	shorter := shortLines(2, "a", "M", ".", "W_")
	for _, text := range someTexts() {
		for _, a := range short {
			for _, b := range short {
				findsAll(t, linesOf(a+"/"+b), text)
			}
		}
		for _, a := range shorter {
			for _, b := range shorter {
				for _, c := range shorter {
					findsAll(t, linesOf(a+"+/"+b+"/"+c), text)
				}
			}
		}
	}
	for _, a := range shortLines(6, "a", "~", ".", "W_") {
		wordsAll(t, linesOf(a))
	}
}

// P10.2, P10.4: all pairs of short lines, and threes of shorter ones, Soft or not.
func TestTakeAll(t *testing.T) {
	softOrNot := func(lines []string) []string {
		var all []string
		for _, l := range lines {
			all = append(all, l, l+"+")
		}
		return all
	}
	short := softOrNot(shortLines(3, "a", ".", "W_"))
	for _, a := range short {
		takesAll(t, linesOf(a))
		for _, b := range short {
			takesAll(t, linesOf(a+"/"+b))
		}
	}
	shorter := softOrNot(shortLines(2, "a", "~"))
	for _, a := range shorter {
		for _, b := range shorter {
			for _, c := range shorter {
				takesAll(t, linesOf(a+"/"+b+"/"+c))
			}
		}
	}
}

// picking picks numbers below others, as a number that counts on asks.
func picking(seed uint32) func(n int) int {
	return func(n int) int {
		seed = seed*1664525 + 1013904223
		return int(seed>>16) % n
	}
}

// mixed are n lines of unlike lengths, of all there is.
func mixed(pick func(int) int, n int) []api.Line {
	letters := []string{"a", "a", "b", "M", "B", "~", "W_", "W_", "V_", "E_", ".", ".", ","}
	var lines []string
	for range n {
		text := ""
		for cols := 1 + pick(80); len(text) < cols; {
			letter := letters[pick(len(letters))]
			if len(text)+len(letter) > cols {
				letter = "."
			}
			text += letter
		}
		text += strings.Repeat(".", pick(81-len(text)))
		if pick(3) > 0 {
			text += "+"
		}
		lines = append(lines, text)
	}
	return linesOf(strings.Join(lines, "/"))
}

// P10.1 to P10.4: many lines; texts that stand somewhere in them, of up to 64 bytes, and others.
func TestMany(t *testing.T) {
	for _, n := range []int{1, 2, 3, 10, 40, 199, 200} {
		pick := picking(uint32(n))
		lines := mixed(pick, n)
		all := allPlaces(lines)
		takesRows(t, lines)
		for range 40 {
			a, b := all[pick(len(all))], all[pick(len(all))]
			for _, block := range []bool{false, true} {
				takes(t, lines, a, b, block, wantTake(lines, a, b, block))
			}
			first, last := wantWord(lines[a.row], a.col)
			words(t, lines, a, first, last)
			findsNear(t, lines, all, piece(lines[b.row], b.col, 1+pick(64)), pick(len(all)))
		}
	}
}

// piece is what a line says from a column on, of at most so many bytes; where it says fewer, with more behind that, so that it stands nowhere.
func piece(l api.Line, col, most int) string {
	text := "?"
	for i, c := range slices.Backward(l.Cells) {
		if i >= col {
			text = wantSays(c) + text
		}
	}
	return text[:min(most, len(text))]
}

// findsNear checks where a text is found from one place, either way.
func findsNear(t *testing.T, lines []api.Line, all []place, text string, from int) {
	t.Helper()
	there := wantStands(lines, text)
	at := func(i, beyond int) place {
		if i < 0 {
			return none
		}
		return all[i+beyond]
	}
	finds(t, lines, text, all[from], false, at(slices.Index(there[from+1:], true), from+1))
	ahead := slices.Clone(there[:from])
	slices.Reverse(ahead)
	if i := slices.Index(ahead, true); i >= 0 {
		finds(t, lines, text, all[from], true, all[from-1-i])
	} else {
		finds(t, lines, text, all[from], true, none)
	}
}
