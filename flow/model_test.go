package flow

import (
	"slices"
	"strings"
	"testing"

	"backseat/api"
)

// What follows is read from the chapter apart from the package: lines are joined from the last one on, and cells are laid at places that are counted through all lines.

func wantJoin(lines []api.Line) [][]api.Cell {
	var rows [][]api.Cell
	for i, l := range slices.Backward(lines) {
		if l.Soft && i+1 < len(lines) {
			rows[0] = slices.Concat(l.Cells, rows[0])
		} else {
			rows = slices.Insert(rows, 0, l.Cells)
		}
	}
	for i, row := range rows {
		end := 0
		for j, c := range row {
			if c != (api.Cell{Wide: 1}) {
				end = j + 1
			}
		}
		rows[i] = row[:end]
	}
	return rows
}

func wantFold(row []api.Cell, cols int) []api.Line {
	laid := map[int]api.Cell{}
	next := 0
	for i, c := range row {
		if c.Wide == 0 || c.Wide > cols {
			continue
		}
		if c.Wide == 2 && next%cols == cols-1 {
			next++
		}
		laid[next] = c
		if c.Wide == 2 {
			laid[next+1] = row[i+1]
		}
		next += c.Wide
	}
	lines := make([]api.Line, max(1, (next+cols-1)/cols))
	for i := range lines {
		lines[i].Soft = i < len(lines)-1
		for at := i * cols; at < (i+1)*cols; at++ {
			c, there := laid[at]
			if !there {
				c = api.Cell{Wide: 1}
			}
			lines[i].Cells = append(lines[i].Cells, c)
		}
	}
	return lines
}

func wantFlow(lines []api.Line, cols int) []api.Line {
	var all []api.Line
	for _, row := range wantJoin(lines) {
		all = append(all, wantFold(row, cols)...)
	}
	return all
}

func wantLetters(lines []api.Line) []string {
	var texts []string
	for _, row := range wantJoin(lines) {
		text := ""
		for _, c := range row {
			if c.Wide == 1 && c.Text == "" {
				text += " "
			}
			text += c.Text
		}
		texts = append(texts, text)
	}
	return texts
}

// eachRow hands on all rows of up to so many cells, of letters, wide ones, and blank cells of no look and of one.
func eachRow(most int, f func(cells []api.Cell)) {
	var grow func(ahead string)
	grow = func(ahead string) {
		f(rowOf(ahead))
		for _, letter := range []string{"a", "W_", ".", ","} {
			if len(ahead)+len(letter) <= most {
				grow(ahead + letter)
			}
		}
	}
	grow("")
}

// shortLines are all lines of 1 to so many cells, Soft or not.
func shortLines(most int) []api.Line {
	var lines []api.Line
	eachRow(most, func(cells []api.Cell) {
		if len(cells) > 0 {
			lines = append(lines, api.Line{Cells: cells}, api.Line{Cells: cells, Soft: true})
		}
	})
	return lines
}

// as checks all that is told of lines, for each width of some.
func as(t *testing.T, lines []api.Line, cols ...int) {
	t.Helper()
	joins(t, lines, wantJoin(lines))
	says(t, lines, wantLetters(lines)...)
	for _, n := range cols {
		stays(t, lines, flows(t, lines, n, wantFlow(lines, n)), n)
	}
}

// stays checks what follows of lines that flowed from others: flown again to that width they stay, and they say the same, but for blanks.
func stays(t *testing.T, from, lines []api.Line, cols int) {
	t.Helper()
	if cols < 2 || len(lines) > maxLines {
		return
	}
	flows(t, lines, cols, lines)
	said, _ := Letters(from)
	again, why := Letters(lines)
	if why != api.OK || !slices.EqualFunc(said, again, func(a, b string) bool { return unblanked(a) == unblanked(b) }) {
		t.Fatalf("(%s) says %q, to %d: %q %d", told(from), said, cols, again, why)
	}
}

func unblanked(text string) string { return strings.ReplaceAll(text, " ", "") }

// P8.1: all short rows, to all short widths.
func TestAllRows(t *testing.T) {
	eachRow(7, func(cells []api.Cell) {
		for cols := 1; cols <= len(cells)+1; cols++ {
			folds(t, cells, cols, wantFold(cells, cols))
		}
	})
}

// P8.1 to P8.3: all pairs of short lines, and all rows of three of shorter ones.
func TestAllLines(t *testing.T) {
	short := shortLines(3)
	for _, a := range short {
		as(t, []api.Line{a}, 1, 2, 3, 4)
		for _, b := range short {
			as(t, []api.Line{a, b}, 1, 2, 3, 4, 7)
		}
	}
	shorter := shortLines(2)
	for _, a := range shorter {
		for _, b := range shorter {
			for _, c := range shorter {
				as(t, []api.Line{a, b, c}, 1, 2, 3, 5)
			}
		}
	}
}

// mixed are n lines of unlike lengths, of all there is, as a number that counts on asks.
func mixed(seed uint32, n int) []api.Line {
	pick := func(n int) int {
		seed = seed*1664525 + 1013904223
		return int(seed>>16) % n
	}
	letters := []string{"a", "a", "b", "c", "M", "~", "W_", "W_", "V_", ".", ".", ",", ";", ":"}
	var lines []api.Line
	for range n {
		text := ""
		for cols := 1 + pick(80); len(text) < cols; {
			letter := letters[pick(len(letters))]
			if len(text)+len(letter) > cols {
				letter = "."
			}
			text += letter
		}
		text += strings.Repeat(".", pick(81-len(text)))
		if pick(4) > 0 {
			text += "+"
		}
		lines = append(lines, lineOf(text))
	}
	return lines
}

// P8.1 to P8.3: many lines, to each width, and on to others.
func TestManyLines(t *testing.T) {
	for seed, n := range []int{1, 2, 3, 10, 40, 199, 200} {
		lines := mixed(uint32(seed), n)
		step := 1 + n/10
		for cols := 1; cols <= 80; cols += step {
			as(t, lines, cols, 81-cols)
			if flown := wantFlow(lines, cols); len(flown) <= maxLines {
				as(t, flown, 2, 81-cols)
			}
		}
	}
}
