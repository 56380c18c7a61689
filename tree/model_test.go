package tree

import (
	"slices"
	"strconv"
	"strings"
	"testing"

	"backseat/api"
)

// What follows is read from the chapter apart from the package: a tree is made of plots, each of which knows its own columns and rows; a plot grows and shrinks by one cell at a time; and where panes lie is painted.

// plot is a pane, or plots that lie in a row or in a pile.
type plot struct {
	kind, pane, w, h int
	kids             []plot
}

func plotOf(t api.Tree, w, h int) plot {
	p := plot{kind: t.Kind, pane: t.Pane, w: w, h: h}
	for _, k := range t.Kids {
		if t.Kind == api.TRow {
			p.kids = append(p.kids, plotOf(k, k.Size, h))
		} else {
			p.kids = append(p.kids, plotOf(k, w, k.Size))
		}
	}
	return p
}

func (p plot) along(kind int) int {
	if kind == api.TRow {
		return p.w
	}
	return p.h
}

// text is a plot as trees are written out.
func (p plot) text() string {
	if p.kind == api.TPane {
		return strconv.Itoa(p.pane)
	}
	var kids []string
	for _, k := range p.kids {
		kids = append(kids, strconv.Itoa(k.along(p.kind))+":"+k.text())
	}
	if p.kind == api.TRow {
		return "{" + strings.Join(kids, " ") + "}"
	}
	return "[" + strings.Join(kids, " ") + "]"
}

func (p plot) panes() []int {
	if p.kind == api.TPane {
		return []int{p.pane}
	}
	var all []int
	for _, k := range p.kids {
		all = append(all, k.panes()...)
	}
	return all
}

// made tells whether a tree is made right, by what the chapter asks, one by one.
func made(t api.Tree, w, h int) bool {
	if t.Kind == api.TPane {
		return len(t.Kids) == 0 && t.Pane > 0 && t.Pane < 1000
	}
	if t.Kind != api.TRow && t.Kind != api.TPile || t.Pane != 0 || len(t.Kids) < 2 {
		return false
	}
	sum, ok := -1, true
	for _, k := range t.Kids {
		sum += k.Size + 1
		ok = ok && k.Kind != t.Kind && k.Size > 0
		if t.Kind == api.TRow {
			ok = ok && made(k, k.Size, h)
		} else {
			ok = ok && made(k, w, k.Size)
		}
	}
	return ok && (t.Kind == api.TRow && sum == w || t.Kind == api.TPile && sum == h)
}

func wantRight(t api.Tree, w, h int) bool {
	if w < 1 || w > 80 || h < 1 || h > 50 || !made(t, w, h) {
		return false
	}
	panes := plotOf(t, w, h).panes()
	times := map[int]int{}
	for _, p := range panes {
		times[p]++
	}
	return len(panes) <= 8 && len(times) == len(panes)
}

// paint paints panes, and lines between, as bytes in rows; it tells whether one was painted over.
func (p plot) paint(rows [][]int, x, y int) (over bool) {
	if p.kind == api.TPane {
		for _, row := range rows[y : y+p.h] {
			for i := range row[x : x+p.w] {
				over = over || row[x+i] != 0
				row[x+i] = p.pane
			}
		}
		return over
	}
	for i, k := range p.kids {
		if i > 0 {
			line := plot{pane: -1, w: 1, h: p.h}
			if p.kind == api.TPile {
				line.w, line.h = p.w, 1
			}
			over = line.paint(rows, x, y) || over
			if p.kind == api.TRow {
				x++
			} else {
				y++
			}
		}
		over = k.paint(rows, x, y) || over
		if p.kind == api.TRow {
			x += k.w
		} else {
			y += k.h
		}
	}
	return over
}

// wantRects is where panes were painted, in order; nil: a cell was painted not at all, or twice.
func (p plot) wantRects() []api.Rect {
	rows := make([][]int, p.h)
	for i := range rows {
		rows[i] = make([]int, p.w)
	}
	over := p.paint(rows, 0, 0)
	found := map[int]api.Rect{}
	for y, row := range rows {
		for x, pane := range row {
			r, ok := found[pane]
			if !ok {
				r = api.Rect{Pane: pane, X: x, Y: y}
			}
			r.W, r.H = max(r.W, x-r.X+1), max(r.H, y-r.Y+1)
			found[pane] = r
			over = over || pane == 0
		}
	}
	var all []api.Rect
	for _, pane := range p.panes() {
		all = append(all, found[pane])
	}
	if over {
		return nil
	}
	return all
}

// grown is a plot with one cell more along a way.
func (p plot) grown(kind int) plot {
	p.kids = slices.Clone(p.kids)
	if kind == api.TRow {
		p.w++
	} else {
		p.h++
	}
	for i := range p.kids {
		if p.kind != kind || i == len(p.kids)-1 {
			p.kids[i] = p.kids[i].grown(kind)
		}
	}
	return p
}

// shrunk is a plot with one cell less along a way, if it can do with less: the last kid that can has it less, or, across, all have.
func (p plot) shrunk(kind int) (plot, bool) {
	p.kids = slices.Clone(p.kids)
	able := 0
	for i, k := range slices.Backward(p.kids) {
		if k, ok := k.shrunk(kind); ok && (p.kind != kind || able == 0) {
			p.kids[i] = k
			able++
		}
	}
	if kind == api.TRow {
		p.w--
	} else {
		p.h--
	}
	switch p.kind {
	case api.TPane:
		return p, p.along(kind) > 0
	case kind:
		return p, able > 0
	}
	return p, able == len(p.kids)
}

// wantFit is a plot of another size, or whether it has not the room.
func (p plot) wantFit(w, h int) (plot, bool) {
	ok := true
	for p.w < w {
		p = p.grown(api.TRow)
	}
	for p.h < h {
		p = p.grown(api.TPile)
	}
	for ok && p.w > w {
		p, ok = p.shrunk(api.TRow)
	}
	for ok && p.h > h {
		p, ok = p.shrunk(api.TPile)
	}
	return p, ok
}

// wantSplit is what stands where a plot stood, in one of a kind, if a pane is halved, its cells dealt out one by one.
func (p plot) wantSplit(pane, kind, fresh, in int) []plot {
	if p.kind != api.TPane {
		var kids []plot
		for _, k := range p.kids {
			kids = append(kids, k.wantSplit(pane, kind, fresh, p.kind)...)
		}
		p.kids = kids
		return []plot{p}
	}
	if p.pane != pane {
		return []plot{p}
	}
	halves := []plot{p, p}
	halves[1].pane = fresh
	var counts [2]int
	for i := range p.along(kind) - 1 {
		counts[i%2]++
	}
	for i, n := range counts {
		if kind == api.TRow {
			halves[i].w = n
		} else {
			halves[i].h = n
		}
	}
	if in == kind {
		return halves
	}
	return []plot{{kind: kind, w: p.w, h: p.h, kids: halves}}
}

// wantKill is what stands where a plot stood, in one of a kind, if a pane in it is gone.
func (p plot) wantKill(pane, in int) []plot {
	var kids []plot
	for i, k := range p.kids {
		if k.pane != pane {
			kids = append(kids, k.wantKill(pane, p.kind)...)
			continue
		}
		heir := p.kids[max(i-1, 0)]
		if i == 0 {
			heir = p.kids[1]
		}
		for range k.along(p.kind) + 1 {
			heir = heir.grown(p.kind)
		}
		if i == 0 {
			kids = append(kids, heir)
			kids = append(kids, p.kids[2:]...)
		} else {
			kids = append(append(kids[:i-1], heir), p.kids[i+1:]...)
		}
		break
	}
	p.kids = kids
	switch {
	case len(kids) == 1 && kids[0].kind == in:
		return kids[0].kids
	case len(kids) == 1:
		return kids
	}
	return []plot{p}
}

// mapped is what is written out with other panes.
func mapped(p plot, to func(pane int) int) string {
	var change func(p plot) plot
	change = func(p plot) plot {
		if p.kind == api.TPane {
			p.pane = to(p.pane)
		}
		p.kids = slices.Clone(p.kids)
		for i, k := range p.kids {
			p.kids[i] = change(k)
		}
		return p
	}
	return change(p).text()
}

// lies checks where a tree's panes lie: each cell is one pane's, or one line's.
func lies(t *testing.T, in api.Tree, w, h int) {
	t.Helper()
	right(t, in, w, h, true)
	want := plotOf(in, w, h).wantRects()
	got, why := Rects(in, w, h)
	if why != api.OK || want == nil || !slices.Equal(got, want) {
		t.Fatalf("Rects of %s, %d by %d: %s, want %s", textOf(in), w, h, placed(got), placed(want))
	}
}

// fitsTo checks what a tree fitted to a size is.
func fitsTo(t *testing.T, in api.Tree, w, h, w2, h2 int) {
	t.Helper()
	want, ok := plotOf(in, w, h).wantFit(w2, h2)
	if !ok {
		comes(t, in, w, h, fitting(w2, h2), "", api.ErrRoom)
		return
	}
	comes(t, in, w, h, fitting(w2, h2), want.text(), api.OK)
	lies(t, treeOf(want.text()), w2, h2)
}

// splitsAt checks what a tree with a pane halved is; and, with the fresh half killed, that it is what it was.
func splitsAt(t *testing.T, in api.Tree, w, h, pane, kind, fresh int) {
	t.Helper()
	at := slices.IndexFunc(plotOf(in, w, h).wantRects(), func(r api.Rect) bool { return r.Pane == pane })
	r := plotOf(in, w, h).wantRects()[at]
	call := splitting(pane, kind, fresh)
	switch cells := (plot{w: r.W, h: r.H}).along(kind); {
	case len(plotOf(in, w, h).panes()) == 8:
		comes(t, in, w, h, call, "", api.ErrFull)
	case cells < 3:
		comes(t, in, w, h, call, "", api.ErrRoom)
	default:
		want := plotOf(in, w, h).wantSplit(pane, kind, fresh, -1)[0].text()
		comes(t, in, w, h, call, want, api.OK)
		lies(t, treeOf(want), w, h)
		comes(t, treeOf(want), w, h, killing(fresh), textOf(in), api.OK)
	}
}

// killsAt checks what a tree of several panes without one of them is.
func killsAt(t *testing.T, in api.Tree, w, h, pane int) {
	t.Helper()
	want := plotOf(in, w, h).wantKill(pane, -1)[0].text()
	comes(t, in, w, h, killing(pane), want, api.OK)
	lies(t, treeOf(want), w, h)
}

// swapsAt checks a tree with two panes swapped, and that it is what it was if they are again.
func swapsAt(t *testing.T, in api.Tree, w, h, a, b int) {
	t.Helper()
	want := mapped(plotOf(in, w, h), func(pane int) int {
		if pane == a || pane == b {
			return a + b - pane
		}
		return pane
	})
	comes(t, in, w, h, swapping(a, b), want, api.OK)
	comes(t, treeOf(want), w, h, swapping(a, b), textOf(in), api.OK)
}

// turnsAll checks a tree turned on and back, and that it is what it was if it is turned the other way.
func turnsAll(t *testing.T, in api.Tree, w, h int) {
	t.Helper()
	panes := plotOf(in, w, h).panes()
	behind := map[int]int{}
	for i, p := range panes {
		behind[p] = panes[(i+1)%len(panes)]
	}
	back := mapped(plotOf(in, w, h), func(pane int) int { return behind[pane] })
	comes(t, in, w, h, turning(true), back, api.OK)
	comes(t, treeOf(back), w, h, turning(false), textOf(in), api.OK)
}

// allTrees are all trees of a size that are not of a kind and have at most so many panes; all panes are 0.
func allTrees(w, h, not, most int) []string {
	if w < 1 || h < 1 || most < 1 {
		return nil
	}
	all := []string{"0"}
	if not != api.TRow {
		for _, kids := range allKids(w, h, api.TRow, most) {
			all = append(all, "{"+kids+"}")
		}
	}
	if not != api.TPile {
		for _, kids := range allKids(w, h, api.TPile, most) {
			all = append(all, "["+kids+"]")
		}
	}
	return all
}

// allKids are all kids, two or more, of a tree of a kind.
func allKids(w, h, kind, most int) []string {
	var all []string
	for n := 1; n < (plot{w: w, h: h}).along(kind); n++ {
		first, rest := plot{w: n, h: h}, plot{w: w - n - 1, h: h}
		if kind == api.TPile {
			first, rest = plot{w: w, h: n}, plot{w: w, h: h - n - 1}
		}
		for _, kid := range allTrees(first.w, first.h, kind, most-1) {
			kid = strconv.Itoa(n) + ":" + kid
			left := most - strings.Count(kid, ":0")
			for _, last := range allTrees(rest.w, rest.h, kind, left) {
				all = append(all, kid+" "+strconv.Itoa(rest.along(kind))+":"+last)
			}
			for _, more := range allKids(rest.w, rest.h, kind, left) {
				all = append(all, kid+" "+more)
			}
		}
	}
	return all
}

// numbered is a tree of which all panes were 0, with numbers in their stead.
func numbered(text string, numbers []int) api.Tree {
	p := treeOf(text)
	var put func(t *api.Tree)
	put = func(t *api.Tree) {
		if t.Kind == api.TPane {
			t.Pane, numbers = numbers[0], numbers[1:]
		}
		for i := range t.Kids {
			put(&t.Kids[i])
		}
	}
	put(&p)
	return p
}

// someNumbers are the numbers of a tree's panes, of one kind or another.
func someNumbers(kind int) []int {
	switch kind % 3 {
	case 0:
		return []int{1, 2, 3, 4, 5, 6, 7, 8}
	case 1:
		return []int{999, 1, 998, 2, 12, 123, 21, 8}
	}
	return []int{8, 7, 6, 5, 4, 3, 2, 1}
}

// all checks all that may be done on a tree, but for fitting it.
func all(t *testing.T, in api.Tree, w, h int) {
	t.Helper()
	lies(t, in, w, h)
	turnsAll(t, in, w, h)
	panes := plotOf(in, w, h).panes()
	for i, a := range panes {
		splitsAt(t, in, w, h, a, api.TRow, 500)
		splitsAt(t, in, w, h, a, api.TPile, 501)
		if len(panes) > 1 {
			killsAt(t, in, w, h, a)
		}
		for _, b := range panes[i:] {
			swapsAt(t, in, w, h, a, b)
		}
	}
}

func TestAll(t *testing.T) {
	for _, c := range []sized{{w: 1, h: 1}, {w: 2, h: 2}, {w: 3, h: 3}, {w: 7, h: 1}, {w: 1, h: 7}, {w: 5, h: 3}, {w: 3, h: 5}, {w: 5, h: 5}} {
		for i, text := range allTrees(c.w, c.h, api.TPane, 8) {
			all(t, numbered(text, someNumbers(i)), c.w, c.h)
		}
	}
	for i, text := range allTrees(7, 5, api.TPane, 8) {
		if i%9 == 0 {
			all(t, numbered(text, someNumbers(i/9)), 7, 5)
		}
	}
}

func TestFitAll(t *testing.T) {
	for _, c := range []sized{{w: 3, h: 3}, {w: 7, h: 1}, {w: 1, h: 7}, {w: 5, h: 4}, {w: 4, h: 5}} {
		for i, text := range allTrees(c.w, c.h, api.TPane, 8) {
			for w2 := range 7 {
				for h2 := range 7 {
					fitsTo(t, numbered(text, someNumbers(i)), c.w, c.h, w2+1, h2+1)
				}
			}
		}
	}
	for i, text := range allTrees(7, 5, api.TPane, 8) {
		fitsTo(t, numbered(text, someNumbers(i)), 7, 5, 1+i%9, 1+i%6)
	}
}

// nodes are a tree and all in it.
func nodes(t *api.Tree) []*api.Tree {
	all := []*api.Tree{t}
	for i := range t.Kids {
		all = append(all, nodes(&t.Kids[i])...)
	}
	return all
}

// changes are things that are done to a tree, of which most come to one that may not be.
func changes() []func(t *api.Tree) {
	var all []func(t *api.Tree)
	for n := -1; n <= 4; n++ {
		all = append(all, func(t *api.Tree) { t.Kind = n }, func(t *api.Tree) { t.Pane = n }, func(t *api.Tree) { t.Size = n })
	}
	return append(all,
		func(t *api.Tree) { t.Size++ },
		func(t *api.Tree) { t.Size-- },
		func(t *api.Tree) { t.Pane = 1000 },
		func(t *api.Tree) { t.Kids = t.Kids[:len(t.Kids)/2] },
		func(t *api.Tree) { t.Kids = append(t.Kids, api.Tree{Pane: 99, Size: 1}) },
		func(t *api.Tree) { t.Kids = append(t.Kids, api.Tree{Pane: 98, Size: 1}, api.Tree{Pane: 99, Size: 1}) },
		func(t *api.Tree) { slices.Reverse(t.Kids) },
		func(t *api.Tree) { *t = api.Tree{Kind: t.Kind, Size: t.Size, Kids: []api.Tree{*t}} },
		func(t *api.Tree) { *t = api.Tree{Kind: 3 - t.Kind, Size: t.Size, Kids: []api.Tree{*t}} },
	)
}

// TestRightAll has each tree changed somewhere, by each change; what may not be is told so by all calls.
func TestRightAll(t *testing.T) {
	for _, c := range []sized{{w: 1, h: 1}, {w: 3, h: 3}, {w: 7, h: 1}, {w: 1, h: 7}, {w: 5, h: 3}, {w: 3, h: 5}} {
		for _, text := range allTrees(c.w, c.h, api.TPane, 8) {
			for _, change := range changes() {
				for n := range nodes(new(numbered(text, someNumbers(0)))) {
					in := numbered(text, someNumbers(0))
					change(nodes(&in)[n])
					want := wantRight(in, c.w, c.h)
					right(t, in, c.w, c.h, want)
					if !want {
						wrong(t, in, c.w, c.h)
					}
				}
			}
		}
	}
	for i, text := range allTrees(9, 5, api.TPane, 9) {
		in := numbered(text, []int{1, 2, 3, 4, 5, 6, 7, 8, 9})
		if want := wantRight(in, 9, 5); i%9 == 0 || !want {
			right(t, in, 9, 5, want)
		}
	}
}

// wrong checks that a tree that may not be is told so by all calls.
func wrong(t *testing.T, in api.Tree, w, h int) {
	t.Helper()
	for _, call := range everyCall() {
		if got, why := call.do(in, w, h); why != api.ErrArg || got.Kids != nil || got.Pane != 0 {
			t.Fatalf("%s of %s, %d by %d: %s, %d", call.name, textOf(in), w, h, textOf(got), why)
		}
	}
}

// picking picks numbers below n, one behind the other, that are mixed.
func picking(seed uint32) func(n int) int {
	return func(n int) int {
		seed = seed*1664525 + 1013904223
		return int(seed>>8) % n
	}
}

// TestMany does many things to a tree, one behind the other, and checks it all along.
func TestMany(t *testing.T) {
	for seed := range uint32(60) {
		pick := picking(seed)
		w, h := 1+pick(80), 1+pick(50)
		in := treeOf("1")
		for fresh := 2; fresh < 80; fresh++ {
			panes := plotOf(in, w, h).panes()
			pane := panes[pick(len(panes))]
			call := splitting(pane, 1+pick(2), fresh)
			switch pick(9) {
			case 0:
				call = killing(pane)
			case 1:
				w2, h2 := 1+pick(80), 1+pick(50)
				fitsTo(t, in, w, h, w2, h2)
				if got, why := Fit(in, w, h, w2, h2); why == api.OK {
					in, w, h = got, w2, h2
				}
				continue
			case 2:
				call = swapping(pane, panes[0])
			case 3:
				call = turning(pick(2) == 0)
			}
			if fresh%20 == 0 {
				all(t, in, w, h)
			}
			if got, why := call.do(in, w, h); why == api.OK {
				in = got
			}
			lies(t, in, w, h)
		}
	}
}
