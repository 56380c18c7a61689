package lstr

import (
	"fmt"
	"regexp"
	"slices"
	"strconv"
	"strings"
	"testing"

	"backseat/api"
	"backseat/tree"
)

// What follows is read from the chapter apart from the package: a check is worked out number by number; trees are written out with where each lies handed down to its kids; and a text is read from the inside out, what is whole in it being taken away and named, till but one name is left.

func wantSum(s string) int {
	sum := 0
	for _, b := range []byte(s) {
		odd := sum % 2
		sum = (sum - odd) / 2
		if odd == 1 {
			sum += 32768
		}
		sum = (sum + int(b)) % 65536
	}
	return sum
}

// checked is a text behind its check.
func checked(text string) string { return fmt.Sprintf("%04x,%s", wantSum(text), text) }

// written is the text of a tree, whether it may be or not.
func written(t api.Tree, x, y, w, h int) string {
	text := fmt.Sprintf("%dx%d,%d,%d", w, h, x, y)
	if t.Kind == api.TPane {
		return text + "," + strconv.Itoa(t.Pane)
	}
	var kids []string
	for _, k := range t.Kids {
		if t.Kind == api.TRow {
			kids = append(kids, written(k, x, y, k.Size, h))
			x += k.Size + 1
		} else {
			kids = append(kids, written(k, x, y, w, k.Size))
			y += k.Size + 1
		}
	}
	if t.Kind == api.TRow {
		return text + "{" + strings.Join(kids, ",") + "}"
	}
	return text + "[" + strings.Join(kids, ",") + "]"
}

// part is what was read of a text: a tree, where it lies, and its panes.
type part struct {
	tree       api.Tree
	x, y, w, h int
	panes      []int
}

const (
	aNumber = `(0|[1-9][0-9]*)`
	aPlace  = `\b` + aNumber + `x` + aNumber + `,` + aNumber + `,` + aNumber
	aName   = `<[0-9]+>`
)

var (
	aPane = regexp.MustCompile(aPlace + `,` + aNumber + `\b`)
	aRow  = regexp.MustCompile(aPlace + `\{(` + aName + `(?:,` + aName + `)+)\}`)
	aPile = regexp.MustCompile(aPlace + `\[(` + aName + `(?:,` + aName + `)+)\]`)
	aByte = regexp.MustCompile(`^[][0-9x,{}]*$`)
)

// inside reads texts from the inside out, and has what was read by its name.
type inside struct{ parts []part }

// whole takes away what is whole in a text, and names it; what is bad stays.
func (in *inside) whole(text string, what *regexp.Regexp, kind int) string {
	return what.ReplaceAllStringFunc(text, func(found string) string {
		words := what.FindStringSubmatch(found)
		var n [4]int
		for i := range n {
			v, err := strconv.Atoi(words[i+1])
			if err != nil || v > 100 {
				return found
			}
			n[i] = v
		}
		p := part{x: n[2], y: n[3], w: n[0], h: n[1]}
		ok := false
		if kind == api.TPane {
			v, err := strconv.Atoi(words[5])
			p.tree, p.panes = api.Tree{Pane: v}, []int{v}
			ok = err == nil && v >= 1 && v <= 999 && p.w >= 1 && p.h >= 1
		} else {
			p, ok = in.joined(p, kind, words[5])
		}
		if !ok {
			return found
		}
		in.parts = append(in.parts, p)
		return "<" + strconv.Itoa(len(in.parts)-1) + ">"
	})
}

// joined has kids, by their names, be a row's or a pile's, if they lie so.
func (in *inside) joined(p part, kind int, names string) (part, bool) {
	p.tree.Kind = kind
	x, y, fills := p.x, p.y, true
	for name := range strings.SplitSeq(names, ",") {
		i, _ := strconv.Atoi(strings.Trim(name, "<>"))
		k := in.parts[i]
		if k.x != x || k.y != y || k.tree.Kind == kind {
			return p, false
		}
		if kind == api.TRow {
			k.tree.Size, x, fills = k.w, x+k.w+1, fills && k.h == p.h
		} else {
			k.tree.Size, y, fills = k.h, y+k.h+1, fills && k.w == p.w
		}
		p.tree.Kids = append(p.tree.Kids, k.tree)
		p.panes = append(p.panes, k.panes...)
	}
	if kind == api.TRow {
		return p, fills && x == p.x+p.w+1
	}
	return p, fills && y == p.y+p.h+1
}

// wantLayout is the tree, and the size, of a text without its check, if it is a layout's.
func wantLayout(text string) (api.Tree, int, int, bool) {
	if !aByte.MatchString(text) {
		return api.Tree{}, 0, 0, false
	}
	in := &inside{}
	text = in.whole(text, aPane, api.TPane)
	for ahead := ""; text != ahead; {
		ahead = text
		text = in.whole(text, aRow, api.TRow)
		text = in.whole(text, aPile, api.TPile)
	}
	if n := len(in.parts); n == 0 || text != "<"+strconv.Itoa(n-1)+">" {
		return api.Tree{}, 0, 0, false
	}
	p := in.parts[len(in.parts)-1]
	slices.Sort(p.panes)
	ok := p.x == 0 && p.y == 0 && p.w <= 80 && p.h <= 50 && len(p.panes) <= 8 && len(slices.Compact(p.panes)) == len(p.panes)
	return p.tree, p.w, p.h, ok
}

// reads checks what Parse says of a text, with its check, and that what is parsed, printed, is the text.
func reads(t *testing.T, text string) (ok bool) {
	t.Helper()
	want, w, h, ok := wantLayout(text)
	if !ok {
		isNone(t, text)
		return false
	}
	s := checked(text)
	got, w2, h2, _ := Parse(s)
	if back, why := Print(got, w2, h2); back != s || why != api.OK {
		t.Fatalf("Print of what is parsed of %q: %q, %d", s, back, why)
	}
	parses(t, s, want, w, h)
	return true
}

// allTrees are all trees of a size that are not of a kind and have at most so many panes; all panes are 0.
func allTrees(w, h, not, most int) []api.Tree {
	if w < 1 || h < 1 || most < 1 {
		return nil
	}
	all := []api.Tree{{}}
	for _, kind := range []int{api.TRow, api.TPile} {
		if kind == not {
			continue
		}
		for _, kids := range allKids(w, h, kind, most) {
			all = append(all, api.Tree{Kind: kind, Kids: kids})
		}
	}
	return all
}

// allKids are all kids, two or more, of a tree of a kind.
func allKids(w, h, kind, most int) [][]api.Tree {
	var all [][]api.Tree
	cells := h
	if kind == api.TRow {
		cells = w
	}
	for n := 1; n < cells; n++ {
		w2, h2, w3, h3 := w, n, w, h-n-1
		if kind == api.TRow {
			w2, h2, w3, h3 = n, h, w-n-1, h
		}
		for _, first := range allTrees(w2, h2, kind, most-1) {
			first.Size = n
			left := most - count(first)
			for _, last := range allTrees(w3, h3, kind, left) {
				last.Size = cells - n - 1
				all = append(all, []api.Tree{first, last})
			}
			for _, more := range allKids(w3, h3, kind, left) {
				all = append(all, slices.Concat([]api.Tree{first}, more))
			}
		}
	}
	return all
}

// count is how many panes a tree has.
func count(t api.Tree) int {
	n := 0
	for _, k := range t.Kids {
		n += count(k)
	}
	if t.Kind == api.TPane {
		n++
	}
	return n
}

// numbered is a copy of a tree with such panes, in order.
func numbered(t api.Tree, numbers []int) api.Tree {
	var put func(t api.Tree) api.Tree
	put = func(t api.Tree) api.Tree {
		if t.Kind == api.TPane {
			t.Pane, numbers = numbers[0], numbers[1:]
		}
		t.Kids = slices.Clone(t.Kids)
		for i, k := range t.Kids {
			t.Kids[i] = put(k)
		}
		return t
	}
	return put(t)
}

// someNumbers are the numbers of a tree's panes, of one kind or another.
func someNumbers(kind int) []int {
	switch kind % 3 {
	case 0:
		return []int{1, 2, 3, 4, 5, 6, 7, 8}
	case 1:
		return []int{999, 1, 998, 2, 12, 123, 21, 8}
	}
	return []int{80, 7, 600, 5, 4, 3, 20, 100}
}

// TestSumAll has each sum that there is come by a short text, and each byte behind it.
func TestSumAll(t *testing.T) {
	ways := map[int]string{0: ""}
	for next := []string{""}; len(next) > 0; {
		s := next[0]
		next = next[1:]
		for b := range 256 {
			longer := s + string([]byte{byte(b)})
			want := wantSum(longer)
			if got := Sum(longer); got != want {
				t.Fatalf("Sum(%q): %d, want %d", longer, got, want)
			}
			if _, ok := ways[want]; !ok {
				ways[want] = longer
				next = append(next, longer)
			}
		}
	}
	if len(ways) != 65536 {
		t.Fatal(len(ways))
	}
}

// TestAll has all trees of small sizes: their texts, what these are parsed as, that no two are alike, and that each digit stands at each place of a check.
func TestAll(t *testing.T) {
	texts := map[string]bool{}
	seen := map[[2]int]int{}
	many := 0
	for _, c := range [][2]int{{1, 1}, {1, 2}, {2, 1}, {2, 2}, {3, 1}, {1, 3}, {3, 3}, {3, 4}, {4, 3}, {4, 4}, {5, 3}, {3, 5}, {5, 5}, {6, 4}, {15, 1}, {1, 15}, {16, 1}, {80, 1}, {1, 50}, {80, 50}} {
		most := 8
		if c[0]+c[1] > 20 {
			most = 2
		}
		for i, shape := range allTrees(c[0], c[1], api.TPane, most) {
			in := numbered(shape, someNumbers(i))
			text := written(in, 0, 0, c[0], c[1])
			prints(t, in, c[0], c[1], text)
			if !reads(t, text) {
				t.Fatalf("%q is no layout's", text)
			}
			parses(t, checked(text), in, c[0], c[1])
			texts[checked(text)] = true
			many++
			for place, digit := range checked(text)[:4] {
				seen[[2]int{place, int(digit)}]++
			}
		}
	}
	if len(texts) != many || len(seen) != 4*16 {
		t.Fatal(many, len(texts), len(seen))
	}
}

// TestPanesHaveUnlikeTexts has all pairs of panes, in a row and in a pile.
func TestPanesHaveUnlikeTexts(t *testing.T) {
	texts := map[string]bool{}
	many := 0
	for a := 1; a <= 999; a += 7 {
		for b := 1; b <= 999; b += 5 {
			if a == b {
				continue
			}
			s, why := Print(row(0, pane(1, a), pane(1, b)), 3, 1)
			s2, why2 := Print(pile(0, pane(1, a), pane(1, b)), 1, 3)
			if why != api.OK || why2 != api.OK {
				t.Fatal(a, b, why, why2)
			}
			texts[s], texts[s2] = true, true
			many += 2
		}
	}
	if len(texts) != many {
		t.Fatal(many, len(texts))
	}
}

// TestSizesHaveUnlikeTexts has a pane in each size.
func TestSizesHaveUnlikeTexts(t *testing.T) {
	texts := map[string]bool{}
	for w := 1; w <= 80; w++ {
		for h := 1; h <= 50; h++ {
			both(t, pane(0, 5), w, h, fmt.Sprintf("%dx%d,0,0,5", w, h))
			texts[checked(fmt.Sprintf("%dx%d,0,0,5", w, h))] = true
		}
	}
	if len(texts) != 80*50 {
		t.Fatal(len(texts))
	}
}

// edits are a text with a byte taken out, another one in its place, or one more, at each place.
func edits(text string, do func(text string)) {
	const bytes = "0123456789x,{}[] +-aX\x00"
	for i := range len(text) + 1 {
		if i < len(text) {
			do(text[:i] + text[i+1:])
		}
		for _, b := range bytes {
			if i < len(text) {
				do(text[:i] + string(b) + text[i+1:])
			}
			do(text[:i] + string(b) + text[i:])
		}
	}
}

func TestEdits(t *testing.T) {
	right := 0
	for _, c := range []struct{ w, h, by int }{{1, 1, 1}, {3, 1, 1}, {1, 3, 1}, {3, 3, 1}, {5, 1, 1}, {1, 5, 1}, {5, 3, 10}, {3, 5, 10}, {9, 1, 13}, {1, 11, 13}, {10, 2, 20}, {80, 50, 1}} {
		most := 8
		if c.w+c.h > 20 {
			most = 1
		}
		for i, shape := range allTrees(c.w, c.h, api.TPane, most) {
			if i%c.by == 0 {
				edits(written(numbered(shape, someNumbers(i)), 0, 0, c.w, c.h), func(text string) {
					if reads(t, text) {
						right++
					}
				})
			}
		}
	}
	if right < 100 {
		t.Fatal(right)
	}
}

// picking picks numbers below n, one behind the other, that are mixed.
func picking(seed uint32) func(n int) int {
	return func(n int) int {
		seed = seed*1664525 + 1013904223
		return int(seed>>8) % n
	}
}

// mixedTree is a tree of some size.
func mixedTree(pick func(n int) int) (api.Tree, int, int) {
	w, h := 1+pick(80), 1+pick(50)
	in := api.Tree{Pane: 1 + pick(999)}
	for range pick(20) {
		panes, _ := tree.Rects(in, w, h)
		next, why := tree.Split(in, w, h, panes[pick(len(panes))].Pane, 1+pick(2), 1+pick(999))
		if why == api.OK {
			in = next
		}
	}
	return in, w, h
}

// nodes are a tree and all in it.
func nodes(t *api.Tree) []*api.Tree {
	all := []*api.Tree{t}
	for i := range t.Kids {
		all = append(all, nodes(&t.Kids[i])...)
	}
	return all
}

// changed is a tree that was changed somewhere, mostly to one that may not be.
func changed(in api.Tree, pick func(n int) int) api.Tree {
	in = bare(in)
	all := nodes(&in)
	t := all[pick(len(all))]
	other := all[pick(len(all))]
	switch pick(9) {
	case 0:
		t.Size += pick(5) - 2
	case 1:
		t.Pane = pick(3) * 500
	case 2:
		t.Kind = pick(3)
	case 3:
		t.Pane = other.Pane
	case 4:
		*t = api.Tree{Kind: 1 + pick(2), Size: t.Size, Kids: []api.Tree{*t}}
	case 5:
		slices.Reverse(t.Kids)
	case 6:
		t.Kids = t.Kids[:len(t.Kids)/2]
	case 7:
		t.Kids = append(t.Kids, pane(1+pick(3), 1+pick(999)))
	case 8:
		t.Size, other.Size = other.Size, t.Size
	}
	return in
}

// TestMany has mixed trees of any size, trees that come of them by changes, and their texts with bytes changed.
func TestMany(t *testing.T) {
	right, wrong := 0, 0
	for seed := range uint32(3000) {
		pick := picking(seed)
		in, w, h := mixedTree(pick)
		both(t, in, w, h, written(in, 0, 0, w, h))
		for range 8 {
			bad := changed(in, pick)
			text := written(bad, 0, 0, w, h)
			if tree.Right(bad, w, h) {
				both(t, bad, w, h, text)
			} else if got, why := Print(bad, w, h); got != "" || why != api.ErrArg {
				t.Fatalf("Print(%v, %d, %d): %q, %d", bad, w, h, got, why)
			}
			if reads(t, text) {
				right++
			} else {
				wrong++
			}
		}
		text := []byte(written(in, 0, 0, w, h))
		for range 4 {
			text[pick(len(text))] = text[pick(len(text))]
			reads(t, string(text))
		}
	}
	if right < 1000 || wrong < 1000 {
		t.Fatal(right, wrong)
	}
}
