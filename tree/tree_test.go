package tree

import (
	"reflect"
	"slices"
	"strconv"
	"strings"
	"testing"

	"backseat/api"
)

const (
	lowest  = -1 << 63
	highest = 1<<63 - 1
)

// In what is written out here, a pane is its number; {5:1 4:2} is a row of panes 1 and 2, of Sizes 5 and 4; with [ and ] it is a pile.

// treeOf is a tree that is written out. Behind each list of kids there is room, with others in it.
func treeOf(text string) api.Tree {
	t, rest := readTree(text)
	if rest != "" {
		panic("no tree: " + text)
	}
	return t
}

func readTree(text string) (api.Tree, string) {
	if text[0] != '{' && text[0] != '[' {
		n, rest := readNumber(text)
		return api.Tree{Pane: n}, rest
	}
	t := api.Tree{Kind: api.TRow}
	if text[0] == '[' {
		t.Kind = api.TPile
	}
	for rest := text[1:]; ; rest = rest[1:] {
		var kid api.Tree
		size, tail := readNumber(rest)
		kid, rest = readTree(tail[1:])
		kid.Size = size
		t.Kids = append(t.Kids, kid)
		if rest[0] != ' ' {
			t.Kids = withRoom(t.Kids)
			return t, rest[1:]
		}
	}
}

func readNumber(text string) (int, string) {
	end := strings.IndexFunc(text, func(r rune) bool { return r < '0' || r > '9' })
	if end < 0 {
		end = len(text)
	}
	n, err := strconv.Atoi(text[:end])
	if err != nil {
		panic("no number: " + text)
	}
	return n, text[end:]
}

func withRoom(kids []api.Tree) []api.Tree {
	n := len(kids)
	kids = append(kids, api.Tree{Pane: 901, Size: 7}, api.Tree{Pane: 902, Size: 7}, api.Tree{Pane: 903, Size: 7})
	return kids[:n]
}

// textOf is a tree, written out; the root's Size, too, if it is not 0.
func textOf(t api.Tree) string {
	text := ""
	if t.Size != 0 {
		text = strconv.Itoa(t.Size) + ":"
	}
	ends := "  "
	switch {
	case t.Kind == api.TPane && len(t.Kids) == 0:
		return text + strconv.Itoa(t.Pane)
	case t.Kind == api.TRow && t.Pane == 0:
		ends = "{}"
	case t.Kind == api.TPile && t.Pane == 0:
		ends = "[]"
	default:
		text += "kind " + strconv.Itoa(t.Kind) + " pane " + strconv.Itoa(t.Pane)
	}
	var kids []string
	for _, k := range t.Kids[:min(9, len(t.Kids))] {
		kids = append(kids, textOf(k))
	}
	return text + ends[:1] + strings.Join(kids, " ") + ends[1:]
}

// placed is where panes lie, written out: number, X, Y, W and H of each.
func placed(panes []api.Rect) string {
	var all []string
	for _, r := range panes {
		all = append(all, strconv.Itoa(r.Pane)+": "+strconv.Itoa(r.X)+","+strconv.Itoa(r.Y)+" "+strconv.Itoa(r.W)+"x"+strconv.Itoa(r.H))
	}
	return strings.Join(all, "; ")
}

// witness is what a tree is, with the room behind each list, and tells whether it is still so. It must not be in itself.
func witness(t api.Tree) (stays func() bool) {
	var whole func(t api.Tree) api.Tree
	whole = func(t api.Tree) api.Tree {
		t.Kids = slices.Clone(t.Kids[:cap(t.Kids)])
		for i, k := range t.Kids {
			t.Kids[i] = whole(k)
		}
		return t
	}
	ahead := whole(t)
	return func() bool { return reflect.DeepEqual(ahead, whole(t)) }
}

// spoil writes over each list of a tree, to the end of its room, and tells whether two of them share any.
func spoil(t *api.Tree) (shared bool) {
	var lists [][]api.Tree
	var gather func(t *api.Tree)
	gather = func(t *api.Tree) {
		if cap(t.Kids) == 0 {
			return
		}
		lists = append(lists, t.Kids[:cap(t.Kids)])
		for i := range t.Kids {
			gather(&t.Kids[i])
		}
	}
	gather(t)
	for i, l := range lists {
		for j := range l {
			l[j] = api.Tree{Kind: -7, Pane: i}
		}
	}
	for i, l := range lists {
		for _, k := range l {
			shared = shared || k.Pane != i
		}
	}
	return shared
}

// done is a call of which a tree comes.
type done struct {
	name string
	do   func(t api.Tree, w, h int) (api.Tree, api.Errno)
}

func named(name string, numbers ...int) string {
	for _, n := range numbers {
		name += " " + strconv.Itoa(n)
	}
	return name
}

func fitting(w2, h2 int) done {
	return done{named("Fit", w2, h2), func(t api.Tree, w, h int) (api.Tree, api.Errno) { return Fit(t, w, h, w2, h2) }}
}

func splitting(pane, kind, fresh int) done {
	return done{named("Split", pane, kind, fresh), func(t api.Tree, w, h int) (api.Tree, api.Errno) { return Split(t, w, h, pane, kind, fresh) }}
}

func killing(pane int) done {
	return done{named("Kill", pane), func(t api.Tree, w, h int) (api.Tree, api.Errno) { return Kill(t, w, h, pane) }}
}

func swapping(a, b int) done {
	return done{named("Swap", a, b), func(t api.Tree, w, h int) (api.Tree, api.Errno) { return Swap(t, w, h, a, b) }}
}

func turning(back bool) done {
	return done{"Turn " + strconv.FormatBool(back), func(t api.Tree, w, h int) (api.Tree, api.Errno) { return Turn(t, w, h, back) }}
}

// comes checks what comes of a call: a tree that is written out, of new lists alone, or an error with no tree. The tree that is handed in, and the room behind its lists, stay.
func comes(t *testing.T, in api.Tree, w, h int, call done, want string, why api.Errno) {
	t.Helper()
	stays := witness(in)
	got, e := call.do(in, w, h)
	if e != why || textOf(got) != want && why == api.OK || why != api.OK && !reflect.DeepEqual(got, api.Tree{}) {
		t.Fatalf("%s of %s, %d by %d: %s, %d, want %s, %d", call.name, textOf(in), w, h, textOf(got), e, want, why)
	}
	if spoil(&got) {
		t.Fatalf("%s of %s, %d by %d: two of its lists share some", call.name, textOf(in), w, h)
	}
	if !stays() {
		t.Fatalf("%s of %s, %d by %d: it was changed, or shares a list with what came of it", call.name, textOf(in), w, h)
	}
}

// gives checks what comes of a call on a tree that is written out, with each of some Sizes as the root's.
func gives(t *testing.T, text string, w, h int, call done, want string) {
	t.Helper()
	for _, size := range []int{0, 1, 7, -1, lowest, highest} {
		in := treeOf(text)
		in.Size = size
		comes(t, in, w, h, call, want, api.OK)
	}
}

// fails checks that a call tells an error, of a tree that is written out.
func fails(t *testing.T, text string, w, h int, call done, why api.Errno) {
	t.Helper()
	comes(t, treeOf(text), w, h, call, "", why)
}

func TestExample(t *testing.T) {
	gives(t, "1", 10, 5, splitting(1, api.TRow, 2), "{5:1 4:2}")
}

// right checks whether a tree may be, with each of some Sizes as the root's, and that Rects tells so.
func right(t *testing.T, in api.Tree, w, h int, want bool) {
	t.Helper()
	for _, size := range []int{in.Size, 1, -1, lowest, highest} {
		in.Size = size
		if got := Right(in, w, h); got != want {
			t.Fatalf("Right of %s, %d by %d: %t", textOf(in), w, h, got)
		}
	}
	if panes, why := Rects(in, w, h); (why == api.OK) != want || !want && (panes != nil || why != api.ErrArg) {
		t.Fatalf("Rects of %s, %d by %d: %s, %d", textOf(in), w, h, placed(panes), why)
	}
}

// deepest is as deep as 8 panes go, 9 by 7: rows within piles, and so on.
const deepest = "{1:1 7:[1:2 5:{1:3 5:[1:4 3:{1:5 3:[1:6 1:{1:7 1:8}]}]}]}"

// mixed is a row of a pile and a pile, of 6 panes, 8 by 4.
const mixed = "{3:[2:{1:1 1:2} 1:3] 4:[1:4 2:{2:5 1:6}]}"

type sized struct {
	text string
	w, h int
}

func TestRight(t *testing.T) {
	for _, c := range []sized{
		{"1", 1, 1},
		{"1", 80, 50},
		{"999", 1, 50},
		{"999", 80, 1},
		{"{1:1 1:2}", 3, 1},
		{"{1:1 1:2}", 3, 50},
		{"[1:1 1:2]", 1, 3},
		{"[1:1 1:2]", 80, 3},
		{"{78:999 1:1}", 80, 50},
		{"[1:1 48:999]", 80, 50},
		{"{1:8 1:7 1:6 1:5 1:4 1:3 1:2 1:1}", 15, 1},
		{"[1:8 1:7 1:6 1:5 1:4 1:3 1:2 1:1]", 1, 15},
		{"{73:1 1:2 1:3 2:4}", 80, 2},
		{"{1:[1:1 1:2] 1:3}", 3, 3},
		{"[1:1 1:{1:2 1:3}]", 3, 3},
		{mixed, 8, 4},
		{deepest, 9, 7},
	} {
		right(t, treeOf(c.text), c.w, c.h, true)
	}
}

func TestRightSizes(t *testing.T) {
	for _, n := range []int{lowest, -50, -1, 0, 51, 80, 81, highest} {
		right(t, treeOf("1"), n, 1, n == 51 || n == 80)
		right(t, treeOf("1"), 1, n, false)
		right(t, treeOf("1"), n, n, false)
	}
	for _, c := range []sized{
		{"{1:1 1:2}", 2, 1},
		{"{1:1 1:2}", 4, 1},
		{"{1:1 1:2}", 3, 0},
		{"{1:1 1:2}", 3, 51},
		{"{1:1 1:2}", 1, 3},
		{"[1:1 1:2]", 1, 2},
		{"[1:1 1:2]", 1, 4},
		{"[1:1 1:2]", 0, 3},
		{"[1:1 1:2]", 81, 3},
		{"[1:1 1:2]", 3, 1},
		{"{79:1 1:2}", 81, 1},
		{"[49:1 1:2]", 1, 51},
		{mixed, 8, 3},
		{mixed, 8, 5},
		{mixed, 7, 4},
		{mixed, 9, 4},
		{mixed, 4, 8},
		{deepest, 9, 8},
		{deepest, 10, 7},
	} {
		right(t, treeOf(c.text), c.w, c.h, false)
	}
}

func TestRightWrong(t *testing.T) {
	for _, c := range []sized{
		{"0", 5, 5},
		{"1000", 5, 5},
		{"{5:1}", 5, 5},
		{"[5:1]", 5, 5},
		{"{5:1 4:0}", 10, 5},
		{"{5:1000 4:1}", 10, 5},
		{"{5:1 5:2}", 10, 5},
		{"{5:1 3:2}", 10, 5},
		{"{5:1 0:2 3:3}", 10, 5},
		{"{9:1 0:2}", 10, 5},
		{"{0:1 9:2}", 10, 5},
		{"{5:1 4:{2:2 1:3}}", 10, 5},
		{"{4:{1:1 2:2} 5:3}", 10, 5},
		{"[2:1 2:[1:2 0:3]]", 10, 5},
		{"[1:1 3:[1:2 1:3]]", 10, 5},
		{"{5:1 4:[2:2 1:3]}", 10, 5},
		{"{5:1 4:[2:2 3:3]}", 10, 5},
		{"{5:1 4:[5:2]}", 10, 5},
		{"{5:1 4:1}", 10, 5},
		{"{5:7 4:[2:2 2:7]}", 10, 5},
		{"{1:1 1:2 1:3 1:4 1:5 1:6 1:7 1:8 1:9}", 17, 1},
		{"[1:1 1:2 1:3 1:4 1:5 1:6 1:7 1:8 1:9]", 1, 17},
		{"{1:1 7:[1:2 5:{1:3 5:[1:4 3:{1:5 3:[1:6 1:{1:7 1:7}]}]}]}", 9, 7},
		{"{1:1 9:[1:2 7:{1:3 7:[1:4 5:{1:5 5:[1:6 3:{1:7 3:[1:8 1:9]}]}]}]}", 11, 9},
	} {
		right(t, treeOf(c.text), c.w, c.h, false)
	}
}

// spoilt is a tree of which something may not be, of 10 by 5.
type spoilt struct {
	name string
	tree api.Tree
}

// someSpoilt are trees of 10 by 5 that may be, each with one thing changed, somewhere.
func someSpoilt() []spoilt {
	var all []spoilt
	add := func(name, text string, change func(t *api.Tree)) {
		in := treeOf(text)
		change(&in)
		all = append(all, spoilt{name, in})
	}
	for _, kind := range []int{-1, 3, lowest, highest, api.TRow, api.TPile} {
		add(named("a pane of kind", kind), "1", func(t *api.Tree) { t.Kind = kind })
		add(named("a kid that is a pane of kind", kind), "{5:1 4:2}", func(t *api.Tree) { t.Kids[1].Kind = kind })
	}
	for _, kind := range []int{-1, 3, lowest, highest, api.TPane} {
		add(named("a row of kind", kind), "{5:1 4:2}", func(t *api.Tree) { t.Kind = kind })
		add(named("a pile of kind", kind), "[2:1 2:2]", func(t *api.Tree) { t.Kind = kind })
		add(named("a kid that is a pile of kind", kind), "{5:[2:1 2:3] 4:2}", func(t *api.Tree) { t.Kids[0].Kind = kind })
	}
	for _, pane := range []int{lowest, -1, 0, 1000, highest} {
		add(named("pane", pane), "1", func(t *api.Tree) { t.Pane = pane })
		add(named("a kid that is pane", pane), "[2:1 2:2]", func(t *api.Tree) { t.Kids[0].Pane = pane })
	}
	for _, pane := range []int{lowest, -1, 1, 3, 999, highest} {
		add(named("a row with Pane", pane), "{5:1 4:2}", func(t *api.Tree) { t.Pane = pane })
		add(named("a pile with Pane", pane), "[2:1 2:2]", func(t *api.Tree) { t.Pane = pane })
		add(named("a kid that is a pile with Pane", pane), "{5:[2:1 2:4] 4:2}", func(t *api.Tree) { t.Kids[0].Pane = pane })
	}
	for _, kids := range []string{"{5:2 4:3}", "[2:2 2:3]", "{10:2 5:3}"} {
		add("a pane with Kids", "1", func(t *api.Tree) { t.Kids = treeOf(kids).Kids })
		add("a pane with a Kid", "1", func(t *api.Tree) { t.Kids = treeOf(kids).Kids[:1] })
		add("a kid that is a pane with Kids", "[2:1 2:4]", func(t *api.Tree) { t.Kids[1].Kids = treeOf(kids).Kids })
	}
	for _, n := range []int{0, 1} {
		add(named("kids of a row:", n), "{5:1 4:2}", func(t *api.Tree) { t.Kids = t.Kids[:n]; t.Size = 10 })
		add(named("kids of a pile:", n), "[2:1 2:2]", func(t *api.Tree) { t.Kids = t.Kids[:n]; t.Size = 5 })
	}
	for _, n := range []int{lowest, -4, -1, 0, 3, 5, 9, 10, highest - 1, highest} {
		add(named("last Size of a row:", n), "{5:1 4:2}", func(t *api.Tree) { t.Kids[1].Size = n })
		add(named("first Size of a pile:", n), "[4:1 0:2]", func(t *api.Tree) { t.Kids[0].Size = n })
		add(named("a Size within a pile:", n), "[1:1 3:{5:2 4:3}]", func(t *api.Tree) { t.Kids[1].Kids[1].Size = n })
	}
	return append(all, wrapped()...)
}

// wrapped are rows and piles, of 10 by 5, of Sizes that are too much, or too little, but are enough where sums wrap round.
func wrapped() []spoilt {
	var all []spoilt
	for _, sizes := range [][]int{{highest, highest, 10}, {highest, lowest, 9}, {-1, 9}, {10, -1}, {12, -3}, {lowest, lowest, 8}, {1 << 62, 1 << 62, 1 << 62, 1 << 62, 6}} {
		for kind := api.TRow; kind <= api.TPile; kind++ {
			in := api.Tree{Kind: kind}
			for i, n := range sizes {
				if kind == api.TPile && i == len(sizes)-1 {
					n -= 5
				}
				in.Kids = append(in.Kids, api.Tree{Pane: i + 1, Size: n})
			}
			all = append(all, spoilt{"Sizes that wrap round", in})
		}
	}
	return all
}

// everyCall are calls that come to something of most trees that may be.
func everyCall() []done {
	return []done{fitting(10, 5), fitting(80, 50), splitting(1, api.TRow, 999), splitting(2, api.TPile, 998), killing(1), killing(2), swapping(1, 1), swapping(1, 2), turning(false), turning(true)}
}

func TestSpoilt(t *testing.T) {
	for _, c := range someSpoilt() {
		right(t, c.tree, 10, 5, false)
		for _, call := range everyCall() {
			comes(t, c.tree, 10, 5, call, "", api.ErrArg)
		}
	}
	for _, text := range []string{"1", "{5:1 4:2}", "[2:1 2:2]", "{5:[2:1 2:3] 4:2}", "[1:1 3:{5:2 4:3}]"} {
		right(t, treeOf(text), 10, 5, true)
		for _, c := range []sized{{text, 10, 0}, {text, 0, 5}, {text, 81, 5}, {text, 10, 51}, {text, -10, -5}, {text, lowest, highest}, {text, highest, lowest}} {
			right(t, treeOf(text), c.w, c.h, false)
			for _, call := range everyCall() {
				fails(t, text, c.w, c.h, call, api.ErrArg)
			}
		}
	}
}

// endless are trees that are in themselves, of 80 by 50, as far as one sees at once.
func endless() []api.Tree {
	row := api.Tree{Kind: api.TRow, Kids: []api.Tree{{Size: 40, Pane: 1}, {Size: 39, Kind: api.TPile}}}
	pile := api.Tree{Kind: api.TPile, Kids: []api.Tree{{Size: 25, Pane: 2}, {Size: 24, Kind: api.TRow}}}
	row.Kids[1].Kids, pile.Kids[1].Kids = pile.Kids, row.Kids
	first := api.Tree{Kind: api.TPile, Kids: []api.Tree{{Size: 49, Kind: api.TRow}, {Size: 0, Pane: 2}}}
	first.Kids[0].Kids = []api.Tree{{Size: 79, Kind: api.TPile, Kids: first.Kids}, {Size: 0, Pane: 1}}
	return []api.Tree{row, pile, first}
}

// huge are a row of many kids, and trees of many levels.
func huge() []api.Tree {
	const many = 1 << 16
	row := api.Tree{Kind: api.TRow, Kids: make([]api.Tree, many)}
	for i := range row.Kids {
		row.Kids[i] = api.Tree{Pane: 1 + i%999, Size: 1}
	}
	all := []api.Tree{row}
	for _, beside := range []int{0, 1} {
		deep := api.Tree{Pane: 1, Size: 1}
		for i := range many {
			kids := append([]api.Tree{deep}, api.Tree{Pane: 2, Size: 1})
			deep = api.Tree{Kind: api.TRow + i%2, Size: 1, Kids: kids[:1+beside]}
		}
		all = append(all, deep)
	}
	return all
}

func TestEnds(t *testing.T) {
	for _, in := range slices.Concat(endless(), huge()) {
		for _, c := range []sized{{w: 80, h: 50}, {w: 1, h: 1}} {
			right(t, in, c.w, c.h, false)
			for _, call := range everyCall() {
				if got, why := call.do(in, c.w, c.h); why != api.ErrArg || !reflect.DeepEqual(got, api.Tree{}) {
					t.Fatalf("%s: %d", call.name, why)
				}
			}
		}
	}
	for _, in := range huge() {
		same := in
		same.Size = -7
		if !Like(in, same) || Like(in, api.Tree{Kind: in.Kind}) {
			t.Fatal("many kids, or levels: not like itself")
		}
	}
}

func TestRects(t *testing.T) {
	for _, c := range []struct {
		sized
		want string
	}{
		{sized{"7", 80, 50}, "7: 0,0 80x50"},
		{sized{"7", 1, 1}, "7: 0,0 1x1"},
		{sized{"{5:1 4:2}", 10, 5}, "1: 0,0 5x5; 2: 6,0 4x5"},
		{sized{"[2:9 2:3]", 10, 5}, "9: 0,0 10x2; 3: 0,3 10x2"},
		{sized{"{1:3 1:2 1:1}", 5, 1}, "3: 0,0 1x1; 2: 2,0 1x1; 1: 4,0 1x1"},
		{sized{"[1:3 2:2 3:1]", 1, 8}, "3: 0,0 1x1; 2: 0,2 1x2; 1: 0,5 1x3"},
		{sized{mixed, 8, 4}, "1: 0,0 1x2; 2: 2,0 1x2; 3: 0,3 3x1; 4: 4,0 4x1; 5: 4,2 2x2; 6: 7,2 1x2"},
		{sized{"[3:{3:[1:1 1:2] 4:3} 1:4]", 8, 5}, "1: 0,0 3x1; 2: 0,2 3x1; 3: 4,0 4x3; 4: 0,4 8x1"},
		{sized{deepest, 9, 7}, "1: 0,0 1x7; 2: 2,0 7x1; 3: 2,2 1x5; 4: 4,2 5x1; 5: 4,4 1x3; 6: 6,4 3x1; 7: 6,6 1x1; 8: 8,6 1x1"},
	} {
		in := treeOf(c.text)
		in.Size = 9
		stays := witness(in)
		got, why := Rects(in, c.w, c.h)
		if placed(got) != c.want || why != api.OK || !stays() {
			t.Errorf("%s, %d by %d: %s, %d", c.text, c.w, c.h, placed(got), why)
		}
	}
}

func TestFit(t *testing.T) {
	for _, c := range []struct {
		sized
		w2, h2 int
		want   string
	}{
		{sized{"7", 80, 50}, 1, 1, "7"},
		{sized{"7", 1, 1}, 80, 50, "7"},
		{sized{"{5:1 4:2}", 10, 5}, 10, 5, "{5:1 4:2}"},
		{sized{"{5:1 4:2}", 10, 5}, 10, 50, "{5:1 4:2}"},
		{sized{"{5:1 4:2}", 10, 5}, 10, 1, "{5:1 4:2}"},
		{sized{"{5:1 4:2}", 10, 5}, 11, 5, "{5:1 5:2}"},
		{sized{"{5:1 4:2}", 10, 5}, 80, 5, "{5:1 74:2}"},
		{sized{"{5:1 4:2}", 10, 5}, 9, 5, "{5:1 3:2}"},
		{sized{"{5:1 4:2}", 10, 5}, 7, 5, "{5:1 1:2}"},
		{sized{"{5:1 4:2}", 10, 5}, 6, 5, "{4:1 1:2}"},
		{sized{"{5:1 4:2}", 10, 5}, 3, 5, "{1:1 1:2}"},
		{sized{"[5:1 4:2]", 5, 10}, 6, 10, "[5:1 4:2]"},
		{sized{"[5:1 4:2]", 5, 10}, 5, 50, "[5:1 44:2]"},
		{sized{"[5:1 4:2]", 5, 10}, 5, 6, "[4:1 1:2]"},
		{sized{"[5:1 4:2]", 5, 10}, 80, 3, "[1:1 1:2]"},
		{sized{"{4:1 3:2 1:3}", 10, 1}, 9, 1, "{4:1 2:2 1:3}"},
		{sized{"{4:1 3:2 1:3}", 10, 1}, 7, 1, "{3:1 1:2 1:3}"},
		{sized{"{4:1 1:2 1:3}", 8, 1}, 6, 1, "{2:1 1:2 1:3}"},
		{sized{"{4:1 3:2 5:3}", 14, 1}, 8, 1, "{4:1 1:2 1:3}"},
		{sized{"{1:1 3:2 1:3}", 7, 1}, 12, 1, "{1:1 3:2 6:3}"},
		{sized{"{5:[2:{1:1 3:2} 2:3] 4:4}", 10, 5}, 8, 5, "{5:[2:{1:1 3:2} 2:3] 2:4}"},
		{sized{"{5:[2:{1:1 3:2} 2:3] 4:4}", 10, 5}, 6, 5, "{4:[2:{1:1 2:2} 2:3] 1:4}"},
		{sized{"{5:[2:{1:1 3:2} 2:3] 4:4}", 10, 5}, 5, 4, "{3:[2:{1:1 1:2} 1:3] 1:4}"},
		{sized{"{5:[2:{1:1 3:2} 2:3] 4:4}", 10, 5}, 5, 3, "{3:[1:{1:1 1:2} 1:3] 1:4}"},
		{sized{"{4:4 5:[2:{1:1 3:2} 2:3]}", 10, 5}, 7, 5, "{3:4 3:[2:{1:1 1:2} 2:3]}"},
		{sized{"{4:4 5:[2:{1:1 3:2} 2:3]}", 10, 5}, 13, 8, "{4:4 8:[2:{1:1 6:2} 5:3]}"},
		{sized{mixed, 8, 4}, 10, 6, "{3:[2:{1:1 1:2} 3:3] 6:[1:4 4:{2:5 3:6}]}"},
		{sized{mixed, 8, 4}, 7, 3, "{3:[1:{1:1 1:2} 1:3] 3:[1:4 1:{1:5 1:6}]}"},
		{sized{deepest, 9, 7}, 80, 50, "{1:1 78:[1:2 48:{1:3 76:[1:4 46:{1:5 74:[1:6 44:{1:7 72:8}]}]}]}"},
		{sized{"{1:1 78:[1:2 48:{1:3 76:[1:4 46:{1:5 74:[1:6 44:{1:7 72:8}]}]}]}", 80, 50}, 9, 7, deepest},
	} {
		gives(t, c.text, c.w, c.h, fitting(c.w2, c.h2), c.want)
	}
}

func TestFitRoom(t *testing.T) {
	for _, c := range []struct {
		sized
		w2, h2 int
	}{
		{sized{"{5:1 4:2}", 10, 5}, 2, 5},
		{sized{"{5:1 4:2}", 10, 5}, 1, 50},
		{sized{"[5:1 4:2]", 5, 10}, 5, 2},
		{sized{"[5:1 4:2]", 5, 10}, 80, 1},
		{sized{"{1:1 1:2}", 3, 1}, 2, 1},
		{sized{"{1:8 1:7 1:6 1:5 1:4 1:3 1:2 1:1}", 15, 1}, 14, 50},
		{sized{"[1:8 1:7 1:6 1:5 1:4 1:3 1:2 1:1]", 1, 15}, 80, 14},
		{sized{mixed, 8, 4}, 6, 4},
		{sized{mixed, 8, 4}, 8, 2},
		{sized{"{5:[2:{1:1 3:2} 2:3] 4:4}", 10, 5}, 4, 5},
		{sized{"[2:4 7:{2:[1:1 5:2] 2:3}]", 5, 10}, 5, 4},
		{sized{deepest, 9, 7}, 8, 7},
		{sized{deepest, 9, 7}, 9, 6},
		{sized{deepest, 9, 7}, 1, 1},
	} {
		fails(t, c.text, c.w, c.h, fitting(c.w2, c.h2), api.ErrRoom)
	}
	for _, n := range []int{lowest, -1, 0, 81, highest} {
		fails(t, "1", 10, 5, fitting(n, 5), api.ErrArg)
		fails(t, "{5:1 4:2}", 10, 5, fitting(n, 5), api.ErrArg)
		fails(t, "{5:1 4:2}", 10, 5, fitting(n, 0), api.ErrArg)
		fails(t, "{5:1 4:2}", 10, 5, fitting(1, n), api.ErrArg)
	}
	for _, n := range []int{lowest, -1, 0, 51, highest} {
		fails(t, "1", 10, 5, fitting(10, n), api.ErrArg)
		fails(t, "[2:1 2:2]", 10, 5, fitting(10, n), api.ErrArg)
	}
}

func TestSplit(t *testing.T) {
	for _, c := range []struct {
		sized
		pane, kind, fresh int
		want              string
	}{
		{sized{"1", 3, 1}, 1, api.TRow, 2, "{1:1 1:2}"},
		{sized{"1", 4, 1}, 1, api.TRow, 2, "{2:1 1:2}"},
		{sized{"1", 5, 1}, 1, api.TRow, 999, "{2:1 2:999}"},
		{sized{"999", 80, 50}, 999, api.TRow, 1, "{40:999 39:1}"},
		{sized{"1", 1, 3}, 1, api.TPile, 2, "[1:1 1:2]"},
		{sized{"1", 1, 4}, 1, api.TPile, 2, "[2:1 1:2]"},
		{sized{"1", 80, 50}, 1, api.TPile, 2, "[25:1 24:2]"},
		{sized{"{5:1 4:2}", 10, 5}, 1, api.TRow, 3, "{2:1 2:3 4:2}"},
		{sized{"{5:1 4:2}", 10, 5}, 2, api.TRow, 3, "{5:1 2:2 1:3}"},
		{sized{"{5:1 4:2}", 10, 5}, 1, api.TPile, 3, "{5:[2:1 2:3] 4:2}"},
		{sized{"{5:1 4:2}", 10, 5}, 2, api.TPile, 3, "{5:1 4:[2:2 2:3]}"},
		{sized{"[5:1 4:2]", 5, 10}, 1, api.TPile, 3, "[2:1 2:3 4:2]"},
		{sized{"[5:1 4:2]", 5, 10}, 2, api.TPile, 3, "[5:1 2:2 1:3]"},
		{sized{"[5:1 4:2]", 5, 10}, 1, api.TRow, 3, "[5:{2:1 2:3} 4:2]"},
		{sized{"[5:1 4:2]", 5, 10}, 2, api.TRow, 3, "[5:1 4:{2:2 2:3}]"},
		{sized{"{3:1 3:2 3:3}", 11, 3}, 2, api.TRow, 9, "{3:1 1:2 1:9 3:3}"},
		{sized{"{3:1 3:2 3:3}", 11, 3}, 2, api.TPile, 9, "{3:1 3:[1:2 1:9] 3:3}"},
		{sized{mixed, 8, 4}, 4, api.TRow, 7, "{3:[2:{1:1 1:2} 1:3] 4:[1:{2:4 1:7} 2:{2:5 1:6}]}"},
		{sized{mixed, 8, 4}, 3, api.TRow, 7, "{3:[2:{1:1 1:2} 1:{1:3 1:7}] 4:[1:4 2:{2:5 1:6}]}"},
		{sized{"{1:1 1:2 1:3 1:4 1:5 1:6 3:7}", 15, 1}, 7, api.TRow, 8, "{1:1 1:2 1:3 1:4 1:5 1:6 1:7 1:8}"},
		{sized{"{1:1 1:2 1:3 1:4 1:5 1:6 3:7}", 15, 3}, 1, api.TPile, 8, "{1:[1:1 1:8] 1:2 1:3 1:4 1:5 1:6 3:7}"},
	} {
		gives(t, c.text, c.w, c.h, splitting(c.pane, c.kind, c.fresh), c.want)
	}
}

// full is a row of 8 panes, 24 by 5, with room to halve the last one.
const full = "{1:1 1:2 1:3 1:4 1:5 1:6 1:7 10:8}"

func TestSplitWrong(t *testing.T) {
	const two, three = "{5:1 4:2}", "{5:1 2:2 1:3}"
	type wrong struct {
		sized
		pane, kind, fresh int
		why               api.Errno
	}
	cases := []wrong{
		{sized{two, 10, 5}, 3, api.TRow, 4, api.ErrNone},
		{sized{two, 10, 5}, 0, api.TRow, 4, api.ErrNone},
		{sized{two, 10, 5}, 0, api.TPile, 4, api.ErrNone},
		{sized{two, 10, 5}, 3, api.TRow, 1, api.ErrNone},
		{sized{two, 10, 5}, 3, api.TRow, 3, api.ErrNone},
		{sized{full, 24, 5}, 9, api.TRow, 1, api.ErrNone},
		{sized{full, 24, 5}, 9, api.TRow, 10, api.ErrNone},
		{sized{two, 10, 5}, lowest, api.TRow, 4, api.ErrNone},
		{sized{two, 10, 5}, highest, api.TRow, 4, api.ErrNone},
		{sized{two, 10, 5}, 1, api.TRow, 1, api.ErrTwice},
		{sized{two, 10, 5}, 1, api.TRow, 2, api.ErrTwice},
		{sized{three, 10, 1}, 3, api.TPile, 1, api.ErrTwice},
		{sized{full, 24, 5}, 1, api.TRow, 8, api.ErrTwice},
		{sized{full, 24, 5}, 8, api.TRow, 9, api.ErrFull},
		{sized{full, 24, 5}, 8, api.TPile, 9, api.ErrFull},
		{sized{full, 24, 5}, 1, api.TRow, 9, api.ErrFull},
		{sized{deepest, 9, 7}, 1, api.TPile, 9, api.ErrFull},
		{sized{"1", 2, 50}, 1, api.TRow, 2, api.ErrRoom},
		{sized{"1", 1, 50}, 1, api.TRow, 2, api.ErrRoom},
		{sized{"1", 80, 2}, 1, api.TPile, 2, api.ErrRoom},
		{sized{"1", 80, 1}, 1, api.TPile, 2, api.ErrRoom},
		{sized{three, 10, 5}, 2, api.TRow, 4, api.ErrRoom},
		{sized{three, 10, 5}, 3, api.TRow, 4, api.ErrRoom},
		{sized{three, 10, 2}, 1, api.TPile, 4, api.ErrRoom},
		{sized{"{5:[2:1 2:3] 4:2}", 10, 5}, 1, api.TPile, 4, api.ErrRoom},
		{sized{"[1:1 3:{2:2 7:3}]", 10, 5}, 2, api.TRow, 4, api.ErrRoom},
		{sized{"[1:1 3:{2:2 7:3}]", 10, 5}, 1, api.TPile, 4, api.ErrRoom},
	}
	for _, kind := range []int{api.TPane, -1, 3, lowest, highest} {
		cases = append(cases, wrong{sized{two, 10, 5}, 1, kind, 3, api.ErrArg}, wrong{sized{two, 10, 5}, 9, kind, 1, api.ErrArg}, wrong{sized{full, 24, 5}, 1, kind, 9, api.ErrArg}, wrong{sized{"1", 1, 1}, 1, kind, 2, api.ErrArg})
	}
	for _, fresh := range []int{0, 1000, -1, lowest, highest} {
		cases = append(cases, wrong{sized{two, 10, 5}, 1, api.TRow, fresh, api.ErrArg}, wrong{sized{two, 10, 5}, 9, api.TPile, fresh, api.ErrArg}, wrong{sized{full, 24, 5}, 1, api.TRow, fresh, api.ErrArg}, wrong{sized{"1", 1, 1}, 1, api.TPile, fresh, api.ErrArg})
	}
	for _, c := range cases {
		fails(t, c.text, c.w, c.h, splitting(c.pane, c.kind, c.fresh), c.why)
	}
}

func TestKill(t *testing.T) {
	for _, c := range []struct {
		sized
		pane int
		want string
	}{
		{sized{"{5:1 4:2}", 10, 5}, 1, "2"},
		{sized{"{5:1 4:2}", 10, 5}, 2, "1"},
		{sized{"[1:1 3:2]", 10, 5}, 1, "2"},
		{sized{"[1:1 3:2]", 10, 5}, 2, "1"},
		{sized{"{5:1 1:2 2:3}", 10, 5}, 1, "{7:2 2:3}"},
		{sized{"{5:1 1:2 2:3}", 10, 5}, 2, "{7:1 2:3}"},
		{sized{"{5:1 1:2 2:3}", 10, 5}, 3, "{5:1 4:2}"},
		{sized{"[5:1 1:2 2:3]", 5, 10}, 1, "[7:2 2:3]"},
		{sized{"[5:1 1:2 2:3]", 5, 10}, 2, "[7:1 2:3]"},
		{sized{"[5:1 1:2 2:3]", 5, 10}, 3, "[5:1 4:2]"},
		{sized{"{1:1 1:2 1:3 1:4 1:5 1:6 1:7 10:8}", 24, 5}, 7, "{1:1 1:2 1:3 1:4 1:5 3:6 10:8}"},
		// The tree that is left with one kid is that kid, a pane.
		{sized{"{5:[2:1 2:3] 4:2}", 10, 5}, 1, "{5:3 4:2}"},
		{sized{"{5:[2:1 2:3] 4:2}", 10, 5}, 3, "{5:1 4:2}"},
		{sized{"[1:4 3:{5:2 4:3}]", 10, 5}, 2, "[1:4 3:3]"},
		{sized{"[1:4 3:{5:2 4:3}]", 10, 5}, 3, "[1:4 3:2]"},
		// The tree that is left with one kid is the root.
		{sized{"{5:[2:1 2:3] 4:2}", 10, 5}, 2, "[2:1 2:3]"},
		{sized{"[1:4 3:{5:2 4:3}]", 10, 5}, 4, "{5:2 4:3}"},
		{sized{"[1:4 3:{5:2 4:[1:3 1:1]}]", 10, 5}, 4, "{5:2 4:[1:3 3:1]}"},
		{sized{"{5:[2:{1:1 3:5} 2:3] 4:2}", 10, 5}, 2, "[2:{1:1 8:5} 2:3]"},
		// The kid that has the cells is a tree, and is fitted to them.
		{sized{"{5:[2:{1:1 3:5} 2:3] 4:2 8:4}", 19, 5}, 2, "{10:[2:{1:1 8:5} 2:3] 8:4}"},
		{sized{"{4:2 5:[2:{1:1 3:5} 2:3] 8:4}", 19, 5}, 2, "{10:[2:{1:1 8:5} 2:3] 8:4}"},
		{sized{"{8:4 4:2 5:[2:{1:1 3:5} 2:3]}", 19, 5}, 2, "{13:4 5:[2:{1:1 3:5} 2:3]}"},
		{sized{"[4:2 5:{2:[1:1 3:5] 2:3} 8:4]", 5, 19}, 2, "[10:{2:[1:1 8:5] 2:3} 8:4]"},
		// The kid that is left is of the kind of the tree that it comes into.
		{sized{"{3:9 5:[2:{1:1 3:2} 2:3] 4:4}", 14, 5}, 3, "{3:9 1:1 3:2 4:4}"},
		{sized{"{5:[2:{1:1 3:2} 2:3] 4:4}", 10, 5}, 3, "{1:1 3:2 4:4}"},
		{sized{"{4:4 5:[2:3 2:{1:1 3:2}]}", 10, 5}, 3, "{4:4 1:1 3:2}"},
		{sized{"[4:4 5:{2:3 2:[1:1 3:2]}]", 5, 10}, 3, "[4:4 1:1 3:2]"},
		{sized{"[5:{2:[1:1 3:2] 2:3} 4:4]", 5, 10}, 3, "[1:1 3:2 4:4]"},
		{sized{"{4:4 5:[1:3 3:{1:[1:1 1:5] 3:2}]}", 10, 5}, 3, "{4:4 1:[1:1 3:5] 3:2}"},
		{sized{deepest, 9, 7}, 1, "[1:2 5:{1:3 7:[1:4 3:{1:5 5:[1:6 1:{1:7 3:8}]}]}]"},
		{sized{deepest, 9, 7}, 2, "{1:1 1:3 5:[1:4 5:{1:5 3:[1:6 3:{1:7 1:8}]}]}"},
		{sized{deepest, 9, 7}, 6, "{1:1 7:[1:2 5:{1:3 5:[1:4 3:{1:5 1:7 1:8}]}]}"},
		{sized{deepest, 9, 7}, 8, "{1:1 7:[1:2 5:{1:3 5:[1:4 3:{1:5 3:[1:6 1:7]}]}]}"},
	} {
		gives(t, c.text, c.w, c.h, killing(c.pane), c.want)
	}
	for _, pane := range []int{lowest, -1, 0, 2, 999, 1000, highest} {
		fails(t, "1", 10, 5, killing(pane), api.ErrNone)
		fails(t, "{5:1 4:[2:3 2:4]}", 10, 5, killing(pane), api.ErrNone)
	}
	fails(t, "1", 1, 1, killing(1), api.ErrState)
	fails(t, "999", 80, 50, killing(999), api.ErrState)
}

func TestSwap(t *testing.T) {
	for _, c := range []struct {
		sized
		a, b int
		want string
	}{
		{sized{"1", 1, 1}, 1, 1, "1"},
		{sized{"{5:1 4:2}", 10, 5}, 2, 2, "{5:1 4:2}"},
		{sized{"{5:1 4:2}", 10, 5}, 1, 2, "{5:2 4:1}"},
		{sized{"[1:1 1:2 1:3]", 10, 5}, 1, 3, "[1:3 1:2 1:1]"},
		{sized{"{5:[2:1 2:3] 4:2}", 10, 5}, 3, 2, "{5:[2:1 2:2] 4:3}"},
		{sized{mixed, 8, 4}, 2, 6, "{3:[2:{1:1 1:6} 1:3] 4:[1:4 2:{2:5 1:2}]}"},
		{sized{mixed, 8, 4}, 3, 4, "{3:[2:{1:1 1:2} 1:4] 4:[1:3 2:{2:5 1:6}]}"},
		{sized{deepest, 9, 7}, 8, 1, "{1:8 7:[1:2 5:{1:3 5:[1:4 3:{1:5 3:[1:6 1:{1:7 1:1}]}]}]}"},
	} {
		gives(t, c.text, c.w, c.h, swapping(c.a, c.b), c.want)
		gives(t, c.text, c.w, c.h, swapping(c.b, c.a), c.want)
	}
	for _, pane := range []int{lowest, -1, 0, 7, 999, 1000, highest} {
		fails(t, mixed, 8, 4, swapping(1, pane), api.ErrNone)
		fails(t, mixed, 8, 4, swapping(pane, 1), api.ErrNone)
		fails(t, mixed, 8, 4, swapping(pane, pane), api.ErrNone)
	}
}

func TestTurn(t *testing.T) {
	for _, c := range []struct {
		sized
		on, back string
	}{
		{sized{"7", 10, 5}, "7", "7"},
		{sized{"{5:1 4:2}", 10, 5}, "{5:2 4:1}", "{5:2 4:1}"},
		{sized{"{1:1 2:2 3:3}", 8, 1}, "{1:3 2:1 3:2}", "{1:2 2:3 3:1}"},
		{sized{"[1:9 2:2 3:3 4:4]", 1, 13}, "[1:4 2:9 3:2 4:3]", "[1:2 2:3 3:4 4:9]"},
		{sized{mixed, 8, 4}, "{3:[2:{1:6 1:1} 1:2] 4:[1:3 2:{2:4 1:5}]}", "{3:[2:{1:2 1:3} 1:4] 4:[1:5 2:{2:6 1:1}]}"},
		{sized{full, 24, 5}, "{1:8 1:1 1:2 1:3 1:4 1:5 1:6 10:7}", "{1:2 1:3 1:4 1:5 1:6 1:7 1:8 10:1}"},
		{sized{deepest, 9, 7}, "{1:8 7:[1:1 5:{1:2 5:[1:3 3:{1:4 3:[1:5 1:{1:6 1:7}]}]}]}", "{1:2 7:[1:3 5:{1:4 5:[1:5 3:{1:6 3:[1:7 1:{1:8 1:1}]}]}]}"},
	} {
		gives(t, c.text, c.w, c.h, turning(false), c.on)
		gives(t, c.text, c.w, c.h, turning(true), c.back)
	}
}

func TestLike(t *testing.T) {
	texts := []string{"1", "2", "0", "{5:1 4:2}", "{5:1 4:3}", "{5:2 4:1}", "{4:1 5:2}", "[5:1 4:2]", "{5:1}", "{5:1 4:2 1:3}", "{5:1 4:[2:2 2:3]}", "{5:1 4:[2:2 2:4]}", "{5:1 4:[2:2 3:3]}", "{5:1 4:{2:2 2:3}}", "{5:1 4:[2:2]}", "{5:[2:2 2:3] 4:1}", mixed, deepest}
	for i, a := range texts {
		for j, b := range texts {
			one, other := treeOf(a), treeOf(b)
			one.Size, other.Size = i, -j
			if Like(one, other) != (i == j) {
				t.Errorf("Like of %s and %s: %t", a, b, i != j)
			}
		}
	}
	for _, c := range someSpoilt() {
		same := c.tree
		same.Size = 99
		other := c.tree
		other.Pane++
		if !Like(c.tree, same) || Like(c.tree, other) || Like(other, c.tree) {
			t.Errorf("Like of %s: %s", c.name, textOf(c.tree))
		}
	}
	none, empty := api.Tree{Pane: 1}, api.Tree{Pane: 1, Kids: []api.Tree{}}
	right(t, none, 1, 1, true)
	right(t, empty, 1, 1, true)
	if !Like(none, empty) || !Like(empty, none) {
		t.Error("a list of no kids is not as none")
	}
}
