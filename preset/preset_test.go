package preset

import (
	"reflect"
	"slices"
	"strconv"
	"strings"
	"testing"

	"backseat/api"
	"backseat/tree"
)

const (
	lowest  = -1 << 63
	highest = 1<<63 - 1
)

// textOf is a tree, written out: a pane is its number; {5:1 4:2} is a row of panes 1 and 2, of Sizes 5 and 4; with [ and ] it is a pile.
func textOf(t api.Tree) string {
	text := ""
	if t.Size != 0 {
		text = strconv.Itoa(t.Size) + ":"
	}
	var kids []string
	for _, k := range t.Kids {
		kids = append(kids, textOf(k))
	}
	inside := strings.Join(kids, " ")
	switch {
	case t.Kind == api.TPane && len(kids) == 0:
		return text + strconv.Itoa(t.Pane)
	case t.Kind == api.TRow && t.Pane == 0:
		return text + "{" + inside + "}"
	case t.Kind == api.TPile && t.Pane == 0:
		return text + "[" + inside + "]"
	}
	return text + "kind " + strconv.Itoa(t.Kind) + " pane " + strconv.Itoa(t.Pane) + "(" + inside + ")"
}

// shares checks what Even answers: these, or an error with none.
func shares(t *testing.T, cells, many int, want []int, why api.Errno) {
	t.Helper()
	if got, e := Even(cells, many); e != why || !slices.Equal(got, want) {
		t.Fatalf("Even(%d, %d): %v, %d, want %v, %d", cells, many, got, e, want, why)
	}
}

func TestExample(t *testing.T) {
	shares(t, 10, 3, []int{3, 3, 2}, api.OK)
}

func TestEven(t *testing.T) {
	for _, c := range []struct {
		cells, many int
		want        []int
	}{
		{1, 1, []int{1}},
		{2, 1, []int{2}},
		{79, 1, []int{79}},
		{80, 1, []int{80}},
		{3, 2, []int{1, 1}},
		{4, 2, []int{2, 1}},
		{5, 2, []int{2, 2}},
		{80, 2, []int{40, 39}},
		{5, 3, []int{1, 1, 1}},
		{6, 3, []int{2, 1, 1}},
		{7, 3, []int{2, 2, 1}},
		{8, 3, []int{2, 2, 2}},
		{80, 3, []int{26, 26, 26}},
		{79, 3, []int{26, 26, 25}},
		{78, 3, []int{26, 25, 25}},
		{13, 7, []int{1, 1, 1, 1, 1, 1, 1}},
		{15, 8, []int{1, 1, 1, 1, 1, 1, 1, 1}},
		{16, 8, []int{2, 1, 1, 1, 1, 1, 1, 1}},
		{19, 8, []int{2, 2, 2, 2, 1, 1, 1, 1}},
		{22, 8, []int{2, 2, 2, 2, 2, 2, 2, 1}},
		{23, 8, []int{2, 2, 2, 2, 2, 2, 2, 2}},
		{79, 8, []int{9, 9, 9, 9, 9, 9, 9, 9}},
		{80, 8, []int{10, 9, 9, 9, 9, 9, 9, 9}},
	} {
		shares(t, c.cells, c.many, c.want, api.OK)
	}
}

func TestEvenTellsWhatIsWrong(t *testing.T) {
	for _, c := range []struct {
		cells, many int
		why         api.Errno
	}{
		{0, 1, api.ErrArg},
		{81, 1, api.ErrArg},
		{-1, 1, api.ErrArg},
		{lowest, 1, api.ErrArg},
		{highest, 1, api.ErrArg},
		{80, 0, api.ErrArg},
		{80, 9, api.ErrArg},
		{80, -1, api.ErrArg},
		{80, lowest, api.ErrArg},
		{80, highest, api.ErrArg},
		{0, 0, api.ErrArg},
		{0, 8, api.ErrArg},
		{1, 9, api.ErrArg},
		{1, 2, api.ErrRoom},
		{2, 2, api.ErrRoom},
		{4, 3, api.ErrRoom},
		{12, 7, api.ErrRoom},
		{1, 8, api.ErrRoom},
		{7, 8, api.ErrRoom},
		{8, 8, api.ErrRoom},
		{14, 8, api.ErrRoom},
	} {
		shares(t, c.cells, c.many, nil, c.why)
	}
}

// lies checks how panes lie: as is written out, or not at all, with an error. The panes, and what stands behind them, stay, and are shared with no answer.
func lies(t *testing.T, panes []int, how, w, h int, want string, why api.Errno) {
	t.Helper()
	in := append(slices.Clone(panes), 901, 902, 903)
	ahead := slices.Clone(in)
	got, e := Lay(in[:len(panes)], how, w, h)
	if e != why || why == api.OK && textOf(got) != want || why != api.OK && !reflect.DeepEqual(got, api.Tree{}) {
		t.Fatalf("Lay(%v, %d, %d, %d): %s, %d, want %s, %d", panes, how, w, h, textOf(got), e, want, why)
	}
	if !slices.Equal(in, ahead) {
		t.Fatalf("Lay(%v, %d, %d, %d) changed panes to %v", panes, how, w, h, in)
	}
	if spoil(&got) {
		t.Fatalf("Lay(%v, %d, %d, %d): two lists share some", panes, how, w, h)
	}
}

// spoil writes over each list of a tree, to the end of its room, and tells whether two of them share any.
func spoil(t *api.Tree) (shared bool) {
	kids := t.Kids[:cap(t.Kids)]
	for i := range kids {
		shared = spoil(&kids[i]) || shared || kids[i].Kind < 0
	}
	for i := range kids {
		kids[i] = api.Tree{Kind: -1}
	}
	return shared
}

// upTo are panes from 1 on.
func upTo(n int) []int {
	var panes []int
	for p := range n {
		panes = append(panes, p+1)
	}
	return panes
}

func TestOneAloneIsAPane(t *testing.T) {
	for how := 1; how <= 5; how++ {
		for _, pane := range []int{1, 2, 500, 999} {
			for _, s := range [][2]int{{1, 1}, {80, 1}, {1, 50}, {80, 50}, {2, 3}} {
				lies(t, []int{pane}, how, s[0], s[1], strconv.Itoa(pane), api.OK)
			}
		}
	}
}

func TestLay(t *testing.T) {
	for _, c := range []struct {
		how, many, w, h int
		want            string
	}{
		{1, 2, 80, 50, "{40:1 39:2}"},
		{1, 2, 3, 1, "{1:1 1:2}"},
		{1, 3, 80, 50, "{26:1 26:2 26:3}"},
		{1, 3, 79, 1, "{26:1 26:2 25:3}"},
		{1, 3, 5, 1, "{1:1 1:2 1:3}"},
		{1, 8, 80, 50, "{10:1 9:2 9:3 9:4 9:5 9:6 9:7 9:8}"},
		{1, 8, 15, 1, "{1:1 1:2 1:3 1:4 1:5 1:6 1:7 1:8}"},

		{2, 2, 80, 50, "[25:1 24:2]"},
		{2, 2, 1, 3, "[1:1 1:2]"},
		{2, 3, 80, 50, "[16:1 16:2 16:3]"},
		{2, 3, 1, 49, "[16:1 16:2 15:3]"},
		{2, 3, 1, 5, "[1:1 1:2 1:3]"},
		{2, 8, 80, 50, "[6:1 6:2 6:3 5:4 5:5 5:6 5:7 5:8]"},
		{2, 8, 1, 15, "[1:1 1:2 1:3 1:4 1:5 1:6 1:7 1:8]"},

		{3, 2, 80, 50, "{40:1 39:2}"},
		{3, 2, 79, 50, "{39:1 39:2}"},
		{3, 2, 3, 1, "{1:1 1:2}"},
		{3, 2, 4, 1, "{2:1 1:2}"},
		{3, 3, 80, 50, "{40:1 39:[25:2 24:3]}"},
		{3, 3, 3, 3, "{1:1 1:[1:2 1:3]}"},
		{3, 8, 80, 50, "{40:1 39:[7:2 7:3 6:4 6:5 6:6 6:7 6:8]}"},
		{3, 8, 79, 49, "{39:1 39:[7:2 6:3 6:4 6:5 6:6 6:7 6:8]}"},
		{3, 8, 3, 13, "{1:1 1:[1:2 1:3 1:4 1:5 1:6 1:7 1:8]}"},

		{4, 2, 80, 50, "[25:1 24:2]"},
		{4, 2, 80, 49, "[24:1 24:2]"},
		{4, 2, 1, 3, "[1:1 1:2]"},
		{4, 2, 1, 4, "[2:1 1:2]"},
		{4, 3, 80, 50, "[25:1 24:{40:2 39:3}]"},
		{4, 3, 3, 3, "[1:1 1:{1:2 1:3}]"},
		{4, 8, 80, 50, "[25:1 24:{11:2 11:3 11:4 11:5 10:6 10:7 10:8}]"},
		{4, 8, 79, 49, "[24:1 24:{11:2 11:3 11:4 10:5 10:6 10:7 10:8}]"},
		{4, 8, 13, 3, "[1:1 1:{1:2 1:3 1:4 1:5 1:6 1:7 1:8}]"},

		{5, 2, 80, 50, "{40:1 39:2}"},
		{5, 2, 3, 1, "{1:1 1:2}"},
		{5, 3, 80, 50, "[25:{40:1 39:2} 24:3]"},
		{5, 3, 3, 3, "[1:{1:1 1:2} 1:3]"},
		{5, 4, 80, 50, "[25:{40:1 39:2} 24:{40:3 39:4}]"},
		{5, 4, 3, 3, "[1:{1:1 1:2} 1:{1:3 1:4}]"},
		{5, 5, 80, 50, "[25:{26:1 26:2 26:3} 24:{40:4 39:5}]"},
		{5, 5, 5, 3, "[1:{1:1 1:2 1:3} 1:{2:4 2:5}]"},
		{5, 6, 80, 50, "[25:{26:1 26:2 26:3} 24:{26:4 26:5 26:6}]"},
		{5, 6, 5, 3, "[1:{1:1 1:2 1:3} 1:{1:4 1:5 1:6}]"},
		{5, 7, 80, 50, "[16:{26:1 26:2 26:3} 16:{26:4 26:5 26:6} 16:7]"},
		{5, 7, 79, 49, "[16:{26:1 26:2 25:3} 16:{26:4 26:5 25:6} 15:7]"},
		{5, 7, 5, 5, "[1:{1:1 1:2 1:3} 1:{1:4 1:5 1:6} 1:7]"},
		{5, 8, 80, 50, "[16:{26:1 26:2 26:3} 16:{26:4 26:5 26:6} 16:{40:7 39:8}]"},
		{5, 8, 78, 48, "[16:{26:1 25:2 25:3} 15:{26:4 25:5 25:6} 15:{39:7 38:8}]"},
		{5, 8, 5, 5, "[1:{1:1 1:2 1:3} 1:{1:4 1:5 1:6} 1:{2:7 2:8}]"},
	} {
		lies(t, upTo(c.many), c.how, c.w, c.h, c.want, api.OK)
	}
}

func TestPanesStandAsTheyCome(t *testing.T) {
	panes := []int{999, 3, 1, 70, 2, 998, 4, 500}
	for how, want := range []string{
		1: "{10:999 9:3 9:1 9:70 9:2 9:998 9:4 9:500}",
		2: "[6:999 6:3 6:1 5:70 5:2 5:998 5:4 5:500]",
		3: "{40:999 39:[7:3 7:1 6:70 6:2 6:998 6:4 6:500]}",
		4: "[25:999 24:{11:3 11:1 11:70 11:2 10:998 10:4 10:500}]",
		5: "[16:{26:999 26:3 26:1} 16:{26:70 26:2 26:998} 16:{40:4 39:500}]",
	} {
		if how > 0 {
			lies(t, panes, how, 80, 50, want, api.OK)
		}
	}
}

// TestLayWithTooFewCells has one cell too few along one way, and as many as may be along the other one.
func TestLayWithTooFewCells(t *testing.T) {
	for _, c := range []struct{ how, many, w, h int }{
		{1, 2, 2, 50},
		{1, 2, 1, 50},
		{1, 3, 4, 50},
		{1, 8, 14, 50},
		{1, 8, 1, 50},
		{2, 2, 80, 2},
		{2, 2, 80, 1},
		{2, 3, 80, 4},
		{2, 8, 80, 14},
		{2, 8, 80, 1},
		{3, 2, 2, 50},
		{3, 2, 1, 50},
		{3, 3, 2, 50},
		{3, 3, 80, 2},
		{3, 8, 2, 50},
		{3, 8, 80, 12},
		{3, 8, 80, 1},
		{4, 2, 80, 2},
		{4, 2, 80, 1},
		{4, 3, 80, 2},
		{4, 3, 2, 50},
		{4, 8, 80, 2},
		{4, 8, 12, 50},
		{4, 8, 1, 50},
		{5, 2, 2, 50},
		{5, 3, 2, 50},
		{5, 3, 80, 2},
		{5, 4, 2, 50},
		{5, 4, 80, 2},
		{5, 5, 4, 50},
		{5, 5, 80, 2},
		{5, 6, 4, 50},
		{5, 6, 80, 2},
		{5, 7, 4, 50},
		{5, 7, 80, 4},
		{5, 8, 4, 50},
		{5, 8, 80, 4},
		{5, 8, 1, 1},
	} {
		lies(t, upTo(c.many), c.how, c.w, c.h, "", api.ErrRoom)
	}
}

func TestLayTellsWhatIsWrong(t *testing.T) {
	for how := 1; how <= 5; how++ {
		for _, panes := range [][]int{
			nil,
			{},
			upTo(9),
			make([]int, 1000),
			{0},
			{1000},
			{-1},
			{lowest},
			{highest},
			{1, 2, 3, 4, 5, 6, 7, 0},
			{1, 2, 3, 4, 5, 6, 7, 1000},
			{1000, 2, 3},
			{1, -2, 3},
			{1, 1},
			{1, 2, 1},
			{1, 2, 3, 4, 5, 6, 7, 1},
			{1, 2, 3, 4, 5, 6, 7, 7},
		} {
			lies(t, panes, how, 80, 50, "", api.ErrArg)
			lies(t, panes, how, 1, 1, "", api.ErrArg)
			lies(t, panes, how, 0, 0, "", api.ErrArg)
			lies(t, panes, 0, 80, 50, "", api.ErrArg)
		}
		for _, s := range [][2]int{{0, 50}, {81, 50}, {-1, 50}, {lowest, 50}, {highest, 50}, {80, 0}, {80, 51}, {80, -1}, {80, lowest}, {80, highest}, {0, 0}, {50, 80}} {
			lies(t, upTo(1), how, s[0], s[1], "", api.ErrArg)
			lies(t, upTo(2), how, s[0], s[1], "", api.ErrArg)
			lies(t, upTo(8), how, s[0], s[1], "", api.ErrArg)
		}
	}
	for _, how := range []int{0, 6, -1, lowest, highest} {
		lies(t, upTo(1), how, 1, 1, "", api.ErrArg)
		lies(t, upTo(8), how, 80, 50, "", api.ErrArg)
		lies(t, upTo(8), how, 1, 1, "", api.ErrArg)
	}
}

// TestWhatFollows holds what lies so against package tree.
func TestWhatFollows(t *testing.T) {
	for how := 1; how <= 5; how++ {
		for many := 1; many <= 8; many++ {
			laid(t, how, many)
		}
	}
}

func laid(t *testing.T, how, many int) {
	for w := 1; w <= 80; w++ {
		for h := 1; h <= 50; h++ {
			got, why := Lay(upTo(many), how, w, h)
			if why != api.OK {
				continue
			}
			rects, e := tree.Rects(got, w, h)
			var panes []int
			for _, r := range rects {
				panes = append(panes, r.Pane)
			}
			if e != api.OK || !tree.Right(got, w, h) || !slices.Equal(panes, upTo(many)) {
				t.Fatalf("%d panes, %d, %d by %d: %s", many, how, w, h, textOf(got))
			}
		}
	}
}
