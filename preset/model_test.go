package preset

import (
	"slices"
	"strconv"
	"testing"

	"backseat/api"
)

// What follows is read from the chapter apart from the package: cells are dealt out one by one, and how panes lie is a table of texts, in which sizes are then put.

// dealt are cells that are dealt out, one by one, to so many; the lines' are laid away first. None: one has nothing.
func dealt(cells, many int) []int {
	for range many - 1 {
		cells--
	}
	hands := make([]int, many)
	for i := 0; cells > 0; i++ {
		hands[i%many]++
		cells--
	}
	if slices.Contains(hands, 0) {
		return nil
	}
	return hands
}

func TestEvenAsDealt(t *testing.T) {
	for cells := -100; cells <= 200; cells++ {
		for many := -20; many <= 20; many++ {
			want, why := []int(nil), api.ErrArg
			if slices.Contains(upTo(80), cells) && slices.Contains(upTo(8), many) {
				want, why = dealt(cells, many), api.OK
				if want == nil {
					why = api.ErrRoom
				}
			}
			shares(t, cells, many, want, why)
			if why == api.OK {
				allIn(t, cells, want)
			}
		}
	}
}

// allIn checks what the chapter says of shares: no two differ by more than one, and they and the lines are all the cells.
func allIn(t *testing.T, cells int, shares []int) {
	t.Helper()
	sum := len(shares) - 1
	for _, s := range shares {
		sum += s
	}
	if sum != cells || slices.Max(shares)-slices.Min(shares) > 1 {
		t.Fatalf("%d: %v", cells, shares)
	}
}

// shapes are how panes lie, by preset, and by how many there are: a row between { and }, a pile between [ and ], halved if < or ( begins it.
func shapes() [6][9]string {
	return [6][9]string{
		1: {"", "1", "{12}", "{123}", "{1234}", "{12345}", "{123456}", "{1234567}", "{12345678}"},
		2: {"", "1", "[12]", "[123]", "[1234]", "[12345]", "[123456]", "[1234567]", "[12345678]"},
		3: {"", "1", "<12>", "<1[23]>", "<1[234]>", "<1[2345]>", "<1[23456]>", "<1[234567]>", "<1[2345678]>"},
		4: {"", "1", "(12)", "(1{23})", "(1{234})", "(1{2345})", "(1{23456})", "(1{234567})", "(1{2345678})"},
		5: {"", "1", "{12}", "[{12}3]", "[{12}{34}]", "[{123}{45}]", "[{123}{456}]", "[{123}{456}7]", "[{123}{456}{78}]"},
	}
}

// sized is the first tree of a shape, with the sizes in it, and what is left of the shape behind it; false: one would have nothing.
func sized(shape string, w, h int) (text, rest string, ok bool) {
	begins := shape[0]
	if begins >= '1' && begins <= '8' {
		return shape[:1], shape[1:], true
	}
	row := begins == '{' || begins == '<'
	cells := h
	if row {
		cells = w
	}
	sizes := dealt(cells, kidsOf(shape))
	if begins == '<' || begins == '(' {
		sizes = inHalf(cells)
	}
	if sizes == nil {
		return "", "", false
	}
	text, rest = "[", shape[1:]
	if row {
		text = "{"
	}
	for i, n := range sizes {
		w2, h2 := w, n
		if row {
			w2, h2 = n, h
		}
		var kid string
		kid, rest, ok = sized(rest, w2, h2)
		if !ok {
			return "", "", false
		}
		if i > 0 {
			text += " "
		}
		text += strconv.Itoa(n) + ":" + kid
	}
	ends := "]"
	if row {
		ends = "}"
	}
	return text + ends, rest[1:], true
}

// inHalf is what the first one has, and the others: the first one takes a cell, then the others do, and so on.
func inHalf(cells int) []int {
	first, others := 0, 0
	for left := cells - 1; left > 0; left-- {
		if first == others {
			first++
		} else {
			others++
		}
	}
	if others == 0 {
		return nil
	}
	return []int{first, others}
}

// kidsOf is how many trees stand in the first tree of a shape, and in no other one within it.
func kidsOf(shape string) int {
	n, deep := 0, 0
	for _, r := range shape {
		switch r {
		case '{', '[', '<', '(':
			deep++
			if deep == 2 {
				n++
			}
		case '}', ']', '>', ')':
			deep--
			if deep == 0 {
				return n
			}
		default:
			if deep == 1 {
				n++
			}
		}
	}
	return n
}

func TestLayAsShaped(t *testing.T) {
	for how, all := range shapes() {
		for many, shape := range all {
			if shape != "" {
				shaped(t, shape, many, how)
			}
		}
	}
}

func shaped(t *testing.T, shape string, many, how int) {
	for w := 1; w <= 80; w++ {
		for h := 1; h <= 50; h++ {
			want, _, ok := sized(shape, w, h)
			why := api.OK
			if !ok {
				why = api.ErrRoom
			}
			lies(t, upTo(many), how, w, h, want, why)
		}
	}
}
