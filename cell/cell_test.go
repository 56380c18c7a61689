package cell

import (
	"slices"
	"strings"
	"testing"

	"backseat/api"
	"backseat/utf"
)

const (
	lowest  = -1 << 63
	highest = 1<<63 - 1
)

// texts are a cell's texts of letters and marks, with how wide they are; -1: no cell has them.
func texts() map[string]int {
	return map[string]int{
		" ": 1, "a": 1, "~": 1, "\u00a0": 1, "ä": 1, "\u02ff": 1, "\u0370": 1, "\u10ff": 1, "\u1160": 1, "\u200a": 1, "\u200e": 1, "\U0010ffff": 1,
		"\u1100": 2, "\u115f": 2, "一": 2, "가": 2, "\uff01": 2, "\U0001f600": 2,
		"a\u0301": 1, "a\u0300\u036f": 1, "一\u200b": 2, "\U0001f600\u200d\ufe0f": 2, "ä\ufe00\ufe0f": 1,
		"a\u0301\u0301\u0301": -1, "一\u0301\u0301\u0301": -1, "a\u0301\u0301\u0301\u0301": -1,
		"\u0301": -1, "\u0301a": -1, "\u200b\u0301": -1, "\u0301\u0301\u0301": -1,
		"ab": -1, "aa\u0301": -1, "a\u0301b": -1, "a\u0301\u0301b": -1, "一a": -1, "a一": -1, "一一": -1, "a ": -1,
		"\x00": -1, "\x1b": -1, "\x1f": -1, "\x7f": -1, "\u0080": -1, "\u009f": -1, "\x00\u0301": -1, "a\x00": -1, "a\u0301\u0085": -1,
		"\x80": -1, "\xff": -1, "\xc3": -1, "\xe4\xb8": -1, "\xc0\x80": -1, "\xed\xa0\x80": -1, "\xf4\x90\x80\x80": -1,
		"a\xff": -1, "a\xcc": -1, "a\u0301\xcc": -1, "\xffa": -1, "a\u0301\u0301\xff": -1, "a\u0301\u0301\xcc": -1,
	}
}

// looks are looks that may be.
func looks() []api.Attr {
	all := []api.Attr{{}, {Fg: 1}, {Bg: 1}, {Fg: 256, Bg: 256, Flags: 255}, {Fg: 9, Bg: 16, Flags: api.Bold | api.Dim}, {Fg: 8, Bg: 17, Flags: api.Strike | api.Blink}}
	for n := range 8 {
		all = append(all, api.Attr{Fg: 200 - n, Bg: n, Flags: 1 << n}, api.Attr{Fg: n, Flags: 255 &^ (1 << n)})
	}
	return all
}

// badLooks are looks that may not be.
func badLooks() []api.Attr {
	var all []api.Attr
	for _, n := range []int{-1, 257, 512, lowest, highest} {
		all = append(all, api.Attr{Fg: n}, api.Attr{Bg: n}, api.Attr{Fg: n, Bg: n, Flags: n}, api.Attr{Flags: n})
	}
	return append(all, api.Attr{Flags: 256}, api.Attr{Fg: 1, Bg: 1, Flags: 256 | api.Bold}, api.Attr{Fg: 3, Bg: -1, Flags: 1}, api.Attr{Fg: -1, Bg: 3, Flags: 1})
}

// change holds Change against the look that is wanted.
func change(t *testing.T, a, want api.Attr, params ...int) {
	t.Helper()
	ahead := slices.Clone(params)
	if got, why := Change(a, params...); got != want || why != api.OK {
		t.Errorf("Change(%v, %v): %v %d, want %v", a, params, got, why, want)
	}
	if !slices.Equal(params, ahead) {
		t.Errorf("Change(%v, %v) left %v", a, ahead, params)
	}
}

func TestExample(t *testing.T) {
	change(t, api.Attr{Flags: api.Bold}, api.Attr{Fg: 2}, 22, 31)
}

// P4.1: which looks may be.
func TestLook(t *testing.T) {
	for n := -3; n < 300; n++ {
		colour, flags := n >= 0 && n <= 256, n >= 0 && n <= 255
		if got := Look(api.Attr{Fg: n}); got != colour {
			t.Errorf("Fg %d: %v", n, got)
		}
		if got := Look(api.Attr{Bg: n}); got != colour {
			t.Errorf("Bg %d: %v", n, got)
		}
		if got := Look(api.Attr{Flags: n}); got != flags {
			t.Errorf("Flags %d: %v", n, got)
		}
	}
	for _, a := range looks() {
		if !Look(a) {
			t.Errorf("%v", a)
		}
	}
	for _, a := range badLooks() {
		if Look(a) {
			t.Errorf("%v", a)
		}
	}
}

// P4.1: which cells may be.
func TestRight(t *testing.T) {
	for _, a := range append(looks(), badLooks()...) {
		for wide := -2; wide < 5; wide++ {
			want := Look(a) && (wide == 0 || wide == 1)
			if c := (api.Cell{Wide: wide, Attr: a}); Right(c) != want {
				t.Errorf("%v: %v", c, !want)
			}
			for text, w := range texts() {
				want := Look(a) && w > 0 && wide == w
				if c := (api.Cell{Text: text, Wide: wide, Attr: a}); Right(c) != want {
					t.Errorf("%q %v: %v", text, c, !want)
				}
			}
		}
	}
	for _, wide := range []int{lowest, highest, 256, 257, 1 << 32, 1<<32 + 1} {
		for _, text := range []string{"", "a", "一"} {
			if c := (api.Cell{Text: text, Wide: wide}); Right(c) {
				t.Errorf("%v", c)
			}
		}
	}
}

// wanted is what a number asks for, by itself, read apart from the package.
func wanted(a api.Attr, n int) api.Attr {
	set := map[int]int{1: 1, 2: 2, 3: 4, 4: 8, 5: 16, 7: 32, 8: 64, 9: 128}
	unset := map[int]int{22: 3, 23: 4, 24: 8, 25: 16, 27: 32, 28: 64, 29: 128}
	a.Flags = (a.Flags | set[n]) &^ unset[n]
	tens, ones := n/10, n%10
	if n < 0 {
		tens, ones = -1, -1
	}
	switch {
	case n == 0:
		return api.Attr{}
	case ones == 9 && tens == 3:
		a.Fg = 0
	case ones == 9 && tens == 4:
		a.Bg = 0
	case ones >= 8:
	case tens == 3:
		a.Fg = ones + 1
	case tens == 4:
		a.Bg = ones + 1
	case tens == 9:
		a.Fg = ones + 9
	case tens == 10:
		a.Bg = ones + 9
	}
	return a
}

// wantedRow is what a row of numbers asks for.
func wantedRow(a api.Attr, params []int) api.Attr {
	if len(params) == 0 {
		return api.Attr{}
	}
	for i := 0; i < len(params); i++ {
		n := params[i]
		if n != 38 && n != 48 {
			a = wanted(a, n)
			continue
		}
		if len(params)-i < 3 || params[i+1] != 5 || params[i+2] < 0 || params[i+2] > 255 {
			return a
		}
		if n == 38 {
			a.Fg = params[i+2] + 1
		} else {
			a.Bg = params[i+2] + 1
		}
		i += 2
	}
	return a
}

// P4.1: each number that is asked, its neighbours, and far ones; alone, and with another one ahead or behind.
func TestEachNumber(t *testing.T) {
	numbers := []int{lowest, lowest + 1, -256, 9999, 1 << 32, 1<<32 + 1, highest - 1, highest}
	for n := -300; n < 600; n++ {
		numbers = append(numbers, n)
	}
	for _, n := range numbers {
		if n == 38 || n == 48 {
			continue
		}
		for _, a := range looks() {
			change(t, a, wanted(a, n), n)
			change(t, a, wanted(wanted(a, n), 4), n, 4)
			change(t, a, wanted(wanted(a, 107), n), 107, n)
		}
	}
}

// P4.1: each number, by a table that is written out.
func TestNumbersByTable(t *testing.T) {
	full := api.Attr{Fg: 100, Bg: 200, Flags: 255}
	for n, flag := range map[int]int{1: api.Bold, 2: api.Dim, 3: api.Italic, 4: api.Underline, 5: api.Blink, 7: api.Inverse, 8: api.Hidden, 9: api.Strike} {
		change(t, api.Attr{}, api.Attr{Flags: flag}, n)
		change(t, api.Attr{Fg: 5, Flags: flag}, api.Attr{Fg: 5, Flags: flag}, n)
	}
	for n, flags := range map[int]int{22: api.Bold | api.Dim, 23: api.Italic, 24: api.Underline, 25: api.Blink, 27: api.Inverse, 28: api.Hidden, 29: api.Strike} {
		change(t, full, api.Attr{Fg: 100, Bg: 200, Flags: 255 - flags}, n)
		change(t, api.Attr{Bg: 4}, api.Attr{Bg: 4}, n)
	}
	for i := range 8 {
		change(t, full, api.Attr{Fg: 1 + i, Bg: 200, Flags: 255}, 30+i)
		change(t, full, api.Attr{Fg: 9 + i, Bg: 200, Flags: 255}, 90+i)
		change(t, full, api.Attr{Fg: 100, Bg: 1 + i, Flags: 255}, 40+i)
		change(t, full, api.Attr{Fg: 100, Bg: 9 + i, Flags: 255}, 100+i)
	}
	change(t, full, api.Attr{Bg: 200, Flags: 255}, 39)
	change(t, full, api.Attr{Fg: 100, Flags: 255}, 49)
	change(t, full, api.Attr{}, 0)
	for _, n := range []int{-1, 6, 10, 11, 19, 20, 21, 26, 50, 58, 59, 89, 98, 99, 108, 109, 256, 9999} {
		change(t, full, full, n)
	}
}

// P4.1: nothing asked is 0.
func TestNothingAsked(t *testing.T) {
	for _, a := range looks() {
		change(t, a, api.Attr{})
		change(t, a, api.Attr{}, []int{}...)
		change(t, a, api.Attr{}, 0)
		change(t, a, api.Attr{Fg: 2}, 4, 0, 31)
	}
}

// P4.1: 38 and 48, with what they need, without some of it, and with more behind.
func TestByNumber(t *testing.T) {
	was := api.Attr{Fg: 7, Bg: 9, Flags: api.Dim}
	for n := range 256 {
		change(t, was, api.Attr{Fg: n + 1, Bg: 9, Flags: api.Dim}, 38, 5, n)
		change(t, was, api.Attr{Fg: 7, Bg: n + 1, Flags: api.Dim}, 48, 5, n)
		change(t, was, api.Attr{Fg: n + 1, Bg: 256 - n, Flags: api.Dim | api.Bold}, 38, 5, n, 48, 5, 255-n, 1)
		change(t, was, api.Attr{Fg: 2, Bg: n + 1, Flags: api.Dim}, 48, 5, n, 31)
	}
	for _, row := range [][]int{
		{}, {5}, {5, -1}, {5, 256}, {5, 257}, {5, lowest}, {5, highest}, {2}, {2, 1}, {2, 1, 2, 3}, {0}, {0, 0}, {4, 7}, {6, 7}, {1}, {1, 1}, {-5, 1}, {38, 5, 1}, {48, 5, 1}, {5, -1, 38, 5, 4}, {lowest, 1}, {highest, 1},
	} {
		for _, behind := range [][]int{{}, {1}, {31, 1}, {0}, {5, 3}} {
			if len(row) < 2 && (len(row) == 0 || row[0] == 5) && len(behind) > 0 {
				continue // it has what it needs, or may have
			}
			for _, n := range []int{38, 48} {
				all := slices.Concat([]int{n}, row, behind)
				change(t, was, was, all...)
				change(t, was, api.Attr{Fg: 1, Bg: 9, Flags: api.Dim | api.Italic}, slices.Concat([]int{3, 30}, all)...)
			}
		}
	}
	change(t, was, api.Attr{Fg: 6, Bg: 9, Flags: api.Dim | api.Blink}, 38, 5, 5, 5)
	change(t, was, api.Attr{Fg: 39, Bg: 9, Flags: api.Dim}, 38, 5, 38, 38, 5)
	change(t, was, api.Attr{Fg: 1, Bg: 9, Flags: api.Dim}, 38, 5, 0)
}

// P4.1: looks that may not be.
func TestWrongLooks(t *testing.T) {
	for _, a := range badLooks() {
		for _, params := range [][]int{nil, {0}, {1}, {39, 49}, {0, 38, 5, 1}, {38}} {
			if got, why := Change(a, params...); got != (api.Attr{}) || why != api.ErrArg {
				t.Errorf("Change(%v, %v): %v %d", a, params, got, why)
			}
		}
		if got, why := Ask(a); len(got) != 0 || why != api.ErrArg {
			t.Errorf("Ask(%v): %v %d", a, got, why)
		}
		for _, r := range []rune{'a', 0x4e00, 0x301, 0, -1} {
			if got, why := Of(r, a); got != (api.Cell{}) || why != api.ErrArg {
				t.Errorf("Of(%d, %v): %v %d", r, a, got, why)
			}
		}
		for _, text := range []string{"a", "a\u0301", "a\u0301\u0301", ""} {
			if got, why := Mark(api.Cell{Text: text, Wide: 1, Attr: a}, 0x301); got != (api.Cell{}) || why != api.ErrArg {
				t.Errorf("Mark(%q, %v): %v %d", text, a, got, why)
			}
		}
	}
}

// P4.1: what asks for a look.
func TestAsk(t *testing.T) {
	for _, c := range []struct {
		look api.Attr
		want []int
	}{
		{api.Attr{}, []int{0}},
		{api.Attr{Flags: 255}, []int{0, 1, 2, 3, 4, 5, 7, 8, 9}},
		{api.Attr{Flags: api.Blink | api.Inverse}, []int{0, 5, 7}},
		{api.Attr{Flags: api.Strike | api.Bold}, []int{0, 1, 9}},
		{api.Attr{Fg: 1}, []int{0, 38, 5, 0}},
		{api.Attr{Fg: 256}, []int{0, 38, 5, 255}},
		{api.Attr{Bg: 1}, []int{0, 48, 5, 0}},
		{api.Attr{Bg: 256}, []int{0, 48, 5, 255}},
		{api.Attr{Fg: 9, Bg: 8, Flags: api.Hidden}, []int{0, 8, 38, 5, 8, 48, 5, 7}},
	} {
		if got, why := Ask(c.look); !slices.Equal(got, c.want) || why != api.OK {
			t.Errorf("Ask(%v): %v %d, want %v", c.look, got, why, c.want)
		}
	}
	numbers := []int{1, 2, 3, 4, 5, 7, 8, 9}
	for flags := range 256 {
		want := []int{0}
		for i, n := range numbers {
			if flags>>i&1 == 1 {
				want = append(want, n)
			}
		}
		want = append(want, 38, 5, flags, 48, 5, 255-flags)
		if got, why := Ask(api.Attr{Fg: flags + 1, Bg: 256 - flags, Flags: flags}); !slices.Equal(got, want) || why != api.OK {
			t.Errorf("Ask of flags %d: %v %d, want %v", flags, got, why, want)
		}
	}
}

// P4.2: each letter's cell, and each mark behind one.
func TestEachLetter(t *testing.T) {
	a := api.Attr{Fg: 3, Bg: 4, Flags: api.Italic}
	base := api.Cell{Text: "一", Wide: 2, Attr: a}
	runes := []rune{-1 << 31, -65, -2, -1, 1<<31 - 1, 1 << 30, 0x110000, 0x110001}
	for r := rune(0); r <= 0x10ffff; r++ {
		runes = append(runes, r)
	}
	for _, r := range runes {
		wide := utf.Width(r)
		want, why := api.Cell{}, api.ErrArg
		if wide == 1 || wide == 2 {
			want, why = api.Cell{Text: string(r), Wide: wide, Attr: a}, api.OK
		}
		if got, w := Of(r, a); got != want || w != why {
			t.Fatalf("Of(%d): %v %d, want %v %d", r, got, w, want, why)
		}
		want, why = api.Cell{}, api.ErrArg
		if wide == 0 {
			want, why = api.Cell{Text: "一" + string(r), Wide: 2, Attr: a}, api.OK
		}
		if got, w := Mark(base, r); got != want || w != why {
			t.Fatalf("Mark(%d): %v %d, want %v %d", r, got, w, want, why)
		}
	}
}

// P4.2: cells of letters, for each look.
func TestOf(t *testing.T) {
	for _, a := range looks() {
		for r, wide := range map[rune]int{' ': 1, 'a': 1, 'ä': 1, 0xa0: 1, 0x4e00: 2, 0x1f600: 2, 0x10ffff: 1} {
			want := api.Cell{Text: string(r), Wide: wide, Attr: a}
			if got, why := Of(r, a); got != want || why != api.OK {
				t.Errorf("Of(%d, %v): %v %d", r, a, got, why)
			}
		}
		for _, r := range []rune{0x301, 0x200b, 0xfe0f, 0, 27, 31, 127, 128, 159, 0xd800, 0xdfff, 0x110000, -1} {
			if got, why := Of(r, a); got != (api.Cell{}) || why != api.ErrArg {
				t.Errorf("Of(%d, %v): %v %d", r, a, got, why)
			}
		}
	}
}

// P4.2: a mark behind none, one, two, and what is no mark.
func TestMark(t *testing.T) {
	for _, a := range looks() {
		for text, wide := range texts() {
			for w := -1; w < 4; w++ {
				c := api.Cell{Text: text, Wide: w, Attr: a}
				want, why := api.Cell{Text: text + "\ufe0f", Wide: w, Attr: a}, api.OK
				if wide != w || w < 1 {
					want, why = api.Cell{}, api.ErrArg
				} else if len([]rune(text)) == 3 {
					want, why = api.Cell{}, api.ErrFull
				}
				if got, e := Mark(c, 0xfe0f); got != want || e != why {
					t.Errorf("Mark(%q %d): %v %d, want %v %d", text, w, got, e, want, why)
				}
				for _, r := range []rune{'a', ' ', 0x4e00, 0, 127, 0x85, 0xd800, 0x110000, -1} {
					if got, e := Mark(c, r); got != (api.Cell{}) || e != api.ErrArg {
						t.Errorf("Mark(%q %d, %d): %v %d", text, w, r, got, e)
					}
				}
			}
		}
		for wide := -1; wide < 4; wide++ {
			if got, why := Mark(api.Cell{Wide: wide, Attr: a}, 0x301); got != (api.Cell{}) || why != api.ErrArg {
				t.Errorf("Mark of nothing, %d wide: %v %d", wide, got, why)
			}
		}
	}
}

// P4.2: one after the other, up to one too many.
func TestMarks(t *testing.T) {
	c, _ := Of('e', api.Attr{Bg: 2})
	for _, text := range []string{"e\u0301", "e\u0301\u200d"} {
		var why api.Errno
		r := []rune(text)
		if c, why = Mark(c, r[len(r)-1]); c != (api.Cell{Text: text, Wide: 1, Attr: api.Attr{Bg: 2}}) || why != api.OK {
			t.Fatalf("%v %d", c, why)
		}
	}
	if got, why := Mark(c, 0x301); got != (api.Cell{}) || why != api.ErrFull {
		t.Errorf("%v %d", got, why)
	}
	if got, why := Mark(c, 'e'); got != (api.Cell{}) || why != api.ErrArg {
		t.Errorf("%v %d", got, why)
	}
}

// P4.2: blank of a look, whatever that is.
func TestBlank(t *testing.T) {
	for _, a := range append(looks(), badLooks()...) {
		if got := Blank(a); got != (api.Cell{Wide: 1, Attr: api.Attr{Bg: a.Bg}}) {
			t.Errorf("Blank(%v): %v", a, got)
		}
	}
}

// P4.3: what asks for a look changes any look to it.
func TestAskedIsGot(t *testing.T) {
	check := func(a api.Attr) {
		params, _ := Ask(a)
		for _, from := range looks() {
			change(t, from, a, params...)
		}
	}
	for n := range 256 {
		check(api.Attr{Flags: n})
		check(api.Attr{Fg: n + 1})
		check(api.Attr{Bg: n + 1, Flags: 255 - n})
		check(api.Attr{Fg: 256 - n, Bg: n, Flags: n})
	}
}

// rows calls f with each row of up to n of the numbers.
func rows(numbers []int, n int, f func([]int)) {
	var grow func(row []int)
	grow = func(row []int) {
		f(row)
		if len(row) < n {
			for _, number := range numbers {
				grow(append(slices.Clip(row), number))
			}
		}
	}
	grow(nil)
}

// P4.1: all short rows of numbers that differ in what they do.
func TestAllRows(t *testing.T) {
	from := []api.Attr{{}, {Fg: 200, Bg: 100, Flags: 255}, {Fg: 3, Flags: api.Bold | api.Hidden}}
	check := func(row []int) {
		for _, a := range from {
			want := wantedRow(a, row)
			if got, why := Change(a, row...); got != want || why != api.OK || !Look(got) {
				t.Fatalf("Change(%v, %v): %v %d, want %v", a, row, got, why, want)
			}
		}
	}
	rows([]int{0, 1, 5, 22, 38, 48, 255, 256, -1, 97}, 5, check)
	rows([]int{0, 4, 5, 6, 9, 22, 28, 30, 37, 38, 39, 40, 48, 49, 90, 100, 107, 108}, 3, check)
	rows([]int{5, 38, 48}, 8, check)
}

// whole tells whether each 38 and 48 of a row has all that it needs there.
func whole(row []int) bool {
	for i := 0; i < len(row); i++ {
		if row[i] != 38 && row[i] != 48 {
			continue
		}
		if i+2 >= len(row) || row[i+1] != 5 || row[i+2] < 0 || row[i+2] > 255 {
			return false
		}
		i += 2
	}
	return true
}

// P4.3: in two parts as in one.
func TestParts(t *testing.T) {
	from := []api.Attr{{}, {Fg: 200, Bg: 100, Flags: 255}}
	check := func(row []int) {
		for n := 1; n < len(row); n++ {
			if !whole(row[:n]) {
				continue
			}
			for _, a := range from {
				first, _ := Change(a, row[:n]...)
				got, _ := Change(first, row[n:]...)
				if want, why := Change(a, row...); got != want || why != api.OK {
					t.Fatalf("Change(%v, %v), then %v: %v, want %v", a, row[:n], row[n:], got, want)
				}
			}
		}
	}
	rows([]int{0, 3, 5, 22, 38, 48, 256, 97, 44}, 5, check)
	rows([]int{5, 38, 48}, 8, check)
}

// P4.3: what may be stays such: cells of letters, with marks, and blanks.
func TestStaysRight(t *testing.T) {
	for _, a := range looks() {
		for _, r := range []rune{'a', 'ä', 0x4e00, 0x10ffff} {
			c, why := Of(r, a)
			for why == api.OK {
				if !Right(c) {
					t.Errorf("%v", c)
				}
				c, why = Mark(c, 0x200b)
			}
		}
		if !Right(Blank(a)) {
			t.Errorf("%v", a)
		}
	}
}

// P1: long rows and texts.
func TestLong(t *testing.T) {
	for _, part := range [][]int{{1}, {38, 5, 3}, {0}, {38}, {99}} {
		row := slices.Repeat(part, 1<<16)
		change(t, api.Attr{Bg: 3}, wantedRow(api.Attr{Bg: 3}, row), row...)
	}
	for _, part := range []string{"a", "\u0301", "\xff", "一"} {
		c := api.Cell{Text: "a" + strings.Repeat(part, 1<<20), Wide: 1}
		if Right(c) {
			t.Errorf("%q", part)
		}
		if got, why := Mark(c, 0x301); got != (api.Cell{}) || why != api.ErrArg {
			t.Errorf("%q: %d", part, why)
		}
	}
}

// R1, R4: what is done with an answer changes no other one.
func TestNothingKept(t *testing.T) {
	a := api.Attr{Fg: 5, Bg: 6, Flags: api.Bold}
	for range 3 {
		params, _ := Ask(a)
		if !slices.Equal(params, []int{0, 1, 38, 5, 4, 48, 5, 5}) {
			t.Fatal(params)
		}
		clear(params)
		change(t, a, api.Attr{Fg: 5, Bg: 6}, 22)
		change(t, a, api.Attr{Fg: 5, Bg: 6, Flags: api.Bold | api.Dim}, 2)
	}
}
