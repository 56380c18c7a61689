// Package utf is layer 1: see shared/doc/01-utf.md.
package utf

import "backseat/api"

// letters are all letters: the first and the last one of a range, and how many bytes each of it has.
var letters = [...][3]rune{
	{0, 127, 1},
	{128, 2047, 2},
	{2048, 55295, 3},
	{57344, 65535, 3},
	{65536, 1114111, 4},
}

// widths are the letters that do not take one cell: the first and the last one of a range, and how wide each of it is.
var widths = [...][3]rune{
	{0, 31, -1},
	{127, 159, -1},
	{768, 879, 0},
	{8203, 8205, 0},
	{65024, 65039, 0},
	{4352, 4447, 2},
	{12353, 19903, 2},
	{19968, 40959, 2},
	{44032, 55203, 2},
	{63744, 64255, 2},
	{65281, 65376, 2},
	{127744, 129791, 2},
	{131072, 262141, 2},
}

// First is the first letter of a text, and how many bytes it has; beside ErrSyntax, how many bytes are spoilt.
func First(s string) (rune, int, api.Errno) {
	if s == "" {
		return 0, 0, api.ErrShort
	}
	r, size := lead(s[0])
	if size == 0 || !begins(r, size, size-1) {
		return 0, 1, api.ErrSyntax
	}
	for n := 1; n < size; n++ {
		if n == len(s) {
			return 0, 0, api.ErrShort
		}
		r = r<<6 | rune(s[n]%64)
		if s[n]/64 != 2 || !begins(r, size, size-n-1) {
			return 0, n, api.ErrSyntax
		}
	}
	return r, size, api.OK
}

// lead is what a first byte tells: its letter's highest bits, and how many bytes that letter has (0: none begins so).
func lead(b byte) (rune, int) {
	switch {
	case b < 128:
		return rune(b), 1
	case b < 192:
		return 0, 0
	case b < 224:
		return rune(b) - 192, 2
	case b < 240:
		return rune(b) - 224, 3
	case b < 248:
		return rune(b) - 240, 4
	}
	return 0, 0
}

// begins tells whether some letter of size bytes has these bits ahead of its last left bytes. Without it, bytes that lead only to numbers that are no letters, or that have fewer bytes, would be waited for.
func begins(bits rune, size, left int) bool {
	for _, l := range letters {
		if int(l[2]) == size && l[0]>>(6*left) <= bits && bits <= l[1]>>(6*left) {
			return true
		}
	}
	return false
}

// Text is a letter's bytes.
func Text(r rune) (string, api.Errno) {
	if !letter(r) {
		return "", api.ErrArg
	}
	return string(r), api.OK
}

// Valid tells whether a text is letters alone.
func Valid(s string) bool {
	for s != "" {
		_, n, why := First(s)
		if why != api.OK {
			return false
		}
		s = s[n:]
	}
	return true
}

// Width is how many cells a letter takes; -1, if it is a control, or no letter.
func Width(r rune) int {
	if !letter(r) {
		return -1
	}
	for _, w := range widths {
		if within(r, w) {
			return int(w[2])
		}
	}
	return 1
}

func letter(r rune) bool {
	for _, l := range letters {
		if within(r, l) {
			return true
		}
	}
	return false
}

func within(r rune, span [3]rune) bool {
	return span[0] <= r && r <= span[1]
}
