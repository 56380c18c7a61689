package utf

import (
	"math"
	"strings"
	"testing"

	"backseat/api"
)

const last = 1114111

// isLetter, bytesOf and wide say what the chapter says, apart from the tables of the package.
func isLetter(r rune) bool { return r >= 0 && r <= last && (r < 55296 || r > 57343) }

func bytesOf(r rune) string {
	tail := func(shift uint) byte { return byte(128 + r>>shift%64) }
	switch {
	case r < 128:
		return string([]byte{byte(r)})
	case r < 2048:
		return string([]byte{byte(192 + r>>6), tail(0)})
	case r < 65536:
		return string([]byte{byte(224 + r>>12), tail(6), tail(0)})
	}
	return string([]byte{byte(240 + r>>18), tail(12), tail(6), tail(0)})
}

func wide(r rune) int {
	in := func(from, to rune) bool { return from <= r && r <= to }
	switch {
	case !isLetter(r), r < 32, in(127, 159):
		return -1
	case in(768, 879), in(8203, 8205), in(65024, 65039):
		return 0
	case in(4352, 4447), in(12353, 19903), in(19968, 40959), in(44032, 55203), in(63744, 64255), in(65281, 65376), in(127744, 129791), in(131072, 262141):
		return 2
	}
	return 1
}

// strange are numbers far from all letters, and next to them.
func strange() []rune {
	return []rune{math.MinInt32, math.MinInt32 + 1, -1114111, -128, -2, -1, 55296, 55297, 56320, 57342, 57343, last + 1, last + 2, 1 << 21, 1<<21 + 65, 1 << 24, math.MaxInt32 - 1, math.MaxInt32}
}

func TestBytesOfEdges(t *testing.T) {
	for r, want := range map[rune]string{
		0: "\x00", 65: "A", 127: "\x7f",
		128: "\xc2\x80", 228: "\xc3\xa4", 2047: "\xdf\xbf",
		2048: "\xe0\xa0\x80", 19968: "\xe4\xb8\x80", 55295: "\xed\x9f\xbf", 57344: "\xee\x80\x80", 65533: "\xef\xbf\xbd", 65535: "\xef\xbf\xbf",
		65536: "\xf0\x90\x80\x80", 128512: "\xf0\x9f\x98\x80", last: "\xf4\x8f\xbf\xbf",
	} {
		if s, why := Text(r); s != want || why != api.OK {
			t.Errorf("Text(%d): %q %d, want %q", r, s, why, want)
		}
		if got, n, why := First(want); got != r || n != len(want) || why != api.OK {
			t.Errorf("First(%q): %d %d %d, want %d", want, got, n, why, r)
		}
	}
}

// P1.1 and P1.3: of each letter, with something and nothing behind it.
func TestEachLetter(t *testing.T) {
	behind := []string{"", "a", "\x80", "\xbf\xbf\xbf\xbf", "\xc3", "\xff", "\xe4\xb8\x80", "\x00"}
	for r := rune(0); r <= last; r++ {
		s, why := Text(r)
		if !isLetter(r) {
			if s != "" || why != api.ErrArg {
				t.Fatalf("Text(%d): %q %d, and it is no letter", r, s, why)
			}
			continue
		}
		if s != bytesOf(r) || why != api.OK || !Valid(s) {
			t.Fatalf("Text(%d): %q %d, want %q", r, s, why, bytesOf(r))
		}
		for _, b := range behind {
			if got, n, why := First(s + b); got != r || n != len(s) || why != api.OK {
				t.Fatalf("First(%q): %d %d %d, want %d", s+b, got, n, why, r)
			}
		}
		for n := 1; n < len(s); n++ {
			if got, took, why := First(s[:n]); got != 0 || took != 0 || why != api.ErrShort || Valid(s[:n]) {
				t.Fatalf("First(%q): %d %d %d, want ErrShort", s[:n], got, took, why)
			}
		}
	}
}

func TestTextOfNoLetter(t *testing.T) {
	for _, r := range strange() {
		if s, why := Text(r); s != "" || why != api.ErrArg {
			t.Errorf("Text(%d): %q %d, want ErrArg", r, s, why)
		}
	}
}

func TestWidthEdges(t *testing.T) {
	for _, c := range [][3]rune{ // the first and the last letter, and how wide they are; those next to them are not so
		{0, 31, -1}, {127, 159, -1},
		{768, 879, 0}, {8203, 8205, 0}, {65024, 65039, 0},
		{4352, 4447, 2}, {12353, 19903, 2}, {19968, 40959, 2}, {44032, 55203, 2}, {63744, 64255, 2}, {65281, 65376, 2}, {127744, 129791, 2}, {131072, 262141, 2},
	} {
		for _, r := range []rune{c[0], (c[0] + c[1]) / 2, c[1]} {
			if w := Width(r); w != int(c[2]) {
				t.Errorf("Width(%d): %d, want %d", r, w, c[2])
			}
		}
		if w := Width(c[0] - 1); c[0] > 0 && w != 1 {
			t.Errorf("Width(%d): %d, want 1", c[0]-1, w)
		}
		if w := Width(c[1] + 1); w != 1 {
			t.Errorf("Width(%d): %d, want 1", c[1]+1, w)
		}
	}
}

func TestWidthOfAll(t *testing.T) {
	for r := rune(-2000); r <= last+2000; r++ {
		if w := Width(r); w != wide(r) {
			t.Fatalf("Width(%d): %d, want %d", r, w, wide(r))
		}
	}
	for _, r := range strange() {
		if w := Width(r); w != -1 {
			t.Errorf("Width(%d): %d, and it is no letter", r, w)
		}
	}
}

func TestFirstOfSpoilt(t *testing.T) {
	for s, want := range map[string]int{
		"\x80": 1, "\xbf": 1, "\x80\x80": 1, // none begins so
		"\xc0": 1, "\xc1": 1, "\xc0\x80": 1, "\xc1\xbf": 1, // it has one byte
		"\xf5": 1, "\xf7\xbf\xbf\xbf": 1, "\xf8": 1, "\xfc\x80": 1, "\xfe": 1, "\xff": 1,
		"\xc3A": 1, "\xc3\xc3": 1, "\xc3\x7f": 1, "\xc2\xc0": 1,
		"\xe0\x80": 1, "\xe0\x9f": 1, "\xe0\x9f\xbf": 1, "\xe0\xa0A": 2, "\xe0\xa0\xc0": 2, // it has two bytes
		"\xed\xa0": 1, "\xed\xa0\x80": 1, "\xed\xbf\xbf": 1, "\xed\x9fA": 2, // 55296 to 57343
		"\xe4A": 1, "\xe4\xb8A": 2, "\xe4\xb8\xe4\xb8\x80": 2,
		"\xf0\x80": 1, "\xf0\x8f\xbf\xbf": 1, "\xf0\x90A": 2, "\xf0\x90\x80A": 3, "\xf0\x9f\x98A": 3, // it has three bytes
		"\xf4\x90": 1, "\xf4\x90\x80\x80": 1, "\xf4\x8fA": 2, "\xf4\x8f\xbfA": 3, "\xf4\x8f\xbf\xff": 3, // above 1114111
	} {
		if r, n, why := First(s); r != 0 || n != want || why != api.ErrSyntax || Valid(s) {
			t.Errorf("First(%q): %d %d %d, want ErrSyntax and %d", s, r, n, why, want)
		}
	}
}

func TestFirstOfShort(t *testing.T) {
	for _, s := range []string{"", "\xc2", "\xdf", "\xe0", "\xe0\xa0", "\xe0\xbf", "\xed", "\xed\x80", "\xed\x9f", "\xee\x80", "\xef\xbf", "\xf0", "\xf0\x90", "\xf0\x90\x80", "\xf3\xbf\xbf", "\xf4", "\xf4\x80", "\xf4\x8f\xbf"} {
		if r, n, why := First(s); r != 0 || n != 0 || why != api.ErrShort {
			t.Errorf("First(%q): %d %d %d, want ErrShort", s, r, n, why)
		}
	}
}

// beginnings are all beginnings, but not all, of letters' bytes.
func beginnings() map[string]bool {
	all := map[string]bool{"": true}
	for r := rune(0); r <= last; r++ {
		if isLetter(r) {
			s := bytesOf(r)
			for n := 1; n < len(s); n++ {
				all[s[:n]] = true
			}
		}
	}
	return all
}

// wantFirst says what the chapter says of First, from the beginnings alone.
func wantFirst(s string, begins map[string]bool) (rune, int, api.Errno) {
	if begins[s] {
		return 0, 0, api.ErrShort
	}
	n := 0
	for n < len(s) && begins[s[:n+1]] {
		n++
	}
	if r, size, ok := whole(s, n+1); ok {
		return r, size, api.OK
	}
	return 0, max(n, 1), api.ErrSyntax
}

// whole tells whether the first n bytes are a letter's, and of which.
func whole(s string, n int) (rune, int, bool) {
	b := s[:n]
	r := rune(b[0])
	if n > 1 {
		r = rune(b[0]) % (1 << (7 - uint(n)))
	}
	for i := 1; i < n; i++ {
		r = r<<6 + rune(b[i])%64
	}
	return r, n, isLetter(r) && bytesOf(r) == b
}

// P1.2: all texts of one and two bytes, and longer ones of bytes next to where something changes.
func TestFirstOfAll(t *testing.T) {
	begins := beginnings()
	check := func(b ...byte) {
		s := string(b)
		r, n, why := First(s)
		if wr, wn, ww := wantFirst(s, begins); r != wr || n != wn || why != ww {
			t.Fatalf("First(%q): %d %d %d, want %d %d %d", s, r, n, why, wr, wn, ww)
		}
	}
	edges := []byte{0, 65, 127, 128, 129, 143, 144, 159, 160, 191, 192, 193, 194, 223, 224, 237, 239, 240, 243, 244, 245, 247, 248, 255}
	for a := range 256 {
		check(byte(a))
		for b := range 256 {
			check(byte(a), byte(b))
			for _, c := range edges {
				check(byte(a), byte(b), c)
			}
		}
		for _, b := range edges {
			for _, c := range edges {
				for _, d := range edges {
					check(byte(a), b, c, d)
					check(byte(a), b, c, d, 128)
				}
			}
		}
	}
}

func TestValid(t *testing.T) {
	for _, s := range []string{"", "a", "\x00\x7f", "a\xc3\xa4\xe4\xb8\x80\xf0\x9f\x98\x80\xcc\x81b", "\xef\xbf\xbd", "\xf4\x8f\xbf\xbf\xed\x9f\xbf\xee\x80\x80"} {
		if !Valid(s) {
			t.Errorf("Valid(%q): false", s)
		}
	}
	for _, s := range []string{"\x80", "\xff", "a\x80", "\xc3", "a\xc3", "\xc3a", "\xe4\xb8", "\xe4\xb8a", "ab\xed\xa0\x80", "\xc0\x80", "\xf4\x90\x80\x80", "\xf0\x9f\x98", "\xc3\xa4\xa4", strings.Repeat("a", 1000) + "\xc3"} {
		if Valid(s) {
			t.Errorf("Valid(%q): true", s)
		}
	}
}

type found struct {
	letter rune
	end    int
}

// read tells the letters of a text, and where each ends; spoilt bytes are gone over.
func read(s string) []found {
	var all []found
	for at := 0; ; {
		r, n, why := First(s[at:])
		if why == api.ErrShort {
			return all
		}
		at += n
		if why == api.OK {
			all = append(all, found{r, at})
		}
	}
}

// P1.3: what is ahead of a cut is the same.
func TestCut(t *testing.T) {
	for _, s := range []string{
		"", "abc", "a\xc3\xa4\xe4\xb8\x80\xf0\x9f\x98\x80b", "\xcc\x81\xe2\x80\x8b\xef\xb8\x8f",
		"\x80a\xc3\xc3\xa4\xe4\xb8a\xed\xa0\x80z\xf0\x9f\x98\xf0\x9f\x98\x80", "\xff\xff\xf4\x90\x80\x80\xc0\xafx\xe4",
	} {
		all := read(s)
		for cut := range len(s) + 1 {
			var want []found
			for _, f := range all {
				if f.end <= cut {
					want = append(want, f)
				}
			}
			got := read(s[:cut])
			if len(got) != len(want) {
				t.Fatalf("%q cut at %d: %v, want %v", s, cut, got, want)
			}
			for i := range got {
				if got[i] != want[i] {
					t.Fatalf("%q cut at %d: %v, want %v", s, cut, got, want)
				}
			}
		}
	}
}

// R1: what was asked ahead changes no answer.
func TestNothingKept(t *testing.T) {
	for range 3 {
		if r, n, why := First("\xc3\xa4"); r != 228 || n != 2 || why != api.OK {
			t.Error(r, n, why)
		}
		if _, n, why := First("\xc3"); n != 0 || why != api.ErrShort {
			t.Error(n, why)
		}
		if _, n, why := First("\xc3A"); n != 1 || why != api.ErrSyntax {
			t.Error(n, why)
		}
	}
}
