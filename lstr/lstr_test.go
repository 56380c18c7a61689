package lstr

import (
	"reflect"
	"slices"
	"strings"
	"testing"

	"backseat/api"
)

const (
	lowest  = -1 << 63
	highest = 1<<63 - 1
)

func pane(size, n int) api.Tree { return api.Tree{Pane: n, Size: size} }

// row is kids side by side; behind its list there is room, with others in it.
func row(size int, kids ...api.Tree) api.Tree {
	return api.Tree{Kind: api.TRow, Size: size, Kids: withRoom(kids)}
}

// pile is kids one above the other, so.
func pile(size int, kids ...api.Tree) api.Tree {
	return api.Tree{Kind: api.TPile, Size: size, Kids: withRoom(kids)}
}

func withRoom(kids []api.Tree) []api.Tree {
	n := len(kids)
	return append(slices.Clip(kids), pane(7, 901), pane(7, 902), pane(7, 903))[:n]
}

// panes are kids of these Sizes, of panes from a number on.
func panes(from int, sizes ...int) []api.Tree {
	var all []api.Tree
	for i, size := range sizes {
		all = append(all, pane(size, from+i))
	}
	return all
}

// whole is a copy of a tree, with the room behind each list.
func whole(t api.Tree) api.Tree {
	t.Kids = slices.Clone(t.Kids[:cap(t.Kids)])
	for i, k := range t.Kids {
		t.Kids[i] = whole(k)
	}
	return t
}

// bare is a copy of a tree, with a root's Size of 0, and no room behind lists.
func bare(t api.Tree) api.Tree {
	t.Kids = slices.Clone(t.Kids)
	for i, k := range t.Kids {
		size := k.Size
		t.Kids[i] = bare(k)
		t.Kids[i].Size = size
	}
	t.Size = 0
	return t
}

// share tells whether two lists of a tree share any, to the end of their room. The tree is written over.
func share(t *api.Tree) bool {
	kids := t.Kids[:cap(t.Kids)]
	shared := false
	for i := range kids {
		shared = share(&kids[i]) || shared || kids[i].Kind < 0
	}
	for i := range kids {
		kids[i] = api.Tree{Kind: -1}
	}
	return shared
}

// sums checks a text's check.
func sums(t *testing.T, s string, want int) {
	t.Helper()
	if got := Sum(s); got != want || got != wantSum(s) {
		t.Fatalf("Sum(%.80q): %d, want %d", s, got, want)
	}
}

// prints checks that a tree's layout has a text, behind its check, with any Size of the root's, and that the tree and the room behind its lists stay.
func prints(t *testing.T, in api.Tree, w, h int, want string) {
	t.Helper()
	want = checked(want)
	for _, size := range []int{0, 1, 7, -1, w, h, lowest, highest} {
		in.Size = size
		ahead := whole(in)
		got, why := Print(in, w, h)
		if got != want || why != api.OK {
			t.Fatalf("Print(%v, %d, %d): %q, %d, want %q", in, w, h, got, why, want)
		}
		if !reflect.DeepEqual(whole(in), ahead) {
			t.Fatalf("Print(%v, %d, %d) changed it: %v", ahead, w, h, in)
		}
	}
}

// parses checks that a text is parsed as a tree, of a size, of lists that share nothing.
func parses(t *testing.T, s string, want api.Tree, w, h int) {
	t.Helper()
	got, w2, h2, why := Parse(s)
	if !reflect.DeepEqual(bare(got), bare(want)) || got.Size != 0 || w2 != w || h2 != h || why != api.OK {
		t.Fatalf("Parse(%q): %v, %d, %d, %d, want %v, %d, %d", s, got, w2, h2, why, want, w, h)
	}
	if share(&got) {
		t.Fatalf("Parse(%q): two lists share some", s)
	}
}

// both checks that a tree's layout has a text, and that the text is parsed as it.
func both(t *testing.T, in api.Tree, w, h int, want string) {
	t.Helper()
	prints(t, in, w, h, want)
	parses(t, checked(want), in, w, h)
}

// refuses checks that a text comes to an error, and nothing else.
func refuses(t *testing.T, s string, want api.Errno) {
	t.Helper()
	got, w, h, why := Parse(s)
	if !reflect.DeepEqual(got, api.Tree{}) || w != 0 || h != 0 || why != want {
		t.Fatalf("Parse(%.300q): %v, %d, %d, %d, want %d", s, got, w, h, why, want)
	}
}

// isNone checks that a text, with its check, is no layout's.
func isNone(t *testing.T, text string) {
	t.Helper()
	refuses(t, checked(text), api.ErrSyntax)
}

func TestExample(t *testing.T) {
	both(t, pane(0, 1), 10, 5, "10x5,0,0,1")
	if got, why := Print(pane(0, 1), 10, 5); got != "ecde,10x5,0,0,1" || why != api.OK {
		t.Fatal(got, why)
	}
}

func TestSum(t *testing.T) {
	for _, c := range []struct {
		s    string
		want int
	}{
		{"", 0},
		{"\x00", 0},
		{"\x01", 1},
		{"A", 65},
		{"\xff", 255},
		{"\x00\x00\x00", 0},
		{"\x01\x00", 32768},
		{"\x02\x00", 1},
		{"\x03\x00", 32769},
		{"\x01\x00\x00", 16384},
		{"\x02\x00\x00", 32768},
		{"\xff\x00", 32895},
		{"\xfe\x00", 127},
		{"\xfe\xff", 382},
		{"\xff\xff", 33150},
		{"\x02\x01", 2},
		{"\x01\xff", 33023},
		{"\x01" + strings.Repeat("\x00", 16), 1},
		{"\x80" + strings.Repeat("\x00", 8), 32768},
		{"80x24,0,0,0", 0xb25d},
		{"159x48,0,0{79x48,0,0,79x48,80,0}", 0xbb62},
	} {
		sums(t, c.s, c.want)
	}
}

// TestSumPasses has the last byte come to a sum of 65535, or pass it.
func TestSumPasses(t *testing.T) {
	ones := strings.Repeat("\x01", 7)
	for _, c := range []struct {
		ahead string
		sum   int
		last  byte
		want  int
	}{
		{ones + "\x01", 65025, 255, 65535},
		{ones + "\x03", 65027, 254, 65535},
		{ones + "\x03", 65027, 255, 0},
		{ones + "\x01\xfd", 65533, 0, 65534},
		{ones + "\x01\xfd", 65533, 1, 65535},
		{ones + "\x01\xfd", 65533, 2, 0},
		{ones + "\x01\xff", 65535, 0, 65535},
		{ones + "\x01\xff", 65535, 1, 0},
		{ones + "\x01\xff", 65535, 255, 254},
	} {
		sums(t, c.ahead, c.sum)
		sums(t, c.ahead+string([]byte{c.last}), c.want)
	}
}

func TestPanesAlone(t *testing.T) {
	both(t, pane(0, 1), 1, 1, "1x1,0,0,1")
	both(t, pane(0, 9), 80, 50, "80x50,0,0,9")
	both(t, pane(0, 10), 80, 1, "80x1,0,0,10")
	both(t, pane(0, 99), 1, 50, "1x50,0,0,99")
	both(t, pane(0, 100), 9, 10, "9x10,0,0,100")
	both(t, pane(0, 999), 79, 49, "79x49,0,0,999")
}

func TestRows(t *testing.T) {
	both(t, row(0, panes(1, 5, 4)...), 10, 5, "10x5,0,0{5x5,0,0,1,4x5,6,0,2}")
	both(t, row(0, panes(7, 1, 1)...), 3, 1, "3x1,0,0{1x1,0,0,7,1x1,2,0,8}")
	both(t, row(0, pane(1, 999), pane(78, 1)), 80, 50, "80x50,0,0{1x50,0,0,999,78x50,2,0,1}")
	both(t, row(0, panes(1, 1, 2, 3)...), 8, 50, "8x50,0,0{1x50,0,0,1,2x50,2,0,2,3x50,5,0,3}")
	both(t, row(0, panes(1, 10, 9, 9, 9, 9, 9, 9, 9)...), 80, 1, "80x1,0,0{10x1,0,0,1,9x1,11,0,2,9x1,21,0,3,9x1,31,0,4,9x1,41,0,5,9x1,51,0,6,9x1,61,0,7,9x1,71,0,8}")
}

func TestPiles(t *testing.T) {
	both(t, pile(0, panes(1, 2, 2)...), 10, 5, "10x5,0,0[10x2,0,0,1,10x2,0,3,2]")
	both(t, pile(0, panes(7, 1, 1)...), 1, 3, "1x3,0,0[1x1,0,0,7,1x1,0,2,8]")
	both(t, pile(0, pane(48, 999), pane(1, 1)), 80, 50, "80x50,0,0[80x48,0,0,999,80x1,0,49,1]")
	both(t, pile(0, panes(1, 1, 2, 3)...), 80, 8, "80x8,0,0[80x1,0,0,1,80x2,0,2,2,80x3,0,5,3]")
	both(t, pile(0, panes(1, 6, 6, 6, 5, 5, 5, 5, 5)...), 1, 50, "1x50,0,0[1x6,0,0,1,1x6,0,7,2,1x6,0,14,3,1x5,0,21,4,1x5,0,27,5,1x5,0,33,6,1x5,0,39,7,1x5,0,45,8]")
}

func TestRowsAndPiles(t *testing.T) {
	both(t, row(0, pane(5, 1), pile(4, panes(2, 3, 1)...)), 10, 5, "10x5,0,0{5x5,0,0,1,4x5,6,0[4x3,6,0,2,4x1,6,4,3]}")
	both(t, row(0, pile(5, panes(1, 1, 3)...), pane(4, 3)), 10, 5, "10x5,0,0{5x5,0,0[5x1,0,0,1,5x3,0,2,2],4x5,6,0,3}")
	both(t, pile(0, pane(2, 1), row(2, panes(2, 7, 2)...)), 10, 5, "10x5,0,0[10x2,0,0,1,10x2,0,3{7x2,0,3,2,2x2,8,3,3}]")
	both(t, pile(0, row(2, panes(1, 2, 7)...), pane(2, 3)), 10, 5, "10x5,0,0[10x2,0,0{2x2,0,0,1,7x2,3,0,2},10x2,0,3,3]")
	both(t, row(0, pile(1, panes(5, 1, 1)...), pile(1, panes(3, 1, 1)...), pile(1, panes(1, 1, 1)...)), 5, 3,
		"5x3,0,0{1x3,0,0[1x1,0,0,5,1x1,0,2,6],1x3,2,0[1x1,2,0,3,1x1,2,2,4],1x3,4,0[1x1,4,0,1,1x1,4,2,2]}")
}

// TestDeep has as many rows and piles in one another as there may be.
func TestDeep(t *testing.T) {
	in := pile(0, pane(3, 1), row(46, pane(9, 2), pile(70, pane(2, 3), row(43, pane(1, 4), pile(68, pane(1, 5), row(41, pane(30, 6), pile(37, pane(20, 7), pane(20, 8))))))))
	both(t, in, 80, 50, "80x50,0,0[80x3,0,0,1,80x46,0,4{9x46,0,4,2,70x46,10,4[70x2,10,4,3,70x43,10,7{1x43,10,7,4,68x43,12,7[68x1,12,7,5,68x41,12,9{30x41,12,9,6,37x41,43,9[37x20,43,9,7,37x20,43,30,8]}]}]}]")
}

// TestPrintTellsWhatMayNotBe has trees that may not be, of that size.
func TestPrintTellsWhatMayNotBe(t *testing.T) {
	inItself := row(0, pane(1, 1), pane(1, 2))
	inItself.Kids[1] = api.Tree{Kind: api.TPile, Size: 1, Kids: inItself.Kids}
	for _, c := range []struct {
		t    api.Tree
		w, h int
	}{
		{pane(0, 1), 0, 5},
		{pane(0, 1), 10, 0},
		{pane(0, 1), 81, 5},
		{pane(0, 1), 10, 51},
		{pane(0, 1), -1, 5},
		{pane(0, 1), lowest, highest},
		{pane(0, 1), highest, lowest},
		{pane(0, 0), 10, 5},
		{pane(0, -1), 10, 5},
		{pane(0, 1000), 10, 5},
		{api.Tree{}, 10, 5},
		{api.Tree{Kind: 3}, 10, 5},
		{api.Tree{Kind: -1, Pane: 1}, 10, 5},
		{api.Tree{Pane: 1, Kids: panes(2, 5, 4)}, 10, 5},
		{api.Tree{Kind: api.TRow, Pane: 1, Kids: panes(2, 5, 4)}, 10, 5},
		{row(0), 10, 5},
		{pile(0), 10, 5},
		{row(0, pane(10, 1)), 10, 5},
		{pile(0, pane(5, 1)), 10, 5},
		{row(0, panes(1, 5, 4)...), 9, 5},
		{row(0, panes(1, 5, 4)...), 11, 5},
		{row(0, panes(1, 5, 5)...), 10, 5},
		{row(0, panes(1, 9, 0)...), 10, 5},
		{row(0, panes(1, 10, -1)...), 10, 5},
		{pile(0, panes(1, 5, 4)...), 5, 9},
		{pile(0, panes(1, 2, 2)...), 10, 4},
		{row(0, pane(5, 1), pane(4, 1)), 10, 5},
		{row(0, pane(5, 1), row(4, panes(2, 1, 2)...)), 10, 5},
		{pile(0, pane(2, 1), pile(2, panes(2, 1, 0)...)), 10, 5},
		{row(0, pane(5, 1), pile(4, panes(2, 2, 3)...)), 10, 5},
		{row(0, panes(1, 8, 8, 8, 8, 8, 8, 8, 8, 8)...), 80, 50},
		{inItself, 10, 5},
	} {
		if got, why := Print(c.t, c.w, c.h); got != "" || why != api.ErrArg {
			t.Errorf("Print(%+.40v, %d, %d): %q, %d", c.t, c.w, c.h, got, why)
		}
	}
}

func TestHeads(t *testing.T) {
	for _, c := range []struct {
		s   string
		why api.Errno
	}{
		{"", api.ErrSyntax},
		{"e", api.ErrSyntax},
		{"ecde", api.ErrSyntax},
		{"ecde10x5,0,0,1", api.ErrSyntax},
		{"ecde;10x5,0,0,1", api.ErrSyntax},
		{"ecde ,10x5,0,0,1", api.ErrSyntax},
		{" ecde,10x5,0,0,1", api.ErrSyntax},
		{"cde,10x5,0,0,1", api.ErrSyntax},
		{"0ecde,10x5,0,0,1", api.ErrSyntax},
		{"ECDE,10x5,0,0,1", api.ErrSyntax},
		{"ecdE,10x5,0,0,1", api.ErrSyntax},
		{"ecdg,10x5,0,0,1", api.ErrSyntax},
		{"ecd`,10x5,0,0,1", api.ErrSyntax},
		{"ecd/,10x5,0,0,1", api.ErrSyntax},
		{"ecd:,10x5,0,0,1", api.ErrSyntax},
		{"+cde,10x5,0,0,1", api.ErrSyntax},
		{"-cde,10x5,0,0,1", api.ErrSyntax},
		{"0x1f,10x5,0,0,1", api.ErrSyntax},
		{"10x5,0,0,1", api.ErrSyntax},
		{",10x5,0,0,1", api.ErrSyntax},
		{"0000", api.ErrSyntax},
		{"0000,", api.ErrSyntax},
		{"0001,", api.ErrSum},
		{"ffff,", api.ErrSum},
		{"ecdf,10x5,0,0,1", api.ErrSum},
		{"fcde,10x5,0,0,1", api.ErrSum},
		{"ecde,10x5,0,0,2", api.ErrSum},
		{"ecde,10x5,0,0,1 ", api.ErrSum},
		{"ecde, 10x5,0,0,1", api.ErrSum},
		{"ecde,ecde,10x5,0,0,1", api.ErrSum},
		{"ECDE,10x5,0,0,2", api.ErrSyntax},
		{"ECDE,nothing", api.ErrSyntax},
		{"ecde;nothing", api.ErrSyntax},
		{"ecde,nothing", api.ErrSum},
		{"ecde,010x5,0,0,1", api.ErrSum},
		{checked("nothing"), api.ErrSyntax},
		{checked("010x5,0,0,1"), api.ErrSyntax},
		{checked(checked("10x5,0,0,1")), api.ErrSyntax},
	} {
		refuses(t, c.s, c.why)
	}
}

// TestEachByteOfTheHead has each byte of a head changed to each other one.
func TestEachByteOfTheHead(t *testing.T) {
	for _, text := range []string{"10x5,0,0,1", "10x5,0,0{5x5,0,0,1,4x5,6,0,2}", "nothing", ""} {
		whole := checked(text)
		for i := range 5 {
			for b := range 256 {
				changed := []byte(whole)
				changed[i] = byte(b)
				switch {
				case string(changed) == whole:
				case i < 4 && strings.ContainsRune("0123456789abcdef", rune(b)):
					refuses(t, string(changed), api.ErrSum)
				default:
					refuses(t, string(changed), api.ErrSyntax)
				}
			}
		}
	}
}

func TestNumbers(t *testing.T) {
	for _, text := range []string{
		"010x5,0,0,1", "10x05,0,0,1", "10x5,00,0,1", "10x5,0,00,1", "10x5,0,0,01", "10x5,0,0,0001",
		"10x5,0,0{05x5,0,0,1,4x5,6,0,2}", "10x5,0,0{5x5,0,0,1,4x5,06,0,2}", "10x5,0,0{5x5,0,0,1,4x5,6,00,2}", "10x5,0,0{5x5,0,0,01,4x5,6,0,2}",
		"0x5,0,0,1", "10x0,0,0,1", "81x5,0,0,1", "10x51,0,0,1", "100x5,0,0,1", "10x500,0,0,1", "10x5,0,0,0", "10x5,0,0,1000", "10x5,0,0,9999",
		"10x5,0,0,9223372036854775808", "10x5,0,0,18446744073709551617", "18446744073709551626x5,0,0,1", "10x18446744073709551621,0,0,1", "10x5,18446744073709551616,0,1", "10x5,0,18446744073709551616,1",
		"10x5,0,0," + strings.Repeat("1", 1<<20), strings.Repeat("0", 1<<20) + "10x5,0,0,1", "10x5,0,0{5x5,0,0,1,18446744073709551620x5,6,0,2}",
		"+10x5,0,0,1", "-10x5,0,0,1", "10x+5,0,0,1", "10x-5,0,0,1", "10x5,+0,0,1", "10x5,-0,0,1", "10x5,0,+0,1", "10x5,0,-0,1", "10x5,0,0,+1", "10x5,0,0,-1",
		" 10x5,0,0,1", "10 x5,0,0,1", "10x 5,0,0,1", "10x5 ,0,0,1", "10x5, 0,0,1", "10x5,0 ,0,1", "10x5,0,0, 1", "10x5,0,0,1 ", "10x5,0,0,1\n", "10x5,0,0,1\x00", "1_0x5,0,0,1", "0xax5,0,0,1", "ax5,0,0,1", "10x5,0,0,1e0", "10x5,0,0,1.0",
		"\xef\xbc\x91x5,0,0,1", "10x5,0,0,\xef\xbc\x91", "10\xc3\x975,0,0,1", "10X5,0,0,1", "10*5,0,0,1",
		"x5,0,0,1", "10x,0,0,1", "10x5,,0,1", "10x5,0,,1", "10x5,0,0,", "10x5,0,0", "10x5,0", "10x5", "10", "1", ",", "x", "{", "]", " ",
		"10x5;0,0,1", "10x5,0;0,1", "10x5,0,0;1", "10x5.0.0.1", "10x5,0,0:1",
	} {
		isNone(t, text)
	}
}

func TestBrackets(t *testing.T) {
	for _, text := range []string{
		"10x5,0,0{5x5,0,0,1,4x5,6,0,2]", "10x5,0,0[10x2,0,0,1,10x2,0,3,2}", "10x5,0,0(5x5,0,0,1,4x5,6,0,2)",
		"10x5,0,0{5x5,0,0,1,4x5,6,0,2", "10x5,0,05x5,0,0,1,4x5,6,0,2}", "10x5,0,0,5x5,0,0,1,4x5,6,0,2", "10x5,0,0}5x5,0,0,1,4x5,6,0,2{", "10x5,0,0,{5x5,0,0,1,4x5,6,0,2}",
		"10x5,0,0{{5x5,0,0,1,4x5,6,0,2}}", "10x5,0,0{5x5,0,0,1,{4x5,6,0,2}}", "{10x5,0,0{5x5,0,0,1,4x5,6,0,2}}",
		"10x5,0,0{}", "10x5,0,0[]", "10x5,0,0{,}", "10x5,0,0{5x5,0,0,1,}", "10x5,0,0{5x5,0,0,1,4x5,6,0,2,}", "10x5,0,0{,5x5,0,0,1,4x5,6,0,2}", "10x5,0,0{5x5,0,0,1,,4x5,6,0,2}", "10x5,0,0{5x5,0,0,14x5,6,0,2}", "10x5,0,0{5x5,0,0,1;4x5,6,0,2}", "10x5,0,0{5x5,0,0,1 4x5,6,0,2}",
		"10x5,0,0{5x5,0,0,1,4x5,6,0[4x3,6,0,2,4x1,6,4,3}]", "10x5,0,0{5x5,0,0,1,4x5,6,0[4x3,6,0,2,4x1,6,4,3}", "10x5,0,0{5x5,0,0,1,4x5,6,0[4x3,6,0,2,4x1,6,4,3]]", "10x5,0,0{5x5,0,0,1,4x5,6,0[4x3,6,0,2,4x1,6,4,3]", "10x5,0,0{5x5,0,0,1],4x5,6,0[4x3,6,0,2,4x1,6,4,3]}",
		"10x5,0,0{5x5,0,0,1,4x5,6,0,2}}", "10x5,0,0{5x5,0,0,1,4x5,6,0,2},", "10x5,0,0{5x5,0,0,1,4x5,6,0,2},1", "10x5,0,0{5x5,0,0,1,4x5,6,0,2}10x5,0,0,3", "10x5,0,0{5x5,0,0,1,4x5,6,0,2}\x00", "10x5,0,0{5x5,0,0,1,4x5,6,0,2}[]", "10x5,0,0,1,10x5,0,0,2", "10x5,0,0,1,", "10x5,0,0,1{", "10x5,0,0,1}", "10x5,0,0,1x",
	} {
		isNone(t, text)
	}
}

// TestLayoutsThatMayNotBe has texts that read as trees, of which none may be, or lies so.
func TestLayoutsThatMayNotBe(t *testing.T) {
	for _, text := range []string{
		"10x5,0,0{10x5,0,0,1}", "10x5,0,0[10x5,0,0,1]", "10x5,0,0{5x5,0,0,1,4x5,6,0[4x5,6,0,2]}", "10x5,0,0[10x5,0,0{5x5,0,0,1,4x5,6,0,2}]",
		"11x5,0,0{5x5,0,0,1,4x5,6,0,2}", "9x5,0,0{5x5,0,0,1,4x5,6,0,2}", "10x6,0,0{5x5,0,0,1,4x5,6,0,2}", "10x4,0,0{5x5,0,0,1,4x5,6,0,2}", "10x5,0,0{5x5,0,0,1,4x4,6,0,2}", "10x5,0,0{5x6,0,0,1,4x5,6,0,2}", "10x5,0,0{5x5,0,0,1,3x5,6,0,2}", "10x5,0,0{5x5,0,0,1,5x5,6,0,2}", "10x5,0,0{5x5,0,0,1,5x5,5,0,2}", "10x5,0,0{9x5,0,0,1,0x5,10,0,2}", "10x5,0,0{10x5,0,0,1,0x5,10,0,2}",
		"10x4,0,0[10x2,0,0,1,10x2,0,3,2]", "10x6,0,0[10x2,0,0,1,10x2,0,3,2]", "11x5,0,0[10x2,0,0,1,10x2,0,3,2]", "10x5,0,0[9x2,0,0,1,10x2,0,3,2]", "10x5,0,0[10x2,0,0,1,10x1,0,3,2]", "10x4,0,0[10x2,0,0,1,10x2,0,2,2]",
		"10x5,1,0,1", "10x5,0,1,1", "10x5,1,0{5x5,1,0,1,4x5,7,0,2}", "10x5,0,1{5x5,0,1,1,4x5,6,1,2}", "10x5,0,0{5x5,1,0,1,4x5,6,0,2}", "10x5,0,0{5x5,0,0,1,4x5,5,0,2}", "10x5,0,0{5x5,0,0,1,4x5,7,0,2}", "10x5,0,0{5x5,0,0,1,4x5,6,1,2}", "10x5,0,0{5x5,0,0,1,4x5,0,0,2}", "10x5,0,0{4x5,6,0,2,5x5,0,0,1}", "10x5,0,0[10x2,0,0,1,10x2,0,2,2]", "10x5,0,0[10x2,0,0,1,10x2,1,3,2]", "10x5,0,0{5x5,0,0,1,4x5,6,0[4x3,6,0,2,4x1,6,5,3]}", "10x5,0,0{5x5,0,0,1,4x5,6,0[4x3,0,0,2,4x1,0,4,3]}", "10x5,0,0{5x5,0,0,1,4x5,5,0[4x3,6,0,2,4x1,6,4,3]}",
		"10x5,0,0{5x5,0,0,1,4x5,6,0{1x5,6,0,2,2x5,8,0,3}}", "10x5,0,0[10x1,0,0,1,10x3,0,2[10x1,0,2,2,10x1,0,4,3]]",
		"10x5,0,0{5x5,0,0,1,4x5,6,0,1}", "10x5,0,0{5x5,0,0,1,4x5,6,0[4x3,6,0,2,4x1,6,4,1]}", "10x5,0,0{5x5,0,0,0,4x5,6,0,2}", "10x5,0,0{5x5,0,0,1,4x5,6,0,1000}",
		"17x1,0,0{1x1,0,0,1,1x1,2,0,2,1x1,4,0,3,1x1,6,0,4,1x1,8,0,5,1x1,10,0,6,1x1,12,0,7,1x1,14,0,8,1x1,16,0,9}",
	} {
		isNone(t, text)
	}
}

// TestCutShort has a text cut at each byte, with its own check, and with the right one.
func TestCutShort(t *testing.T) {
	text := "10x5,0,0{5x5,0,0,12,4x5,6,0[4x3,6,0,2,4x1,6,4{1x1,6,4,3,2x1,8,4,999}]}"
	whole := checked(text)
	if _, w, h, why := Parse(whole); w != 10 || h != 5 || why != api.OK {
		t.Fatal(w, h, why)
	}
	for n := range text {
		isNone(t, text[:n])
		isNone(t, text[n+1:])
		if wantSum(text[:n]) == wantSum(text) {
			t.Fatalf("%q has the same check", text[:n])
		}
		refuses(t, whole[:5+n], api.ErrSum)
	}
	for n := range 5 {
		refuses(t, whole[:n], api.ErrSyntax)
	}
}

// TestWithoutBound has texts that begin rows and piles, or kids, without end.
func TestWithoutBound(t *testing.T) {
	const many = 1 << 22
	for _, text := range []string{
		strings.Repeat("9x9,0,0{", many),
		strings.Repeat("9x9,0,0[", many),
		strings.Repeat("9x9,0,0{9x9,0,0[", many/2),
		strings.Repeat("9x9,0,0{", many/8) + "9x9,0,0,1" + strings.Repeat("}", many/8),
		"9x9,0,0{" + strings.Repeat("1x9,0,0,1,", many/8),
		strings.Repeat("{", many),
		strings.Repeat("1", many),
		strings.Repeat(",", many),
	} {
		isNone(t, text)
		refuses(t, text, api.ErrSyntax)
		refuses(t, "0123,"+text, api.ErrSum)
	}
}
