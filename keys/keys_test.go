package keys

import (
	"fmt"
	"slices"
	"strings"
	"sync"
	"testing"

	"backseat/api"
	"backseat/utf"
)

// table is the named keys and their bytes, written out from the chapter.
func table() map[string]string {
	return map[string]string{
		"Up": "\x1b[A", "Down": "\x1b[B", "Right": "\x1b[C", "Left": "\x1b[D", "Home": "\x1b[H", "End": "\x1b[F",
		"Ins": "\x1b[2~", "Del": "\x1b[3~", "PgUp": "\x1b[5~", "PgDn": "\x1b[6~",
		"F1": "\x1bOP", "F2": "\x1bOQ", "F3": "\x1bOR", "F4": "\x1bOS",
		"Enter": "\r", "Tab": "\t", "Bsp": "\x7f", "Esc": "\x1b", "C-Space": "\x00",
		"C-a": "\x01", "C-b": "\x02", "C-c": "\x03", "C-d": "\x04", "C-e": "\x05", "C-f": "\x06", "C-g": "\x07", "C-h": "\x08",
		"C-j": "\x0a", "C-k": "\x0b", "C-l": "\x0c", "C-n": "\x0e", "C-o": "\x0f", "C-p": "\x10", "C-q": "\x11", "C-r": "\x12",
		"C-s": "\x13", "C-t": "\x14", "C-u": "\x15", "C-v": "\x16", "C-w": "\x17", "C-x": "\x18", "C-y": "\x19", "C-z": "\x1a",
		"C-4": "\x1c", "C-5": "\x1d", "C-6": "\x1e", "C-7": "\x1f",
	}
}

// letters are letter keys of each number of bytes, marks and wide ones among them.
func letters() []string {
	return []string{" ", "!", "?", "0", "9", ";", "[", "O", "A", "P", "~", "M", "a", "z", "\u00a0", "ä", "߿", "\u0301", "\u0800", "\u200b", "一", "\ufe0f", "\uffff", "\U00010000", "\U0001f600", "\U0010ffff"}
}

// told is what Decode answers.
type told struct {
	names []string
	left  string
}

func (a told) String() string { return fmt.Sprintf("%q, left %q", a.names, a.left) }

func decode(s string, final bool) told {
	names, left := Decode(s, final)
	return told{names, left}
}

func same(a, b told) bool { return a.left == b.left && slices.Equal(a.names, b.names) }

// expect holds Decode against the names, with a blank between, and the bytes that are left.
func expect(t *testing.T, s string, final bool, names, left string) {
	t.Helper()
	want := told{left: left}
	if names != "" {
		want.names = strings.Split(names, " ")
	}
	if got := decode(s, final); !same(got, want) {
		t.Errorf("Decode(%q, %v): %v, want %v", s, final, got, want)
	}
}

// both holds it so, whether or not the bytes are final.
func both(t *testing.T, s, names string) {
	t.Helper()
	expect(t, s, false, names, "")
	expect(t, s, true, names, "")
}

// waits holds it so: not final, all is left; final, these are the names.
func waits(t *testing.T, s, names string) {
	t.Helper()
	expect(t, s, false, "", s)
	expect(t, s, true, names, "")
}

// A model is the chapter's rules, read apart from the package: each takes some bytes, leaves all, or does not hold.
type model struct{ names, bytes []string }

func newModel() model {
	var m model
	for name, b := range table() {
		if name != "Esc" {
			m.names, m.bytes = append(m.names, name), append(m.bytes, b)
		}
	}
	return m
}

// one is the first key's name, and how many bytes are taken; "" and 0: they are left.
func (m model) one(s string, final bool) (string, int) {
	for i, b := range m.bytes {
		if strings.HasPrefix(s, b) {
			return m.names[i], len(b)
		}
		if strings.HasPrefix(b, s) && !final {
			return "", 0
		}
	}
	if strings.HasPrefix(s, "\x1b[") {
		behind := strings.TrimLeft(s[2:], "0123456789;")
		within := len(s) - 2 - len(behind)
		if within <= 8 && behind != "" {
			return "?", 2 + within + 1
		}
		if within <= 8 && !final {
			return "", 0
		}
	}
	if s[0] == 27 {
		r, n, why := utf.First(s[1:])
		if why == api.OK && utf.Width(r) >= 0 && r != '[' && r != 'O' {
			return "M-" + s[1:1+n], 1 + n
		}
		if why == api.ErrShort && !final {
			return "", 0
		}
		return "Esc", 1
	}
	r, n, why := utf.First(s)
	switch {
	case why == api.OK && utf.Width(r) >= 0:
		return s[:n], n
	case why == api.ErrShort && !final:
		return "", 0
	case why == api.ErrShort:
		return "?", 1
	}
	return "?", n
}

func (m model) decode(s string, final bool) told {
	var all told
	for s != "" {
		name, n := m.one(s, final)
		if n == 0 {
			break
		}
		all.names = append(all.names, name)
		s = s[n:]
	}
	all.left = s
	return all
}

func TestExample(t *testing.T) {
	both(t, "\x1b[A\x01x", "Up C-a x")
}

// P3.1: each named key, alone and among others.
func TestNamed(t *testing.T) {
	if len(table()) != 19+24+4 {
		t.Fatal(len(table()))
	}
	for name, b := range table() {
		if s, why := Bytes(name); s != b || why != api.OK {
			t.Errorf("Bytes(%q): %q %d, want %q", name, s, why, b)
		}
		if name == "Esc" {
			continue
		}
		both(t, b, name)
		both(t, b+b+"x", name+" "+name+" x")
		both(t, "ä"+b+"\x01", "ä "+name+" C-a")
		both(t, "\x1b"+b+"x", "Esc "+name+" x")
		for n := 1; n < len(b); n++ {
			expect(t, b[:n], false, "", b[:n])
			expect(t, "x"+b[:n], false, "x", b[:n])
		}
	}
}

// P3.1: each byte alone below 128, and C- with each letter.
func TestEachByte(t *testing.T) {
	for c := range 128 {
		s := string([]byte{byte(c)})
		got := decode(s, true)
		if len(got.names) != 1 || got.left != "" {
			t.Fatalf("Decode(%q): %v", s, got)
		}
		if b, why := Bytes(got.names[0]); b != s || why != api.OK {
			t.Errorf("Bytes(%q): %q %d, want %q", got.names[0], b, why, s)
		}
		want := table()["C-"+s]
		b, why := Bytes("C-" + s)
		if b != want || (why == api.OK) != (want != "") || why != api.OK && why != api.ErrArg {
			t.Errorf("Bytes(%q): %q %d, want %q", "C-"+s, b, why, want)
		}
	}
}

// P3.1: names of no key.
func TestBytesWrong(t *testing.T) {
	for _, name := range []string{
		"", "C-i", "C-m", "C-A", "C-Z", "C-3", "C-8", "C-[", "C-?", "C-", "C-aa", "C-space", "C-Enter", "C-ä", "c-a", " C-a", "C-a ",
		"up", "UP", "Up ", " Up", "UpUp", "Escape", "ESC", "esc", "F0", "F5", "F10", "f1", "Insert", "Delete", "PgDown", "Backspace", "Return", "Space",
		"M-", "M-[", "M-O", "M-Up", "M-Esc", "M-C-a", "M-M-a", "M-ab", "M-??", "m-a", "M a", "Ma", "M--M", "M-[A", "M-OP",
		"M-\x00", "M-\t", "M-\x1b", "M-\x1f", "M-\x7f", "M-\u0080", "M-\u009f", "M-\xc3", "M-\xff", "M-a\xff", "M-\xe4\xb8",
		"ab", "??", "aä", "äa", "a\u0301", "  ", "--",
		"\x00", "\x01", "\t", "\r", "\x1b", "\x1f", "\x7f", "\x1b[A", "\x1bOP", "\x1ba", "\u0080", "\u0085", "\u009f",
		"\x80", "\xc3", "\xe4\xb8", "\xf0\x9f\x98", "\xff", "\xc0\x80", "\xed\xa0\x80", "\xf4\x90\x80\x80", "a\xff", "\xffa",
	} {
		if s, why := Bytes(name); s != "" || why != api.ErrArg {
			t.Errorf("Bytes(%q): %q %d, want ErrArg", name, s, why)
		}
	}
}

// P3.1: each letter there is, alone and behind M-.
func TestEachLetter(t *testing.T) {
	for r := rune(128); r <= 1114111; r++ {
		if r >= 55296 && r <= 57343 {
			continue
		}
		s := string(r)
		name, behind := told{names: []string{s}}, told{names: []string{"M-" + s}}
		wantWhy := api.OK
		if r <= 159 {
			name, behind = told{names: []string{"?"}}, told{names: []string{"Esc", "?"}}
			wantWhy = api.ErrArg
		}
		if got := decode(s, r%2 == 0); !same(got, name) {
			t.Fatalf("Decode(%q): %v, want %v", s, got, name)
		}
		if got := decode("\x1b"+s, r%2 == 0); !same(got, behind) {
			t.Fatalf("Decode(%q): %v, want %v", "\x1b"+s, got, behind)
		}
		if b, why := Bytes(s); why != wantWhy || why == api.OK && b != s || why != api.OK && b != "" {
			t.Fatalf("Bytes(%q): %q %d", s, b, why)
		}
		if b, why := Bytes("M-" + s); why != wantWhy || why == api.OK && b != "\x1b"+s || why != api.OK && b != "" {
			t.Fatalf("Bytes(%q): %q %d", "M-"+s, b, why)
		}
	}
}

// P3.1: M- and a letter key below 128.
func TestMeta(t *testing.T) {
	for c := byte(32); c < 127; c++ {
		s := string([]byte{c})
		b, why := Bytes("M-" + s)
		if c == '[' || c == 'O' {
			if b != "" || why != api.ErrArg {
				t.Errorf("Bytes(%q): %q %d", "M-"+s, b, why)
			}
			waits(t, "\x1b"+s, "Esc "+s)
			continue
		}
		if b != "\x1b"+s || why != api.OK {
			t.Errorf("Bytes(%q): %q %d", "M-"+s, b, why)
		}
		for _, final := range []bool{false, true} {
			if got := decode(b, final); !same(got, told{names: []string{"M-" + s}}) {
				t.Errorf("Decode(%q): %v", b, got)
			}
		}
	}
	both(t, "\x1bäx\x1b一\x1bM\x1b-", "M-ä x M-一 M-M M--")
}

func TestQuestion(t *testing.T) {
	if s, why := Bytes("?"); s != "?" || why != api.OK {
		t.Errorf("%q %d", s, why)
	}
	if s, why := Bytes("M-?"); s != "\x1b?" || why != api.OK {
		t.Errorf("%q %d", s, why)
	}
	both(t, "?", "?")
	both(t, "\x1b?", "M-?")
	both(t, "\xff", "?")
	both(t, "?\xff?\u0085?", "? ? ? ? ?")
}

// P3.1: 27, and what it is a key with.
func TestEsc(t *testing.T) {
	waits(t, "\x1b", "Esc")
	waits(t, "\x1bO", "Esc O")
	waits(t, "\x1b[", "Esc [")
	expect(t, "\x1b\x1b", false, "Esc", "\x1b")
	expect(t, "\x1b\x1b", true, "Esc Esc", "")
	expect(t, "\x1b\x1b\x1b", false, "Esc Esc", "\x1b")
	both(t, "\x1b\x1b[A", "Esc Up")
	both(t, "\x1b\x1bOS", "Esc F4")
	both(t, "\x1b\x1ba", "Esc M-a")
	expect(t, "\x1b\x1b[", false, "Esc", "\x1b[")
	expect(t, "\x1b\x1b[", true, "Esc Esc [", "")
	both(t, "\x1bOx", "Esc O x")
	both(t, "\x1bOT", "Esc O T")
	both(t, "\x1bOA", "Esc O A")
	both(t, "\x1bOO", "Esc O O")
	both(t, "\x1bO\x1b[A", "Esc O Up")
	expect(t, "\x1bO\x1b", false, "Esc O", "\x1b")
	both(t, "\x1b\x00", "Esc C-Space")
	both(t, "\x1b\r", "Esc Enter")
	both(t, "\x1b\x7f", "Esc Bsp")
	both(t, "\x1b\x1c", "Esc C-4")
	both(t, "\x1b\u0080", "Esc ?")
	both(t, "\x1b\u009f", "Esc ?")
	both(t, "\x1b\u00a0", "M-\u00a0")
	both(t, "\x1b\xff", "Esc ?")
	both(t, "\x1b\xc3A", "Esc ? A")
	both(t, "\x1b\xe4\xb8A", "Esc ? A")
	both(t, "x\x1ba\x1b[Hb", "x M-a Home b")
}

// P3.1: 27 and [, with 0 to 12 digits and ; behind.
func TestSequences(t *testing.T) {
	for _, fill := range []string{"471111111111", ";;;;;;;;;;;;", "1;2;3;4;5;6;", "0;9;0;9;0;9;", "211111111111", "599999999999"} {
		for n := range len(fill) + 1 {
			s := "\x1b[" + fill[:n]
			apart := strings.Join(strings.Split("\x1b["+fill[:n], ""), " ")
			apart = strings.Replace(apart, "\x1b", "Esc", 1)
			if n <= 8 {
				waits(t, s, apart)
				expect(t, "\x01"+s, false, "C-a", s)
			} else {
				both(t, s, apart)
			}
			for b, name := range map[string]string{"x": "x", "~": "~", "m": "m", "/": "/", ":": ":", "<": "<", "[": "[", "\x00": "C-Space", "?": "?", "\xff": "?", "A": "A", "Z": "Z", " ": ""} {
				if b == " " || n == 0 && b == "A" || n == 1 && b == "~" && (fill[0] == '2' || fill[0] == '5') {
					continue
				}
				if n <= 8 {
					both(t, s+b, "?")
					both(t, s+b+"q", "? q")
					both(t, s+b+b, "? "+name)
				} else {
					both(t, s+b, apart+" "+name)
				}
			}
		}
	}
}

// P3.1: what comes near to named keys, but is none.
func TestNearNamed(t *testing.T) {
	for _, b := range []string{"E", "G", "I", "Z", "a", "h", "P", "Q", " ", "~", "@"} {
		both(t, "\x1b["+b, "?")
		both(t, "\x1b["+b+"~", "? ~")
	}
	for _, b := range []string{"0~", "1~", "4~", "7~", "8~", "9~", "22~", "2;5~", "3;~", ";3~", "2A", "2^", "3$", "5P", "1A", "1;5A", "15~", "24~", "200~", "33~"} {
		both(t, "\x1b["+b, "?")
	}
	waits(t, "\x1b[2", "Esc [ 2")
	waits(t, "\x1b[3", "Esc [ 3")
	waits(t, "\x1b[5", "Esc [ 5")
	waits(t, "\x1b[6", "Esc [ 6")
	waits(t, "\x1b[4", "Esc [ 4")
	waits(t, "\x1b[22", "Esc [ 2 2")
	both(t, "\x1b[[A", "? A")
	both(t, "\x1b[\x1b[A", "? [ A")
	expect(t, "\x1b[1\x1b", false, "?", "")
	both(t, "\x1b[\u00e4", "? ?") // its first byte is taken, and its second one begins no letter
	both(t, "\x1b[\xe4\xb8\x80x", "? ? ? x")
	both(t, "\x1b[1\x7f", "?")
	both(t, "\x1b[12345678~x", "? x")
	both(t, "\x1b[123456789~x", "Esc [ 1 2 3 4 5 6 7 8 9 ~ x")
	both(t, "\x1b[222222222~", "Esc [ 2 2 2 2 2 2 2 2 2 ~")
}

// P3.1: 128 to 159, bytes that are spoilt, and beginnings of letters' bytes.
func TestNoLetterKeys(t *testing.T) {
	for r := rune(128); r <= 159; r++ {
		both(t, string(r), "?")
		both(t, "a"+string(r)+"b", "a ? b")
		both(t, string(r)+string(r), "? ?")
	}
	for s, names := range map[string]string{
		"\x80": "?", "\xbf": "?", "\xc0": "?", "\xff": "?", "\x80\x80": "? ?", "\xc0\x80": "? ?",
		"\xc3A": "? A", "\xc3\xc3A": "? ? A", "\xe4A": "? A", "\xe4\xb8A": "? A", "\xf0\x9fA": "? A", "\xf0\x9f\x98A": "? A",
		"\xed\xa0\x80": "? ? ?", "\xf4\x90\x80\x80": "? ? ? ?", "\xe4\xb8\xe4\xb8\x80": "? 一", "\xe4\xb8\x1b[A": "? Up", "\xf0\x9f\x98\x00": "? C-Space",
	} {
		both(t, s, names)
		both(t, "x"+s+"y", "x "+names+" y")
	}
	for s, names := range map[string]string{"\xc3": "?", "\xe4": "?", "\xe4\xb8": "? ?", "\xf0": "?", "\xf0\x9f": "? ?", "\xf0\x9f\x98": "? ? ?", "\xf4\x8f\xbf": "? ? ?"} {
		waits(t, s, names)
		waits(t, "\x1b"+s, "Esc "+names)
		expect(t, "ä"+s, false, "ä", s)
		expect(t, "\x1b\x1b"+s, false, "Esc", "\x1b"+s)
		expect(t, "ä"+s, true, "ä "+names, "")
	}
}

func TestNothing(t *testing.T) { both(t, "", "") }

// each calls f with each text of up to n of the bytes.
func each(bytes string, n int, f func(string)) {
	var grow func(s string)
	grow = func(s string) {
		f(s)
		if len(s) < n {
			for i := range len(bytes) {
				grow(s + bytes[i:i+1])
			}
		}
	}
	grow("")
}

// check holds a text against the model, and its bytes against what is promised of all.
func (m model) check(t *testing.T, s string) {
	t.Helper()
	for _, final := range []bool{false, true} {
		got, want := decode(s, final), m.decode(s, final)
		if !same(got, want) {
			t.Fatalf("Decode(%q, %v): %v, want %v", s, final, got, want)
		}
		if final && got.left != "" || len(got.left) > 10 || !strings.HasSuffix(s, got.left) {
			t.Fatalf("Decode(%q, %v): %v", s, final, got)
		}
		for _, name := range got.names {
			if _, why := Bytes(name); why != api.OK {
				t.Fatalf("Decode(%q, %v): %v, and %q is no key's name", s, final, got, name)
			}
		}
	}
}

// P3.1: all short texts of the bytes next to which something changes.
func TestAll(t *testing.T) {
	m := newModel()
	each("\x00\x09\x1b[OAP23~1;:/?x\x7f\x80\x9f\xa0\xc2\xc3\xe4\xb8\xed\xf0\xff", 3, func(s string) { m.check(t, s) })
	each("\x1b[OAP2~;1\x7f\xc2\x85\xe4\xb8", 4, func(s string) { m.check(t, s) })
	each("\x1b[O2~;A", 6, func(s string) { m.check(t, s) })
	for a := range 256 {
		for b := range 256 {
			m.check(t, string([]byte{byte(a), byte(b)}))
			m.check(t, string([]byte{27, byte(a), byte(b)}))
			m.check(t, string([]byte{27, '[', byte(a), byte(b)}))
			m.check(t, string([]byte{27, 'O', byte(a), byte(b)}))
		}
	}
	each("2;~x\x1b", 4, func(s string) {
		for n := range 10 {
			m.check(t, "\x1b["+"123456789"[:n]+s)
		}
	})
}

// texts are many texts of bytes that belong together, always the same ones.
func texts(n int) []string {
	parts := letters()
	for _, b := range table() {
		parts = append(parts, b)
	}
	slices.Sort(parts)
	parts = append(parts, "\x1b", "\x1b", "\x1b[", "\x1b[1;5", "\x1b[12345678", "\x1b[123456789", "\x1bO", "\xc3", "\xe4\xb8", "\xf0\x9f\x98", "\xff", "\xc2\x85", "\x80", ";", "2", "~")
	step := uint32(1)
	pick := func(n int) int {
		step = step*1664525 + 1013904223
		return int(step>>8) % n
	}
	all := make([]string, n)
	for i := range all {
		for range pick(8) {
			all[i] += parts[pick(len(parts))]
		}
	}
	return all
}

func TestMany(t *testing.T) {
	m := newModel()
	for _, s := range texts(20000) {
		m.check(t, s)
	}
}

// pieces is what bytes come to that come in two parts, what is left ahead of the second one.
func pieces(a, b string, final bool) told {
	one := decode(a, false)
	two := decode(one.left+b, final)
	return told{append(slices.Clone(one.names), two.names...), two.left}
}

// P3.2: cut anywhere, in two, and byte by byte.
func TestCut(t *testing.T) {
	check := func(s string) {
		for _, final := range []bool{false, true} {
			want := decode(s, final)
			for n := range len(s) + 1 {
				if got := pieces(s[:n], s[n:], final); !same(got, want) {
					t.Fatalf("%q cut at %d, %v: %v, want %v", s, n, final, got, want)
				}
			}
			var bit told
			for i := range len(s) {
				got := decode(bit.left+s[i:i+1], false)
				bit = told{append(bit.names, got.names...), got.left}
			}
			got := decode(bit.left, final)
			if bit = (told{append(bit.names, got.names...), got.left}); !same(bit, want) {
				t.Fatalf("%q byte by byte, %v: %v, want %v", s, final, bit, want)
			}
		}
	}
	each("\x1b[OAP2~;1x\xc2\x85\xe4\xb8\xff\x00", 4, check)
	for _, s := range texts(5000) {
		check(s)
	}
	for n := range 11 {
		for _, behind := range []string{"", "x", "~x", "\x1b[A", "\xc3\xa4", "\x1b"} {
			check("a\x1b[" + ";234567890"[:n] + behind)
		}
	}
}

// P3.2: what is left is left again, and is no more than 10 bytes.
func TestLeft(t *testing.T) {
	longest := 0
	for _, s := range append(texts(5000), "\x1b[12345678", "\x1b\x1b[;;;;;;;;", "\x1b[123456789") {
		left := decode(s, false).left
		longest = max(longest, len(left))
		if got := decode(left, false); !same(got, told{left: left}) {
			t.Errorf("%q left %q, then %v", s, left, got)
		}
	}
	if longest != 10 {
		t.Errorf("at most %d bytes left, want 10", longest)
	}
}

// names are all named keys but Esc, and letter keys alone and behind M-.
func names() []string {
	var all []string
	for name := range table() {
		if name != "Esc" {
			all = append(all, name)
		}
	}
	for _, l := range letters() {
		all = append(all, l)
		if l != "[" && l != "O" {
			all = append(all, "M-"+l)
		}
	}
	slices.Sort(all)
	return all
}

// P3.2: keys' bytes, one behind the other.
func TestWrittenIsRead(t *testing.T) {
	check := func(names ...string) {
		s := ""
		for _, name := range names {
			b, why := Bytes(name)
			if why != api.OK {
				t.Fatalf("Bytes(%q): %d", name, why)
			}
			s += b
		}
		for _, final := range []bool{false, true} {
			if got := decode(s, final); !same(got, told{names: names}) {
				t.Fatalf("%q are %q, %v: %v", names, s, final, got)
			}
		}
	}
	all := names()
	for _, a := range all {
		for _, b := range all {
			check(a, b)
			for _, c := range []string{"[", "O", "A", "2", "~", "Up", "M-M", "Bsp"} {
				check(a, b, c)
			}
		}
	}
	check(all...)
}

// P1: a long text ends soon, and comes to what a short one does.
func TestLong(t *testing.T) {
	m := newModel()
	for _, part := range []string{"\x1b", "\x1b[", "a", "\x1b[A", "\x1bO", "\xff", "\xe4", "\x1b\xe4", "\x1b[12345678", "\x1b[123456789", "\u0085"} {
		m.check(t, strings.Repeat(part, 1000))
		long := strings.Repeat(part, 1<<18)
		if names, left := Decode(long, true); len(names) < 1<<17 || left != "" {
			t.Errorf("%q: %d names, left %q", part, len(names), left)
		}
		if s, why := Bytes(long); s != "" || why != api.ErrArg {
			t.Errorf("%q: %d bytes, %d", part, len(s), why)
		}
	}
}

// R1, R4: what was asked ahead, or is done with an answer, changes no other one.
func TestNothingKept(t *testing.T) {
	for range 3 {
		names, left := Decode("\x1b[Aäx\x1b", false)
		if !same(told{names, left}, told{[]string{"Up", "ä", "x"}, "\x1b"}) {
			t.Error(names, left)
		}
		clear(names)
		expect(t, "\x1b", true, "Esc", "")
		expect(t, "[A", true, "[ A", "")
		if s, why := Bytes("Up"); s != "\x1b[A" || why != api.OK {
			t.Error(s, why)
		}
		if s, why := Bytes("up"); s != "" || why != api.ErrArg {
			t.Error(s, why)
		}
	}
}

// The map is made once, though many ask at once.
func TestMadeOnce(t *testing.T) {
	var all sync.WaitGroup
	for range 8 {
		all.Go(func() {
			both(t, "\x1b[Ax", "Up x")
			if s, why := Bytes("F4"); s != "\x1bOS" || why != api.OK {
				t.Error(s, why)
			}
		})
	}
	all.Wait()
}

// The map holds the named keys, and what is worked out beside it is the same.
func TestMapAsWorkedOut(t *testing.T) {
	making.Do(makeMap)
	if len(byName) != len(table()) {
		t.Errorf("%d keys stand in the map, want %d", len(byName), len(table()))
	}
	for name, b := range table() {
		if k := byName[name]; k.name != name || k.bytes != b {
			t.Errorf("%q: %q in the map, want %q", name, k, b)
		}
		if s, why := bytesOf(name); s != b || why != api.OK {
			t.Errorf("%q: %q %d worked out, want %q", name, s, why, b)
		}
	}
}
