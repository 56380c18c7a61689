package parse

import (
	"fmt"
	"reflect"
	"slices"
	"strings"
	"testing"

	"backseat/api"
	"backseat/utf"
)

// What bytes do, in short.
func print(r rune) api.Do       { return api.Do{Kind: api.DPrint, Rune: r} }
func exec(code int) api.Do      { return api.Do{Kind: api.DExec, Code: code} }
func esc(inter, c int) api.Do   { return api.Do{Kind: api.DEsc, Inter: inter, Code: c} }
func osc(text string) api.Do    { return api.Do{Kind: api.DOsc, Text: text} }
func at(state int) api.Parser   { return api.Parser{State: state} }
func some(d ...api.Do) []api.Do { return d }

func csi(code int, params ...int) api.Do {
	return api.Do{Kind: api.DCsi, Params: params, Code: code}
}

func csiPrivate(by, code int, params ...int) api.Do {
	return api.Do{Kind: api.DCsi, Private: by, Params: params, Code: code}
}

func csiBetween(inter, code int, params ...int) api.Do {
	return api.Do{Kind: api.DCsi, Params: params, Inter: inter, Code: code}
}

func alike(a, b []api.Do) bool { return slices.EqualFunc(a, b, sameDo) }

// sameDo says what Like says, apart from the package.
func sameDo(a, b api.Do) bool { return one(a) == one(b) && slices.Equal(a.Params, b.Params) }

// one is all of a Do but its params, in a form that can be compared.
func one(d api.Do) [6]any { return [6]any{d.Kind, d.Rune, d.Code, d.Private, d.Inter, d.Text} }

func sameParser(a, b api.Parser) bool {
	return a.State == b.State && a.Private == b.Private && slices.Equal(a.Params, b.Params) && a.Inter == b.Inter && a.Osc == b.Osc && a.Pend == b.Pend
}

// feed checks what a parser is behind bytes, and what they do: in one part, and cut in two anywhere.
func feed(t *testing.T, from api.Parser, s string, to api.Parser, done ...api.Do) {
	t.Helper()
	got, list, why := Feed(from, s)
	if !sameParser(got, to) || !alike(list, done) || why != api.OK {
		t.Fatalf("Feed(%v, %q): %v %v %d, want %v %v", from, s, got, list, why, to, done)
	}
	for cut := range len(s) + 1 {
		first, head, e := Feed(from, s[:cut])
		last, tail, f := Feed(first, s[cut:])
		if all := append(slices.Clone(head), tail...); !sameParser(last, to) || !alike(all, done) || e != api.OK || f != api.OK {
			t.Fatalf("Feed(%v, %q) cut at %d: %v %v, want %v %v", from, s, cut, last, all, to, done)
		}
	}
}

// ground checks bytes from a new parser, that come to an end.
func ground(t *testing.T, s string, done ...api.Do) {
	t.Helper()
	feed(t, api.Parser{}, s, api.Parser{}, done...)
}

// rule is what a state does with the bytes of a range, as the chapter tells it.
type rule struct {
	state, from, to int
	does            string
}

// rules are the chapter's, but for 24, 26 and 27.
func rules() []rule {
	all := []rule{
		{api.SGround, 32, 126, "print"}, {api.SGround, 127, 127, ""}, {api.SGround, 128, 255, "pend"},
		{api.SEscape, 32, 47, "inter"}, {api.SEscape, 127, 127, ""}, {api.SEscape, 128, 255, "ground"},
		{api.SEscape, 48, 79, "esc"}, {api.SEscape, 'P', 'P', "string"}, {api.SEscape, 'Q', 'W', "esc"}, {api.SEscape, 'X', 'X', "string"},
		{api.SEscape, 'Y', 'Z', "esc"}, {api.SEscape, '[', '[', "csi"}, {api.SEscape, '\\', '\\', "esc"}, {api.SEscape, ']', ']', "osc"},
		{api.SEscape, '^', '_', "string"}, {api.SEscape, 96, 126, "esc"},
		{api.SInter, 32, 47, "drop"}, {api.SInter, 48, 126, "esc"}, {api.SInter, 127, 127, ""}, {api.SInter, 128, 255, "ground"},
		{api.SDrop, 32, 47, ""}, {api.SDrop, 48, 126, "ground"}, {api.SDrop, 127, 127, ""}, {api.SDrop, 128, 255, "ground"},
		{api.SCsi, 32, 47, "behind"}, {api.SCsi, 48, 57, "digit"}, {api.SCsi, 58, 58, "skip"}, {api.SCsi, 59, 59, "next"}, {api.SCsi, 60, 63, "private"},
		{api.SCsi, 64, 126, "done"}, {api.SCsi, 127, 127, ""}, {api.SCsi, 128, 255, "skip"},
		{api.SBehind, 32, 63, "skip"}, {api.SBehind, 64, 126, "done"}, {api.SBehind, 127, 127, ""}, {api.SBehind, 128, 255, "skip"},
		{api.SSkip, 32, 63, ""}, {api.SSkip, 64, 126, "ground"}, {api.SSkip, 127, 255, ""},
		{api.SOsc, 0, 6, ""}, {api.SOsc, 7, 7, "told"}, {api.SOsc, 8, 31, ""}, {api.SOsc, 32, 255, "put"},
		{api.SString, 0, 255, ""},
	}
	for _, state := range []int{api.SGround, api.SEscape, api.SInter, api.SCsi, api.SBehind, api.SSkip, api.SDrop} {
		all = append(all, rule{state, 0, 31, "exec"})
	}
	return all
}

// ruleOf is what a state does with each byte; a byte with no rule, or with two, is a fault of this table.
func ruleOf(t testing.TB) (does [9][256]string) {
	var count [9][256]int
	for _, r := range rules() {
		for b := r.from; b <= r.to; b++ {
			does[r.state][b] = r.does
			count[r.state][b]++
		}
	}
	for state, row := range count {
		for b, n := range row {
			if n != 1 {
				t.Fatalf("state %d, byte %d: %d rules", state, b, n)
			}
		}
	}
	return does
}

// wantFeed is what Feed is to answer, read apart from the package.
func wantFeed(does *[9][256]string, p api.Parser, s string) (api.Parser, []api.Do) {
	var done []api.Do
	for i := range len(s) {
		var more []api.Do
		p, more = wantByte(does, p, s[i])
		done = append(done, more...)
	}
	return p, done
}

func wantByte(does *[9][256]string, p api.Parser, b byte) (api.Parser, []api.Do) {
	told := p.State == api.SOsc
	switch {
	case p.Pend != "":
		return wantPend(does, p.Pend+string([]byte{b}))
	case b == 27 && told:
		return at(api.SEscape), some(osc(p.Osc))
	case b == 27:
		return at(api.SEscape), nil
	case (b == 24 || b == 26) && (told || p.State == api.SString):
		return api.Parser{}, nil
	case b == 24 || b == 26:
		return api.Parser{}, some(exec(int(b)))
	}
	return wantRule(does, p, b)
}

func wantPend(does *[9][256]string, pend string) (api.Parser, []api.Do) {
	r, n, why := utf.First(pend)
	switch {
	case why == api.ErrShort:
		return api.Parser{Pend: pend}, nil
	case why == api.OK && r < 160:
		return api.Parser{}, nil
	case why == api.OK:
		return api.Parser{}, some(print(r))
	}
	p, done := wantFeed(does, api.Parser{}, pend[n:])
	return p, append(some(print(0xfffd)), done...)
}

func wantRule(does *[9][256]string, p api.Parser, b byte) (api.Parser, []api.Do) {
	code := int(b)
	if len(p.Params) == 0 && (does[p.State][b] == "digit" || does[p.State][b] == "next") {
		p.Params = []int{0}
	}
	n := len(p.Params) - 1
	p.Params = slices.Clone(p.Params)
	switch does[p.State][b] {
	case "print":
		return p, some(print(rune(b)))
	case "exec":
		return p, some(exec(code))
	case "pend":
		return wantPend(does, string([]byte{b}))
	case "ground":
		return api.Parser{}, nil
	case "esc":
		return api.Parser{}, some(esc(p.Inter, code))
	case "done":
		return api.Parser{}, some(api.Do{Kind: api.DCsi, Private: p.Private, Params: p.Params, Inter: p.Inter, Code: code})
	case "told":
		return api.Parser{}, some(osc(p.Osc))
	case "inter":
		return api.Parser{State: api.SInter, Inter: code}, nil
	case "csi":
		return at(api.SCsi), nil
	case "osc":
		return at(api.SOsc), nil
	case "string":
		return at(api.SString), nil
	case "drop":
		return at(api.SDrop), nil
	case "digit":
		p.Params[n] = p.Params[n]*10 + code - 48
		if p.Params[n] > 9999 {
			p.Params[n] = 9999
		}
	case "next":
		if n == 15 {
			return at(api.SSkip), nil
		}
		p.Params = append(p.Params, 0)
	case "private":
		if p.Private != 0 || n >= 0 {
			return at(api.SSkip), nil
		}
		p.Private = code
	case "behind":
		p.State, p.Inter = api.SBehind, code
	case "skip":
		return at(api.SSkip), nil
	case "put":
		if len(p.Osc) < 64 {
			p.Osc += string([]byte{b})
		}
	}
	return p, nil
}

// row is a list of so many params.
func row(n int) []int {
	list := make([]int, n)
	for i := range list {
		list[i] = i * 777 % 10000
	}
	return list
}

// parsers are such as may be: of each state, with what it may have at its edges.
func parsers() []api.Parser {
	all := []api.Parser{{}, at(api.SEscape), at(api.SSkip), at(api.SString), at(api.SDrop)}
	for _, pend := range []string{"\xc2", "\xdf", "\xe0", "\xe0\xa0", "\xe4\xb8", "\xed\x9f", "\xef\xbf", "\xf0\x90", "\xf0\x90\x80", "\xf4\x8f\xbf"} {
		all = append(all, api.Parser{Pend: pend})
	}
	for _, inter := range []int{32, 33, 46, 47} {
		all = append(all, api.Parser{State: api.SInter, Inter: inter})
		for _, by := range []int{0, 60, 63} {
			for _, list := range [][]int{nil, {}, {0}, {9999}, {7, 0, 9999}, row(15), row(16)} {
				all = append(all, api.Parser{State: api.SCsi, Private: by, Params: list}, api.Parser{State: api.SBehind, Private: by, Params: list, Inter: inter})
			}
		}
	}
	for _, n := range []int{0, 1, 63, 64} {
		all = append(all, api.Parser{State: api.SOsc, Osc: strings.Repeat("\xffo\x00 "[:1+n%3], n)[:n]})
	}
	return all
}

// edges are bytes next to where something changes.
func edges() []byte {
	return []byte{0, 6, 7, 8, 23, 24, 25, 26, 27, 28, 31, 32, 33, 46, 47, 48, 57, 58, 59, 60, 63, 64, 'A', 'O', 'P', 'Q', 'W', 'X', 'Y', 'Z', '[', '\\', ']', '^', '_', '`', 125, 126, 127, 128, 159, 160, 191, 194, 228, 255}
}

// wrongs are parsers that may not be, by each field in each state.
func wrongs() []api.Parser {
	var all []api.Parser
	for _, state := range []int{-1 << 63, -1, 9, 10, 255, 256, 1<<63 - 1} {
		all = append(all, at(state), api.Parser{State: state, Params: []int{1}})
	}
	for _, p := range parsers() {
		kind := "." + fmt.Sprint(p.State) + "."
		wrong := func(states string, change func(p *api.Parser)) {
			if strings.Contains(states, kind) {
				q := p
				change(&q)
				all = append(all, q)
			}
		}
		for _, n := range []int{-1 << 63, -60, -1, 1, 10, 32, 47, 48, 59, 64, 65, 1<<63 - 1} {
			wrong(".0.1.2.3.4.5.6.7.8.", func(p *api.Parser) { p.Private = n })
		}
		for _, n := range []int{60, 61, 62, 63} {
			wrong(".0.1.2.5.6.7.8.", func(p *api.Parser) { p.Private = n })
		}
		for _, list := range [][]int{{0}, {9999}, {1, 2}} {
			wrong(".0.1.2.5.6.7.8.", func(p *api.Parser) { p.Params = list })
		}
		for _, list := range [][]int{{-1}, {10000}, {3, -1, 3}, {3, 10000}, {-1 << 63}, {1<<63 - 1, 0}, row(17), row(1000), append(row(15), -1), append(row(15), 10000)} {
			wrong(".0.1.2.3.4.5.6.7.8.", func(p *api.Parser) { p.Params = list })
		}
		for _, n := range []int{-1 << 63, -32, -1, 1, 31, 48, 49, 64, 1<<63 - 1} {
			wrong(".0.1.2.3.4.5.6.7.8.", func(p *api.Parser) { p.Inter = n })
		}
		for _, n := range []int{32, 39, 47} {
			wrong(".0.1.3.5.6.7.8.", func(p *api.Parser) { p.Inter = n })
		}
		wrong(".2.4.", func(p *api.Parser) { p.Inter = 0 })
		for _, s := range []string{"a", "\x00", strings.Repeat("a", 64)} {
			wrong(".0.1.2.3.4.5.7.8.", func(p *api.Parser) { p.Osc = s })
		}
		for _, n := range []int{65, 66, 1000} {
			wrong(".0.1.2.3.4.5.6.7.8.", func(p *api.Parser) { p.Osc = strings.Repeat("a", n) })
		}
		for _, s := range []string{"\xc3", "\xe4\xb8", "\xf0\x9f\x98"} {
			wrong(".1.2.3.4.5.6.7.8.", func(p *api.Parser) { p.Pend = s })
		}
		for _, s := range []string{"a", "\x00", "\x1b", "\x80", "\xff", "\xc0", "\xed\xa0", "\xc3A", "\xc3\xa4", "\xe4\xb8\x80", "\xe4\xb8A", "\xf0\x9f\x98\x80", "a\xc3", "\xc3\xc3", "\xf4\x90"} {
			wrong(".0.1.2.3.4.5.6.7.8.", func(p *api.Parser) { p.Pend = s })
		}
	}
	return all
}

// P5.1: parsers that may be.
func TestRight(t *testing.T) {
	for _, p := range parsers() {
		if !Right(p) {
			t.Errorf("Right(%v): false", p)
		}
	}
	for _, by := range []int{0, 60, 61, 62, 63} {
		for inter := 32; inter < 48; inter++ {
			for _, p := range []api.Parser{{State: api.SCsi, Private: by}, {State: api.SBehind, Private: by, Inter: inter}, {State: api.SInter, Inter: inter}} {
				if !Right(p) {
					t.Errorf("Right(%v): false", p)
				}
			}
		}
	}
}

// P5.1: parsers that may not be.
func TestWrong(t *testing.T) {
	for _, p := range wrongs() {
		if Right(p) {
			t.Errorf("Right(%v): true", p)
		}
		for _, s := range []string{"", "a", "\x18", "\x1b[0m", "\xc3\xa4"} {
			if got, done, why := Feed(p, s); !reflect.DeepEqual(got, api.Parser{}) || len(done) != 0 || why != api.ErrArg {
				t.Errorf("Feed(%v, %q): %v %v %d", p, s, got, done, why)
			}
		}
	}
}

// P5.1: each field makes a difference.
func TestLike(t *testing.T) {
	all := []api.Do{
		{}, print('a'), print('b'), print(-1), {Kind: api.DExec, Rune: 'a'}, exec(7), exec(8), {Kind: -3}, {Kind: 99},
		{Code: 7}, {Private: 60}, {Private: 63}, {Params: []int{0}}, {Params: []int{1}}, {Params: []int{0, 0}}, {Params: []int{1, 2, 3}}, {Params: []int{1, 2, 4}}, {Params: []int{2, 1, 3}},
		{Inter: 32}, {Inter: 33}, {Text: "a"}, {Text: "b"}, {Text: "ab"}, {Text: "\x00"},
		esc(0, 'A'), esc(32, 'A'), csi('A'), csi('A', 0), csi('A', 0, 0), csiPrivate(60, 'A', 1), csiPrivate(63, 'A', 1), csiBetween(32, 'A', 1), osc(""), osc("a"),
		{Kind: api.DCsi, Rune: 1, Code: 2, Private: 60, Params: []int{4, 5}, Inter: 33, Text: "t"},
	}
	for i, a := range all {
		for j, b := range all {
			b.Params = slices.Clone(b.Params)
			if Like(a, b) != (i == j) {
				t.Errorf("Like(%v, %v): %v", a, b, i != j)
			}
		}
	}
	if !Like(csi('A'), csi('A', []int{}...)) || !Like(api.Do{Params: []int{}}, api.Do{}) {
		t.Error("no params are no params")
	}
}

// P5.1: what the chapter's example says, and what else is common.
func TestOrdinary(t *testing.T) {
	ground(t, "\x1b[1;31mA", csi('m', 1, 31), print('A'))
	ground(t, "")
	ground(t, "ab\r\n", print('a'), print('b'), exec(13), exec(10))
	ground(t, "\x1b7\x1bM\x1b(B\x1b#8\x1b\\", esc(0, '7'), esc(0, 'M'), esc('(', 'B'), esc('#', '8'), esc(0, '\\'))
	ground(t, "\x1b[H\x1b[2J\x1b[10;20H", csi('H'), csi('J', 2), csi('H', 10, 20))
	ground(t, "\x1b[?25l\x1b[?1;7h\x1b[>c\x1b[=1c\x1b[<m", csiPrivate('?', 'l', 25), csiPrivate('?', 'h', 1, 7), csiPrivate('>', 'c'), csiPrivate('=', 'c', 1), csiPrivate('<', 'm'))
	ground(t, "\x1b[2 q\x1b[!p\x1b[?1$p", csiBetween(' ', 'q', 2), csiBetween('!', 'p'), api.Do{Kind: api.DCsi, Private: '?', Params: []int{1}, Inter: '$', Code: 'p'})
	ground(t, "\x1b]0;title\x07\x1b]2;t\x1b\\", osc("0;title"), osc("2;t"), esc(0, '\\'))
	ground(t, "a\x7fb", print('a'), print('b'))
	ground(t, "ä一😀", print('ä'), print('一'), print('😀'))
	ground(t, "e\u0301", print('e'), print(0x301))
}

// P5.1: each parser that may be, and each byte; and behind it, each byte next to where something changes.
func TestEachByte(t *testing.T) {
	does := ruleOf(t)
	behind := []string{""}
	for _, b := range edges() {
		behind = append(behind, string([]byte{b}))
	}
	for _, p := range parsers() {
		for b := range 256 {
			for _, more := range behind {
				s := string([]byte{byte(b)}) + more
				to, done := wantFeed(&does, p, s)
				got, list, why := Feed(p, s)
				if !sameParser(got, to) || !alike(list, done) || why != api.OK || !Right(got) {
					t.Fatalf("Feed(%v, %q): %v %v %d, want %v %v", p, s, got, list, why, to, done)
				}
			}
		}
	}
}

// texts calls f with all texts of n of the pieces.
func texts(pieces []string, n int, f func(string)) {
	var grow func(s string, left int)
	grow = func(s string, left int) {
		if left == 0 {
			f(s)
			return
		}
		for _, piece := range pieces {
			grow(s+piece, left-1)
		}
	}
	grow("", n)
}

// P5.1 and P5.2: all short texts of bytes that differ in what they do, also cut in two anywhere.
func TestAllTexts(t *testing.T) {
	does := ruleOf(t)
	check := func(s string) {
		to, done := wantFeed(&does, api.Parser{}, s)
		feed(t, api.Parser{}, s, to, done...)
	}
	texts([]string{"\x1b", "[", "]", "P", "a", " ", "0", ";", "?", ":", "\x07", "\x18", "\x7f", "\xc3", "\xa4"}, 4, check)
	texts([]string{"\x1b", "[", "1", ";", "m", "#", "\x1a", "\xe4", "\xb8"}, 5, check)
	texts([]string{"\x1b[", "9", ";;;;;;;;", "?", "\"", "@", "\n"}, 4, check)
	texts([]string{"\x1b]", strings.Repeat("o", 62), "p", "\xff", "\x07", "\x1b", "\x18"}, 3, check)
	texts([]string{"\xc2", "\x80", "\xf0", "\x9f", "\x98", "\xed", "\xa0", "A", "\x1b", "\x1a"}, 4, check)
}

// P5.1: what each state does with bytes next to where something changes, told one by one.
func TestStates(t *testing.T) {
	feed(t, at(api.SGround), "\x07\x18\x1a\x1f\x20\x2f\x30\x7e\x7f", api.Parser{}, exec(7), exec(24), exec(26), exec(31), print(32), print('/'), print('0'), print('~'))
	feed(t, at(api.SEscape), "\x07\x1f\x7f\x7e", api.Parser{}, exec(7), exec(31), esc(0, '~'))
	for _, c := range []struct {
		from, to int
		bytes    string
		done     []api.Do
	}{
		{api.SEscape, api.SGround, "\x18", some(exec(24))}, {api.SEscape, api.SGround, "\x1a", some(exec(26))}, {api.SEscape, api.SEscape, "\x1b", nil},
		{api.SEscape, api.SGround, "0", some(esc(0, '0'))}, {api.SEscape, api.SGround, "9", some(esc(0, '9'))}, {api.SEscape, api.SGround, ":", some(esc(0, ':'))},
		{api.SEscape, api.SGround, "?", some(esc(0, '?'))}, {api.SEscape, api.SGround, "@", some(esc(0, '@'))}, {api.SEscape, api.SGround, "\x80", nil},
		{api.SEscape, api.SCsi, "[", nil}, {api.SEscape, api.SOsc, "]", nil}, {api.SEscape, api.SString, "P", nil}, {api.SEscape, api.SString, "X", nil},
		{api.SEscape, api.SString, "^", nil}, {api.SEscape, api.SString, "_", nil}, {api.SEscape, api.SGround, "p", some(esc(0, 'p'))}, {api.SEscape, api.SGround, "x", some(esc(0, 'x'))},
		{api.SDrop, api.SDrop, "\x1f\x20\x2f\x7f", some(exec(31))}, {api.SDrop, api.SGround, "0", nil}, {api.SDrop, api.SGround, "~", nil}, {api.SDrop, api.SGround, "\x80", nil}, {api.SDrop, api.SEscape, "\x1b", nil},
		{api.SDrop, api.SGround, "\x18", some(exec(24))},
		{api.SSkip, api.SSkip, "\x1f\x20/09:;<?\x7f\x80\xff", some(exec(31))}, {api.SSkip, api.SGround, "@", nil}, {api.SSkip, api.SGround, "~", nil}, {api.SSkip, api.SGround, "\x1a", some(exec(26))}, {api.SSkip, api.SEscape, "\x1b", nil},
		{api.SCsi, api.SSkip, ":", nil}, {api.SCsi, api.SSkip, "\x80", nil}, {api.SCsi, api.SCsi, "\x7f\x1f", some(exec(31))}, {api.SCsi, api.SGround, "\x18", some(exec(24))}, {api.SCsi, api.SEscape, "\x1b", nil},
		{api.SString, api.SString, "\x07\x00\x1f abc[]\x7f\x80\xff0;~", nil}, {api.SString, api.SGround, "\x18", nil}, {api.SString, api.SGround, "\x1a", nil}, {api.SString, api.SEscape, "\x1b", nil},
	} {
		feed(t, at(c.from), c.bytes, at(c.to), c.done...)
	}
	inter := api.Parser{State: api.SInter, Inter: '('}
	feed(t, inter, "\x07\x1f\x7f", inter, exec(7), exec(31))
	feed(t, inter, "/", at(api.SDrop))
	feed(t, inter, " ", at(api.SDrop))
	feed(t, inter, "0", api.Parser{}, esc('(', '0'))
	feed(t, inter, "[", api.Parser{}, esc('(', '['))
	feed(t, inter, "~", api.Parser{}, esc('(', '~'))
	feed(t, inter, "\x80", api.Parser{})
	feed(t, inter, "\x1a", api.Parser{}, exec(26))
	behind := api.Parser{State: api.SBehind, Private: 60, Params: []int{3, 4}, Inter: '!'}
	feed(t, behind, "\x07\x1f\x7f", behind, exec(7), exec(31))
	feed(t, behind, "@", api.Parser{}, api.Do{Kind: api.DCsi, Private: 60, Params: []int{3, 4}, Inter: '!', Code: '@'})
	feed(t, behind, "~", api.Parser{}, api.Do{Kind: api.DCsi, Private: 60, Params: []int{3, 4}, Inter: '!', Code: '~'})
	feed(t, behind, "\x18", api.Parser{}, exec(24))
	feed(t, behind, "\x1b", at(api.SEscape))
	for _, s := range []string{" ", "/", "0", "9", ":", ";", "<", "?", "\x80", "\xff"} {
		feed(t, behind, s, at(api.SSkip))
	}
}

// P5.1: params: none, empty ones, as many as there may be, one too many, and great numbers.
func TestParams(t *testing.T) {
	ground(t, "\x1b[A", csi('A'))
	ground(t, "\x1b[0A", csi('A', 0))
	ground(t, "\x1b[;A", csi('A', 0, 0))
	ground(t, "\x1b[;5A", csi('A', 0, 5))
	ground(t, "\x1b[5;A", csi('A', 5, 0))
	ground(t, "\x1b[;;A", csi('A', 0, 0, 0))
	ground(t, "\x1b[007A", csi('A', 7))
	for s, n := range map[string]int{"9998": 9998, "9999": 9999, "10000": 9999, "99990": 9999, "12345": 9999, "999999999999999999999999999999999999": 9999, "00009999": 9999} {
		ground(t, "\x1b["+s+"A", csi('A', n))
		ground(t, "\x1b[1;"+s+";2A", csi('A', 1, n, 2))
	}
	ground(t, "\x1b["+strings.Repeat("8", 1<<10)+"A", csi('A', 9999))
	ground(t, "\x1b["+strings.Repeat(";", 14)+"3A", csi('A', append(make([]int, 14), 3)...))
	ground(t, "\x1b["+strings.Repeat(";", 15)+"3A", csi('A', append(make([]int, 15), 3)...))
	ground(t, "\x1b["+strings.Repeat("7;", 15)+"3A", csi('A', 7, 7, 7, 7, 7, 7, 7, 7, 7, 7, 7, 7, 7, 7, 7, 3))
	ground(t, "\x1b["+strings.Repeat(";", 16)+"3Ab", print('b'))
	ground(t, "\x1b["+strings.Repeat("7;", 16)+"Ab", print('b'))
	feed(t, api.Parser{}, "\x1b["+strings.Repeat(";", 16), at(api.SSkip))
	feed(t, api.Parser{}, "\x1b["+strings.Repeat(";", 15), api.Parser{State: api.SCsi, Params: make([]int, 16)})
	feed(t, api.Parser{State: api.SCsi, Params: row(16)}, "9", api.Parser{State: api.SCsi, Params: append(row(15), 9999)})
	feed(t, api.Parser{State: api.SCsi, Params: row(15)}, ";", api.Parser{State: api.SCsi, Params: append(row(15), 0)})
	feed(t, api.Parser{State: api.SCsi, Params: row(16)}, ";", at(api.SSkip))
}

// P5.1: private ones: given twice, behind a digit, behind a ;.
func TestPrivate(t *testing.T) {
	for by := 60; by < 64; by++ {
		b := string([]byte{byte(by)})
		feed(t, api.Parser{}, "\x1b["+b, api.Parser{State: api.SCsi, Private: by})
		ground(t, "\x1b["+b+"A", csiPrivate(by, 'A'))
		ground(t, "\x1b["+b+";3A", csiPrivate(by, 'A', 0, 3))
		ground(t, "\x1b["+b+" A", api.Do{Kind: api.DCsi, Private: by, Inter: 32, Code: 'A'})
		for _, ahead := range []string{"<", "=", ">", "?", "0", "1", ";", " ", "/", ":"} {
			feed(t, api.Parser{}, "\x1b["+ahead+b, at(api.SSkip))
			ground(t, "\x1b["+ahead+b+"1Ax", print('x'))
		}
		feed(t, api.Parser{}, "\x1b["+b+"5"+b, at(api.SSkip))
	}
}

// P5.1: what is left out, up to its end.
func TestLeftOut(t *testing.T) {
	for _, head := range []string{"\x1b[:", "\x1b[ 0", "\x1b[??", "\x1b[\xff"} {
		ground(t, head+"12;? :\n\x7f\xc3\xa4Ab", exec(10), print('b'))
		ground(t, head+"\x18b", exec(24), print('b'))
		ground(t, head+"\x1bcb", esc(0, 'c'), print('b'))
	}
	for _, head := range []string{"\x1b##", "\x1b( #"} {
		ground(t, head+" /\n\x7f0b", exec(10), print('b'))
		ground(t, head+"\xc3b", print('b'))
		ground(t, head+"\x1bcb", esc(0, 'c'), print('b'))
	}
	for _, head := range []string{"\x1bP", "\x1bX", "\x1b^", "\x1b_"} {
		inside := "1;2 q\x07\n[m]\x7f\xc3\xa4" + strings.Repeat("z", 100)
		ground(t, head+inside+"\x1b\\b", esc(0, '\\'), print('b'))
		ground(t, head+inside+"\x18b", print('b'))
		ground(t, head+inside+"\x1ab", print('b'))
		feed(t, api.Parser{}, head+inside, at(api.SString))
	}
}

// P5.1: titles, as long as they may be, and longer, by each of their ends.
func TestOsc(t *testing.T) {
	for _, n := range []int{0, 1, 62, 63, 64, 65, 66, 200} {
		text := strings.Repeat("abcdefg", 30)[:n]
		told := text[:min(n, 64)]
		feed(t, api.Parser{}, "\x1b]"+text, api.Parser{State: api.SOsc, Osc: told})
		ground(t, "\x1b]"+text+"\x07b", osc(told), print('b'))
		ground(t, "\x1b]"+text+"\x1b\\b", osc(told), esc(0, '\\'), print('b'))
		ground(t, "\x1b]"+text+"\x1b[mb", osc(told), csi('m'), print('b'))
		ground(t, "\x1b]"+text+"\x18b", print('b'))
		ground(t, "\x1b]"+text+"\x1ab", print('b'))
	}
	ground(t, "\x1b]\x00a\x06b\x08c\x0d\x1f\x7f \xc3\xa4\x80\xff[;\x07", osc("abc\x7f \xc3\xa4\x80\xff[;"))
	ground(t, "\x1b]a\x1b]b\x07", osc("a"), osc("b"))
	full := strings.Repeat("x", 63)
	ground(t, "\x1b]"+full+"\xc3\xa4\x07", osc(full+"\xc3"))
}

// P5.1: letters cut anywhere, and spoilt ones, with what is left behind them.
func TestLetters(t *testing.T) {
	feed(t, api.Parser{}, "\xf0\x9f\x98", api.Parser{Pend: "\xf0\x9f\x98"})
	feed(t, api.Parser{Pend: "\xf0\x9f\x98"}, "\x80", api.Parser{}, print('😀'))
	for _, pend := range []string{"\xc3", "\xe4", "\xe4\xb8", "\xf0\x9f", "\xf0\x9f\x98"} {
		p := api.Parser{Pend: pend}
		feed(t, p, "", p)
		feed(t, p, "A", api.Parser{}, print(0xfffd), print('A'))
		feed(t, p, "\x0a", api.Parser{}, print(0xfffd), exec(10))
		feed(t, p, "\x18", api.Parser{}, print(0xfffd), exec(24))
		feed(t, p, "\x1a", api.Parser{}, print(0xfffd), exec(26))
		feed(t, p, "\x7f", api.Parser{}, print(0xfffd))
		feed(t, p, "\x1b", at(api.SEscape), print(0xfffd))
		feed(t, p, "\x1b[m", api.Parser{}, print(0xfffd), csi('m'))
		feed(t, p, "\xc3", api.Parser{Pend: "\xc3"}, print(0xfffd))
		feed(t, p, "\xff", api.Parser{}, print(0xfffd), print(0xfffd))
		feed(t, p, "\xc3\xa4", api.Parser{}, print(0xfffd), print('ä'))
		feed(t, p, pend+pend, p, print(0xfffd), print(0xfffd))
	}
	for _, b := range []string{"\x80", "\xbf", "\xc0", "\xc1", "\xf5", "\xff"} {
		ground(t, b, print(0xfffd))
		ground(t, b+b+"a", print(0xfffd), print(0xfffd), print('a'))
	}
	ground(t, "\xed\xa0\x80", print(0xfffd), print(0xfffd), print(0xfffd))
	ground(t, "\xf0\x9f\x98\xf0\x9f\x98\x80", print(0xfffd), print('😀'))
	ground(t, "\xe0\x80\x80", print(0xfffd), print(0xfffd), print(0xfffd))
}

// P5.1: controls above 127 are not printed; bytes of them are none by themselves.
func TestHighControls(t *testing.T) {
	for r := rune(128); r < 160; r++ {
		ground(t, "a"+string(r)+"b", print('a'), print('b'))
		ground(t, string([]byte{byte(r)})+"31mA", print(0xfffd), print('3'), print('1'), print('m'), print('A'))
	}
	ground(t, "\u00a0", print(160))
}

// P5.2: a text of letters that are no controls is printed, letter by letter.
func TestEachLetter(t *testing.T) {
	var text strings.Builder
	var done []api.Do
	for r := rune(0); r <= 0x10ffff; r++ {
		if utf.Width(r) >= 0 {
			text.WriteRune(r)
			done = append(done, print(r))
		}
	}
	p, list, why := Feed(api.Parser{}, text.String())
	if !sameParser(p, api.Parser{}) || len(list) != len(done) || why != api.OK {
		t.Fatalf("%v, %d of %d, %d", p, len(list), len(done), why)
	}
	for i, d := range list {
		if !Like(d, done[i]) {
			t.Fatalf("%v, want %v", d, done[i])
		}
	}
}

// mixed is a long text of all that there is, the same each time.
func mixed(n int) string {
	pieces := []string{"\x1b", "\x1b[", "\x1b]", "\x1bP", "1", ";", "?", " ", "m", "a", "\x07", "\x18", "ä", "\xe4\xb8", "\xff", ":", "\x7f", strings.Repeat("z", 40), strings.Repeat("7;", 9), "\x1b\\", "😀", "\x85", "\u0085", "\n"}
	var text strings.Builder
	for x := uint32(7); text.Len() < n; {
		x = x*1664525 + 1013904223
		text.WriteString(pieces[x>>16%uint32(len(pieces))])
	}
	return text.String()
}

// P5.2: bytes in two parts, and one by one; what may be stays such.
func TestParts(t *testing.T) {
	does := ruleOf(t)
	s := mixed(3000)
	for _, from := range parsers() {
		to, done := wantFeed(&does, from, s)
		p := from
		var list []api.Do
		for i := range len(s) {
			var more []api.Do
			var why api.Errno
			p, more, why = Feed(p, s[i:i+1])
			list = append(list, more...)
			if why != api.OK || !Right(p) || len(p.Params) > 16 || len(p.Osc) > 64 || len(p.Pend) > 3 {
				t.Fatalf("behind %q: %v %d", s[:i+1], p, why)
			}
		}
		whole, all, why := Feed(from, s)
		if !sameParser(p, to) || !alike(list, done) || !sameParser(whole, to) || !alike(all, done) || why != api.OK {
			t.Fatalf("from %v: %v and %v, want %v", from, p, whole, to)
		}
	}
	feed(t, api.Parser{}, s[:800], first(Feed(api.Parser{}, s[:800])), second(Feed(api.Parser{}, s[:800]))...)
}

func first(p api.Parser, _ []api.Do, _ api.Errno) api.Parser { return p }

func second(_ api.Parser, done []api.Do, _ api.Errno) []api.Do { return done }

// P1: long texts, of which nothing is kept beyond its bound.
func TestLong(t *testing.T) {
	for _, piece := range []string{"a", "\x1b", "\xff", "\xc3", "\x1b[", "\x1b[1;", "\x1b]o", "\x1bPs", "\x1b#", "\x1b]\x1bP", "9", ";"} {
		for _, head := range []string{"", "\x1b[", "\x1b]", "\x1bP", "\x1b[:", "\x1b##"} {
			p, _, why := Feed(api.Parser{}, head+strings.Repeat(piece, 1<<16))
			if why != api.OK || !Right(p) {
				t.Errorf("%q, then %q: %v %d", head, piece, p, why)
			}
		}
	}
	feed(t, api.Parser{State: api.SCsi, Params: []int{1}}, strings.Repeat("9", 3000), api.Parser{State: api.SCsi, Params: []int{9999}})
}

// R1, R4: no list that is handed in is changed, none is shared, and what is done with an answer changes no other one.
func TestNothingKept(t *testing.T) {
	for range 3 {
		params := make([]int, 2, 32)
		params[0], params[1] = 4, 5
		from := api.Parser{State: api.SCsi, Params: params}
		p, _, _ := Feed(from, "6;7")
		same, _, _ := Feed(from, "")
		_, done, _ := Feed(from, "m")
		_, all, _ := Feed(from, "m\x1b[8m\x1b[9;1m")
		if !slices.Equal(params, []int{4, 5}) || !slices.Equal(params[:4], []int{4, 5, 0, 0}) || !slices.Equal(p.Params, []int{4, 56, 7}) {
			t.Fatal(params[:4], p)
		}
		clear(p.Params)
		clear(same.Params)
		clear(done[0].Params)
		clear(all[0].Params)
		if !slices.Equal(params, []int{4, 5}) || !alike(all[1:], some(csi('m', 8), csi('m', 9, 1))) {
			t.Fatal(params, all)
		}
		two, _, _ := Feed(p, "1;2")
		if !slices.Equal(two.Params, []int{0, 0, 1, 2}) || !slices.Equal(p.Params, []int{0, 0, 0}) {
			t.Fatal(two, p)
		}
	}
}
