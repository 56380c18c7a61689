package wire

import (
	"fmt"
	"slices"
	"strings"
	"testing"

	"backseat/api"
)

const longest = 516 // bytes that a frame may have

// bytesOf writes what the chapter says a frame's bytes are, whether or not the frame may be.
func bytesOf(tag int, text string) string {
	b := []byte{byte(tag), byte(len(text) / 256), byte(len(text) % 256)}
	b = append(b, text...)
	total := 0
	for _, x := range b {
		total += int(x)
	}
	return string(append(b, byte(total%256)))
}

// frame is a frame's bytes, of a frame that may be.
func frame(t *testing.T, tag int, text string) string {
	t.Helper()
	s, why := Encode(api.Frame{Tag: tag, Text: text})
	if why != api.OK {
		t.Fatalf("Encode of tag %d, %d bytes: %d", tag, len(text), why)
	}
	return s
}

// badSum is a frame's bytes, but for a sum that is too great by one.
func badSum(tag int, text string) string {
	b := []byte(bytesOf(tag, text))
	b[len(b)-1]++
	return string(b)
}

// patterned is a text of n bytes, most of them not alike.
func patterned(n int) string {
	b := make([]byte, n)
	for i := range b {
		b[i] = byte(i*7 + i/256 + 1)
	}
	return string(b)
}

// allBytes is each byte that there is, twice: 512 bytes.
func allBytes() string {
	b := make([]byte, 512)
	for i := range b {
		b[i] = byte(i)
	}
	return string(b)
}

// told is what Feed answers.
type told struct {
	d      api.Decoder
	frames []api.Frame
	why    api.Errno
}

// String writes bytes so that a log can be read.
func (a told) String() string {
	s := fmt.Sprintf("%s, error %d,", written(a.d), a.why)
	for _, f := range a.frames {
		s += fmt.Sprintf(" tag %d %q", f.Tag, f.Text)
	}
	return s
}

func written(d api.Decoder) string { return fmt.Sprintf("decoder %q, dead %v", d.Buf, d.Dead) }

func feed(d api.Decoder, s string) told {
	after, frames, why := Feed(d, s)
	return told{after, frames, why}
}

func same(a, b told) bool {
	return a.d == b.d && a.why == b.why && slices.Equal(a.frames, b.frames)
}

// begin is how the bytes begin, in the chapter's three cases, read apart from the package: 's' spoilt, 'f' a frame stands first (with how many bytes), 'w' neither.
func begin(s string) (byte, int) {
	if len(s) == 0 {
		return 'w', 0
	}
	if s[0] == 0 || s[0] > 12 {
		return 's', 0
	}
	if len(s) < 3 {
		return 'w', 0
	}
	n := int(s[1])*256 + int(s[2])
	if n > 512 {
		return 's', 0
	}
	if len(s) < n+4 {
		return 'w', 0
	}
	if s[:n+4] != bytesOf(int(s[0]), s[3:3+n]) {
		return 's', 0
	}
	return 'f', n + 4
}

// wantRight and wantFeed say what the chapter says of Right and Feed.
func wantRight(d api.Decoder) bool {
	if d.Dead {
		return len(d.Buf) == 0
	}
	kind, _ := begin(d.Buf)
	return kind == 'w'
}

func wantFeed(d api.Decoder, s string) told {
	if !wantRight(d) {
		return told{why: api.ErrArg}
	}
	if d.Dead {
		return told{why: api.ErrState}
	}
	var got told
	all := d.Buf + s
	for {
		kind, n := begin(all)
		switch kind {
		case 's':
			got.d, got.why = api.Decoder{Dead: true}, api.ErrSyntax
			return got
		case 'w':
			got.d = api.Decoder{Buf: all}
			return got
		}
		got.frames = append(got.frames, api.Frame{Tag: int(all[0]), Text: all[3 : n-1]})
		all = all[n:]
	}
}

func TestExample(t *testing.T) {
	s, why := Encode(api.Frame{Tag: 1, Text: "A"})
	if s != "\x01\x00\x01A\x43" || why != api.OK {
		t.Errorf("%q %d", s, why)
	}
	got := feed(api.Decoder{}, "\x01\x00\x01A\x43")
	if !same(got, told{frames: []api.Frame{{Tag: 1, Text: "A"}}}) {
		t.Error(got)
	}
}

// P2.1: bytes that are written out by hand.
func TestEncodeBytes(t *testing.T) {
	for _, c := range []struct {
		tag  int
		text string
		want string
	}{
		{1, "", "\x01\x00\x00\x01"},
		{12, "", "\x0c\x00\x00\x0c"},
		{2, "split 1", "\x02\x00\x07split 1\x86"},
		{3, "\x50\x18", "\x03\x00\x02\x50\x18\x6d"},
		{4, "\x00", "\x04\x00\x01\x00\x05"},
		{1, "\xfe", "\x01\x00\x01\xfe\x00"}, // the sum is 256
		{1, "\xff", "\x01\x00\x01\xff\x01"},
		{12, "\xff\xff\xff", "\x0c\x00\x03\xff\xff\xff\x0c"},
		{5, strings.Repeat("\x00", 255), "\x05\x00\xff" + strings.Repeat("\x00", 255) + "\x04"}, // the lower length byte wraps it
		{5, strings.Repeat("\x00", 256), "\x05\x01\x00" + strings.Repeat("\x00", 256) + "\x06"},
		{5, strings.Repeat("\x00", 511), "\x05\x01\xff" + strings.Repeat("\x00", 511) + "\x05"},
		{5, strings.Repeat("\x00", 512), "\x05\x02\x00" + strings.Repeat("\x00", 512) + "\x07"},
		{5, strings.Repeat("\xff", 512), "\x05\x02\x00" + strings.Repeat("\xff", 512) + "\x07"},
	} {
		s, why := Encode(api.Frame{Tag: c.tag, Text: c.text})
		if s != c.want || why != api.OK {
			t.Errorf("Encode of tag %d, %d bytes: %q %d, want %q", c.tag, len(c.text), s, why, c.want)
		}
		if got := feed(api.Decoder{}, c.want); !same(got, told{frames: []api.Frame{{Tag: c.tag, Text: c.text}}}) {
			t.Errorf("Feed of %q: %v", c.want, got)
		}
	}
}

// P2.1: each tag, with each length.
func TestEncodeAll(t *testing.T) {
	for tag := 1; tag <= 12; tag++ {
		for n := 0; n <= 512; n++ {
			text := patterned(n)
			s, why := Encode(api.Frame{Tag: tag, Text: text})
			if s != bytesOf(tag, text) || why != api.OK {
				t.Fatalf("Encode of tag %d, %d bytes: %q %d", tag, n, s, why)
			}
		}
	}
}

// P2.1: frames that may not be. 257 and 1<<32+1 are 1 in fewer bits, a text of 65537 bytes would tell 1.
func TestEncodeWrong(t *testing.T) {
	var wrong []api.Frame
	for _, tag := range []int{-1 << 63, -1 << 32, -256, -255, -12, -1, 0, 13, 14, 255, 256, 257, 268, 1<<32 + 1, 1<<63 - 1} {
		wrong = append(wrong, api.Frame{Tag: tag}, api.Frame{Tag: tag, Text: "A"}, api.Frame{Tag: tag, Text: patterned(513)})
	}
	for _, n := range []int{513, 514, 767, 768, 1024, 65535, 65536, 65537, 1 << 20} {
		wrong = append(wrong, api.Frame{Tag: 1, Text: patterned(n)}, api.Frame{Tag: 12, Text: patterned(n)})
	}
	for _, f := range wrong {
		if s, why := Encode(f); s != "" || why != api.ErrArg {
			t.Errorf("Encode of tag %d, %d bytes: %d bytes, %d, want ErrArg", f.Tag, len(f.Text), len(s), why)
		}
	}
}

// spoiltTexts are bytes that are spoilt.
func spoiltTexts() map[string]string {
	return map[string]string{
		"tag 0":                   "\x00",
		"tag 13":                  "\x0d",
		"tag 255":                 "\xff",
		"tag 0, all there":        bytesOf(0, "A"),
		"tag 13, all there":       bytesOf(13, "A"),
		"tag 0, a frame behind":   "\x00" + bytesOf(1, "A"),
		"513 bytes":               "\x01\x02\x01",
		"513 bytes, all there":    bytesOf(1, patterned(513)),
		"768 bytes":               "\x0c\x03\x00",
		"65535 bytes":             "\x01\xff\xff",
		"33024 bytes":             "\x01\x81\x00",
		"a sum of 0":              "\x01\x00\x00\x00",
		"a sum too great":         badSum(1, "A"),
		"a sum of the text alone": "\x01\x00\x01AA",
		"a sum but for the tag":   "\x01\x00\x01AB",
		"a sum but for a length":  "\x01\x01\x00" + strings.Repeat("\x00", 256) + "\x01",
		"a sum that did not wrap": "\x01\x00\x01\xff\xff",
		"the longest, a bad sum":  badSum(12, patterned(512)),
		"a bad sum, then a frame": badSum(1, "A") + bytesOf(1, "A"),
		"a sum ahead of its time": "\x01\x00\x02A\x44\x00",
	}
}

// waiting are bytes that are neither spoilt, nor a frame.
func waiting() map[string]string {
	return map[string]string{
		"nothing":                  "",
		"tag 1":                    "\x01",
		"tag 12":                   "\x0c",
		"a length's first byte":    "\x01\x00",
		"a length's byte of 2":     "\x01\x02",
		"a length's byte of 3":     "\x01\x03", // it can't be a frame any more, but there are not three
		"a length's byte of 255":   "\x0c\xff",
		"an empty frame's head":    "\x01\x00\x00",
		"the longest frame's head": "\x01\x02\x00",
		"a text's first byte":      "\x01\x00\x02A",
		"all but the sum":          "\x01\x00\x01A",
		"the longest, no sum":      bytesOf(12, patterned(512))[:515],
		"a frame within a text":    "\x01\x00\x09" + bytesOf(1, "A"),
		"spoilt bytes in a text":   "\x01\x00\x09\x00\xff\xff",
	}
}

// P2.1: Right.
func TestRight(t *testing.T) {
	for name, s := range waiting() {
		if !Right(api.Decoder{Buf: s}) {
			t.Errorf("%s: may not be", name)
		}
		if got := Right(api.Decoder{Buf: s, Dead: true}); got != (s == "") {
			t.Errorf("%s, dead: %v", name, got)
		}
	}
	for name, s := range spoiltTexts() {
		if Right(api.Decoder{Buf: s}) || Right(api.Decoder{Buf: s, Dead: true}) {
			t.Errorf("%s: may be", name)
		}
	}
	for _, text := range []string{"", "A", patterned(255), patterned(256), patterned(512), allBytes()} {
		for _, tag := range []int{1, 2, 12} {
			s := frame(t, tag, text)
			for _, behind := range []string{"", "\x01", "\x00", s} {
				if Right(api.Decoder{Buf: s + behind}) || Right(api.Decoder{Buf: s + behind, Dead: true}) {
					t.Errorf("a frame of tag %d, %d bytes, %q behind it: may be", tag, len(text), behind)
				}
			}
		}
	}
}

// P2.2: ErrArg ahead of ErrState, and nothing beside either.
func TestFeedOfDecodersThatMayNotBe(t *testing.T) {
	whole := bytesOf(1, "A")
	wrong := []api.Decoder{{Buf: whole}, {Buf: whole + "\x01"}, {Buf: bytesOf(12, patterned(512))}}
	for _, s := range spoiltTexts() {
		wrong = append(wrong, api.Decoder{Buf: s})
	}
	for _, d := range slices.Clone(wrong) {
		wrong = append(wrong, api.Decoder{Buf: d.Buf, Dead: true})
	}
	for _, s := range waiting() {
		if s != "" {
			wrong = append(wrong, api.Decoder{Buf: s, Dead: true})
		}
	}
	for _, d := range wrong {
		for _, s := range []string{"", "A", whole, "\x00", "\x01"} {
			if got := feed(d, s); !same(got, told{why: api.ErrArg}) {
				t.Errorf("Feed(%s, %q): %v, want ErrArg alone", written(d), s, got)
			}
		}
	}
}

func TestFeedOfTheDead(t *testing.T) {
	for _, s := range []string{"", "\x00", "\x01", bytesOf(1, "A"), badSum(1, "A"), patterned(2000)} {
		if got := feed(api.Decoder{Dead: true}, s); !same(got, told{why: api.ErrState}) {
			t.Errorf("Feed of the dead, %q: %v, want ErrState alone", s, got)
		}
	}
}

// P2.2: several frames in one text, and each thing that may be behind them.
func TestFeedSeveral(t *testing.T) {
	frames := []api.Frame{{Tag: 1, Text: "A"}, {Tag: 12, Text: ""}, {Tag: 3, Text: "\x50\x18"}, {Tag: 5, Text: patterned(512)}, {Tag: 1, Text: "\xff"}, {Tag: 2, Text: bytesOf(4, "x")}}
	all := ""
	for n := 0; ; n++ {
		for name, s := range waiting() {
			if got := feed(api.Decoder{}, all+s); !same(got, told{d: api.Decoder{Buf: s}, frames: frames[:n]}) {
				t.Errorf("%d frames, %s: %v", n, name, got)
			}
		}
		for name, s := range spoiltTexts() {
			if got := feed(api.Decoder{}, all+s); !same(got, told{api.Decoder{Dead: true}, frames[:n], api.ErrSyntax}) {
				t.Errorf("%d frames, %s: %v", n, name, got)
			}
		}
		if n == len(frames) {
			return
		}
		all += frame(t, frames[n].Tag, frames[n].Text)
	}
}

// P2.2: what is kept stands ahead of what comes.
func TestFeedGoesOn(t *testing.T) {
	for _, c := range []struct {
		buf  string
		s    string
		want told
	}{
		{"\x01", "\x00\x01A\x43", told{frames: []api.Frame{{Tag: 1, Text: "A"}}}},
		{"\x01\x00", "\x01A", told{d: api.Decoder{Buf: "\x01\x00\x01A"}}},
		{"\x01\x00\x01A", "", told{d: api.Decoder{Buf: "\x01\x00\x01A"}}},
		{"\x01\x00\x01A", "\x43", told{frames: []api.Frame{{Tag: 1, Text: "A"}}}},
		{"\x01\x00\x01A", "\x43\x0c", told{d: api.Decoder{Buf: "\x0c"}, frames: []api.Frame{{Tag: 1, Text: "A"}}}},
		{"\x01\x00\x01A", "\x44", told{d: api.Decoder{Dead: true}, why: api.ErrSyntax}},
		{"\x01\x00\x01A", "\x43\x0d", told{api.Decoder{Dead: true}, []api.Frame{{Tag: 1, Text: "A"}}, api.ErrSyntax}},
		{"\x01\x02", "\x00", told{d: api.Decoder{Buf: "\x01\x02\x00"}}},
		{"\x01\x02", "\x01", told{d: api.Decoder{Dead: true}, why: api.ErrSyntax}},
		{"\x01\x03", "\x00", told{d: api.Decoder{Dead: true}, why: api.ErrSyntax}},
		{"", "\x00", told{d: api.Decoder{Dead: true}, why: api.ErrSyntax}},
		{"", "", told{}},
	} {
		if got := feed(api.Decoder{Buf: c.buf}, c.s); !same(got, c.want) {
			t.Errorf("Feed(%q, %q): %v, want %v", c.buf, c.s, got, c.want)
		}
	}
}

// P2.1 and P2.2: all texts of up to five bytes that stand next to where something changes, whatever of them is kept already.
func TestFeedOfAll(t *testing.T) {
	edges := []byte{0, 1, 2, 3, 4, 12, 13, 255}
	var check func(s string)
	check = func(s string) {
		for cut := range len(s) + 1 {
			for _, dead := range []bool{false, true} {
				d := api.Decoder{Buf: s[:cut], Dead: dead}
				if got := Right(d); got != wantRight(d) {
					t.Fatalf("Right(%s): %v", written(d), got)
				}
				if got, want := feed(d, s[cut:]), wantFeed(d, s[cut:]); !same(got, want) {
					t.Fatalf("Feed(%s, %q): %v, want %v", written(d), s[cut:], got, want)
				}
			}
		}
		if len(s) == 5 {
			return
		}
		for _, b := range edges {
			check(s + string([]byte{b}))
		}
	}
	check("")
}

// P1 and P2.2: whatever bytes come; those at odds are drawn from a row of numbers that is always the same.
func TestFeedOfAnything(t *testing.T) {
	seed := uint32(1)
	next := func(n int) int {
		seed = seed*1664525 + 1013904223
		return int(seed>>8) % n
	}
	piece := func() string {
		switch next(4) {
		case 0:
			return bytesOf(next(14), patterned(next(20)))
		case 1:
			return bytesOf(1+next(12), patterned(next(530)))
		case 2:
			s := []byte(bytesOf(1+next(12), patterned(next(9))))
			s[next(len(s))] ^= byte(1 << next(8))
			return string(s)
		}
		return patterned(600)[next(300):][:next(6)]
	}
	for range 20000 {
		d := api.Decoder{Buf: piece(), Dead: next(9) == 0}
		if next(2) == 0 {
			d.Buf = d.Buf[:next(len(d.Buf)+1)]
		}
		s := piece() + piece() + piece()
		if got, want := feed(d, s), wantFeed(d, s); !same(got, want) || Right(d) != wantRight(d) {
			t.Fatalf("Feed(%s, %q): %v, want %v", written(d), s, got, want)
		}
	}
}

// pieces feeds texts one behind the other, as long as the decoder lives; its bound is held at each.
func pieces(t *testing.T, texts ...string) told {
	t.Helper()
	var all told
	for _, s := range texts {
		got := feed(all.d, s)
		if !Right(got.d) || len(got.d.Buf) >= longest {
			t.Fatalf("behind %q: a decoder that may not be, or keeps too much: %s", s, written(got.d))
		}
		all = told{got.d, append(all.frames, got.frames...), got.why}
		if got.why != api.OK {
			return all
		}
	}
	return all
}

// chop cuts a text into pieces of n bytes; the last one may have fewer.
func chop(s string, n int) []string {
	var texts []string
	for at := 0; at < len(s); at += n {
		texts = append(texts, s[at:min(at+n, len(s))])
	}
	return texts
}

// streams are bytes that come, and what they are to come to.
func streams(t *testing.T) map[string]told {
	frames := []api.Frame{{Tag: 1, Text: ""}, {Tag: 2, Text: "select 2"}, {Tag: 12, Text: "\xfe\x00\x0c\x01"}, {Tag: 1, Text: bytesOf(1, "A")}, {Tag: 5, Text: "\xff\xff\xff\xff\xff"}}
	all := ""
	for _, f := range frames {
		all += frame(t, f.Tag, f.Text)
	}
	dead := api.Decoder{Dead: true}
	return map[string]told{
		"":                              {},
		all:                             {frames: frames},
		all + "\x01\x00\x03ab":          {d: api.Decoder{Buf: "\x01\x00\x03ab"}, frames: frames},
		all + "\x0d" + all:              {dead, frames, api.ErrSyntax},
		all + "\x01\x02\x01" + all:      {dead, frames, api.ErrSyntax},
		all + badSum(3, "xyz") + all:    {dead, frames, api.ErrSyntax},
		badSum(1, "A") + all:            {dead, nil, api.ErrSyntax},
		"\x00" + all:                    {dead, nil, api.ErrSyntax},
		all[:len(all)-1] + "\x00" + all: {dead, frames[:4], api.ErrSyntax},
	}
}

// P2.3: cut anywhere, in two places, and one byte at a time.
func TestCut(t *testing.T) {
	for s, want := range streams(t) {
		for a := range len(s) + 1 {
			for b := a; b <= len(s); b++ {
				if got := pieces(t, s[:a], s[a:b], s[b:]); !same(got, want) {
					t.Fatalf("%q cut at %d and %d: %v, want %v", s, a, b, got, want)
				}
			}
		}
		if got := pieces(t, chop(s, 1)...); !same(got, want) {
			t.Errorf("%q byte by byte: %v, want %v", s, got, want)
		}
	}
}

// P2.3: frames of each length, of bytes that look like frames' own, read as they were written.
func TestReadAsWritten(t *testing.T) {
	var frames []api.Frame
	all := ""
	for n := 0; n <= 512; n++ {
		f := api.Frame{Tag: n%12 + 1, Text: patterned(n)}
		if n%2 == 1 {
			f.Text = strings.Repeat("\x01\x00", 256)[:n]
		}
		frames = append(frames, f)
		all += frame(t, f.Tag, f.Text)
	}
	for _, size := range []int{1, 2, 3, 5, 255, 256, 257, 515, 516, 517, 4096, len(all)} {
		if got := pieces(t, chop(all, size)...); !same(got, told{frames: frames}) {
			t.Errorf("%d bytes at a time: %d frames, %d", size, len(got.frames), got.why)
		}
	}
}

// P2.3: the longest frame, cut anywhere: a decoder keeps up to 515 bytes, and no more.
func TestKeepsLessThanAFrame(t *testing.T) {
	f := api.Frame{Tag: 12, Text: allBytes()}
	s := frame(t, f.Tag, f.Text)
	if len(s) != longest {
		t.Fatalf("%d bytes", len(s))
	}
	for cut := range len(s) {
		got := feed(api.Decoder{}, s+s[:cut])
		if !same(got, told{d: api.Decoder{Buf: s[:cut]}, frames: []api.Frame{f}}) {
			t.Fatalf("cut at %d: %v", cut, got)
		}
		if got := feed(got.d, s[cut:]+"\x01"); !same(got, told{d: api.Decoder{Buf: "\x01"}, frames: []api.Frame{f}}) {
			t.Fatalf("behind a cut at %d: %v", cut, got)
		}
	}
}

// R1: what was asked ahead changes no answer, and the same decoder may be asked again.
func TestNothingKept(t *testing.T) {
	d := api.Decoder{Buf: "\x01\x00\x01"}
	for range 3 {
		if got := feed(d, "A\x43\x02"); !same(got, told{d: api.Decoder{Buf: "\x02"}, frames: []api.Frame{{Tag: 1, Text: "A"}}}) {
			t.Error(got)
		}
		if got := feed(d, "A\x42"); !same(got, told{d: api.Decoder{Dead: true}, why: api.ErrSyntax}) {
			t.Error(got)
		}
		if got := feed(api.Decoder{}, ""); !same(got, told{}) {
			t.Error(got)
		}
	}
}

// The iterator stops where its caller does, and begins anew each time.
func TestStanding(t *testing.T) {
	all := standing(bytesOf(1, "a") + bytesOf(2, "b") + bytesOf(3, "c") + "\x04")
	for range 2 {
		for f, rest := range all {
			if f != (api.Frame{Tag: 1, Text: "a"}) || rest != bytesOf(2, "b")+bytesOf(3, "c")+"\x04" {
				t.Errorf("tag %d %q, then %q", f.Tag, f.Text, rest)
			}
			break
		}
	}
	n, last := 0, ""
	for _, rest := range all {
		n, last = n+1, rest
	}
	if n != 3 || last != "\x04" {
		t.Errorf("%d frames, then %q", n, last)
	}
}
