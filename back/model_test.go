package back

import (
	"slices"
	"testing"

	"backseat/api"
)

// What follows is read from the chapter apart from the package: lines come and go one by one.

func wantPush(b api.Back, lines []api.Line) api.Back {
	kept := slices.Clone(b.Lines)
	for _, l := range lines {
		kept = append(kept, l)
		for len(kept) > b.Max {
			kept = slices.Delete(kept, 0, 1)
		}
	}
	return api.Back{Max: b.Max, Lines: kept}
}

func wantTake(b api.Back, n int) (api.Back, []api.Line) {
	kept := slices.Clone(b.Lines)
	var gone []api.Line
	for range n {
		if len(kept) == 0 {
			break
		}
		gone = slices.Insert(gone, 0, kept[len(kept)-1])
		kept = kept[:len(kept)-1]
	}
	return api.Back{Max: b.Max, Lines: kept}, gone
}

// each hands on all that may be kept, by Max and how many there are.
func each(f func(api.Back)) {
	for _, most := range []int{0, 1, 2, 3, 7, 39, 40} {
		for n := range most + 1 {
			f(api.Back{Max: most, Lines: numbered(20000, n)})
		}
	}
}

// P7.1, P7.2: all numbers of lines that come, and that go.
func TestAllNumbers(t *testing.T) {
	each(func(b api.Back) {
		for n := range b.Max + 5 {
			lines := numbered(0, n)
			pushed(t, b, lines, wantPush(b, lines).Lines)
			stay, gone := wantTake(b, n)
			taken(t, b, n, stay.Lines, gone)
		}
	})
}

// P7.3: what is pushed in two parts is pushed as in one.
func TestTwoParts(t *testing.T) {
	each(func(b api.Back) {
		n := b.Max + 3
		lines := numbered(0, n)
		want := wantPush(b, lines).Lines
		for at := range n + 1 {
			first := pushed(t, b, lines[:at], wantPush(b, lines[:at]).Lines)
			pushed(t, first, lines[at:], want)
		}
	})
}

// P7.3: what is pushed, and fits, is taken as it was, and what is left is as it was; of more, as many as Max are taken.
func TestTakenAsPushed(t *testing.T) {
	each(func(b api.Back) {
		for n := range b.Max + 5 {
			lines := numbered(0, n)
			full := pushed(t, b, lines, wantPush(b, lines).Lines)
			stay := b.Lines[min(len(b.Lines), max(0, len(b.Lines)+n-b.Max)):]
			taken(t, full, n, stay, lines[max(0, n-b.Max):])
			if n > 0 && b.Max > 0 {
				is(t, full, 0, lines[n-1])
			}
		}
	})
}

// P7.1 to P7.3: all short rows of calls, of which each takes what the one ahead of it answered.
func TestRowsOfCalls(t *testing.T) {
	const most, steps = 3, 4
	var next int
	var walk func(got, want api.Back, left int)
	walk = func(got, want api.Back, left int) {
		for i := range want.Max + 2 {
			if i < len(want.Lines) {
				is(t, got, i, want.Lines[len(want.Lines)-1-i])
			} else {
				none(t, got, i, api.ErrNone)
			}
		}
		if left == 0 {
			return
		}
		for n := range most + 2 {
			next += n
			lines := numbered(next%10000, n)
			wanted := wantPush(want, lines)
			walk(pushed(t, got, lines, wanted.Lines), wanted, left-1)
			stay, gone := wantTake(want, n)
			rest, _ := taken(t, got, n, stay.Lines, gone)
			walk(rest, stay, left-1)
		}
		if !same(got, want) {
			t.Fatalf("(%s) was changed, from (%s)", toldBack(got), toldBack(want))
		}
	}
	for room := range most + 1 {
		walk(api.Back{Max: room}, api.Back{Max: room}, steps)
	}
}
