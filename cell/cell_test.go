package cell_test

import (
	"math"
	"testing"

	"doorman/cell"
)

const top = math.MaxUint64

// check holds all that an epoch tells of itself against what it should be.
func check(t *testing.T, what string, c cell.Cell, value uint64, spent, writing bool) {
	t.Helper()
	if c.Value() != value || c.Spent() != spent || c.Writing() != writing {
		t.Errorf("%s: %d, spent %v, writing %v, not %d, %v, %v", what, c.Value(), c.Spent(), c.Writing(), value, spent, writing)
	}
}

// after is an epoch up to a bound behind so many writings, begun and ended.
func after(bound uint64, writings int) cell.Cell {
	c := cell.New(bound)
	for range writings {
		c = c.Begin().End()
	}
	return c
}

// 5.1: the document's example.
func TestExample(t *testing.T) {
	c := cell.New(2)
	check(t, "New", c, 0, false, false)
	c = c.Begin()
	check(t, "Begin", c, 1, false, true)
	c = c.End()
	check(t, "End", c, 2, true, false)
	check(t, "Begin when spent", c.Begin(), 2, true, false)
}

// 5.1: a new epoch is 0 whatever its bound; it is spent where there is no even number between.
func TestNew(t *testing.T) {
	for _, bound := range []uint64{0, 1} {
		check(t, "spent at once", cell.New(bound), 0, true, false)
	}
	for _, bound := range []uint64{2, 3, 4, 5, 100, 101, 1 << 32, 1 << 63, top - 2, top - 1, top} {
		check(t, "new", cell.New(bound), 0, false, false)
	}
}

// 5.1: the bound 0, and 1, of which 0 counts: nothing is ever begun. The zero Cell is such a one.
func TestBoundOfNothing(t *testing.T) {
	for _, c := range []cell.Cell{cell.New(0), cell.New(1), {}} {
		check(t, "Begin", c.Begin(), 0, true, false)
		check(t, "End", c.End(), 0, true, false)
		check(t, "Begin, End", c.Begin().End(), 0, true, false)
		check(t, "Begin, Begin, End, End", c.Begin().Begin().End().End(), 0, true, false)
	}
}

// 5.1: every epoch on the way to a bound, and some tries beyond it.
func TestUpToTheBound(t *testing.T) {
	for bound := range uint64(40) {
		last := bound / 2 * 2
		c := cell.New(bound)
		for v := uint64(0); v < last; v += 2 {
			check(t, "even", c, v, false, false)
			c = c.Begin()
			check(t, "odd", c, v+1, false, true)
			c = c.End()
		}
		for range 4 {
			check(t, "spent", c, last, true, false)
			check(t, "End of spent", c.End(), last, true, false)
			c = c.Begin()
		}
	}
}

// 5.1: of an odd bound the number below counts, so that the two are one.
func TestOddBound(t *testing.T) {
	for bound := uint64(0); bound < 20; bound += 2 {
		for writings := range 12 {
			a, b := after(bound, writings), after(bound+1, writings)
			if a != b {
				t.Errorf("bound %d behind %d writings: %v, of the odd one %v", bound, writings, a, b)
			}
			if a.Begin() != b.Begin() {
				t.Errorf("bound %d behind %d writings, begun: %v, of the odd one %v", bound, writings, a.Begin(), b.Begin())
			}
		}
	}
	if cell.New(top) != cell.New(top-1) {
		t.Errorf("bound %d: %v, of the odd one %v", uint64(top-1), cell.New(top-1), cell.New(top))
	}
}

// 5.1: Begin while it is written leaves it so, however often; one End then ends it.
func TestBeginWhileWritten(t *testing.T) {
	for _, bound := range []uint64{4, 5, 6, 100, top} {
		c := after(bound, 1).Begin()
		check(t, "Begin", c, 3, false, true)
		check(t, "again", c.Begin(), 3, false, true)
		check(t, "and again", c.Begin().Begin(), 3, false, true)
		check(t, "ended", c.Begin().Begin().End(), 4, bound < 6, false)
	}
}

// 5.1: End when it is not written leaves it so.
func TestEndWhenNotWritten(t *testing.T) {
	for _, bound := range []uint64{4, 5, 6, 100, top} {
		check(t, "new", cell.New(bound).End(), 0, false, false)
		check(t, "new, begun behind it", cell.New(bound).End().End().Begin(), 1, false, true)
		check(t, "ended", after(bound, 1).End(), 2, false, false)
		check(t, "ended, twice", after(bound, 1).End().End(), 2, false, false)
		check(t, "two writings", after(bound, 2).End(), 4, bound < 6, false)
	}
}

// 5.1: an epoch with the greatest bound goes on for long, and isn't spent.
func TestGreatestBound(t *testing.T) {
	c := cell.New(top)
	for i := range uint64(100000) {
		check(t, "even", c, 2*i, false, false)
		c = c.Begin()
		check(t, "odd", c, 2*i+1, false, true)
		c = c.End()
	}
	check(t, "at last", c, 200000, false, false)
}

// 5.1: what an epoch was made of is as it was, and may be gone on from anew.
func TestHandedOutAnew(t *testing.T) {
	first := cell.New(4)
	begun := first.Begin()
	ended := begun.End()
	full := ended.Begin().End()
	full.Begin()
	for range 2 {
		check(t, "first", first, 0, false, false)
		check(t, "begun", begun, 1, false, true)
		check(t, "ended", ended, 2, false, false)
		check(t, "full", full, 4, true, false)
		if first.Begin() != begun || begun.End() != ended || ended.Begin().End() != full {
			t.Errorf("from the same epochs others are made the second time")
		}
	}
}

// 5.2
func TestValid(t *testing.T) {
	cases := []struct {
		a, b, bound uint64
		want        bool
	}{
		{0, 0, 2, true},
		{0, 0, 3, true},
		{2, 2, 4, true},
		{2, 2, 5, true},
		{50, 50, 100, true},
		{98, 98, 100, true},
		{98, 98, 101, true},
		{0, 0, top, true},
		{1 << 32, 1 << 32, 1 << 33, true},
		{1 << 63, 1 << 63, top, true},
		{top - 3, top - 3, top, true},
		{top - 3, top - 3, top - 1, true},
		// The same, but odd.
		{1, 1, 2, false},
		{3, 3, 9, false},
		{1<<63 + 1, 1<<63 + 1, top, false},
		{top - 2, top - 2, top, false},
		{top, top, top, false},
		// The same and even, but at the bound.
		{0, 0, 0, false},
		{0, 0, 1, false},
		{2, 2, 2, false},
		{2, 2, 3, false},
		{100, 100, 100, false},
		{100, 100, 101, false},
		{top - 3, top - 3, top - 3, false},
		{top - 3, top - 3, top - 2, false},
		{top - 1, top - 1, top - 1, false},
		{top - 1, top - 1, top, false},
		// The same and even, but beyond it.
		{2, 2, 0, false},
		{2, 2, 1, false},
		{4, 4, 2, false},
		{4, 4, 3, false},
		{1 << 63, 1 << 63, 100, false},
		{top - 1, top - 1, 0, false},
		{top - 1, top - 1, top - 2, false},
		// They differ.
		{0, 1, 100, false},
		{1, 0, 100, false},
		{0, 2, 100, false},
		{2, 0, 100, false},
		{2, 4, 100, false},
		{1, 3, 100, false},
		{2, 3, 100, false},
		{98, 100, 100, false},
		{100, 98, 100, false},
		{0, 1 << 32, top, false},
		{0, 1 << 63, top, false},
		{0, top - 1, top, false},
		{0, top, top, false},
		{top, 0, top, false},
	}
	for _, c := range cases {
		if got := cell.Valid(c.a, c.b, c.bound); got != c.want {
			t.Errorf("Valid(%d, %d, %d) = %v", c.a, c.b, c.bound, got)
		}
	}
}

// 5.2: all small numbers, held against the few pairs that are Valid, which are counted up.
func TestValidOfSmall(t *testing.T) {
	type looks struct{ a, b uint64 }
	valid := map[looks]bool{}
	for bound := range uint64(24) {
		if bound >= 2 && bound%2 == 0 {
			valid[looks{bound - 2, bound - 2}] = true
		}
		for a := range uint64(30) {
			for b := range uint64(30) {
				if got := cell.Valid(a, b, bound); got != valid[looks{a, b}] {
					t.Errorf("Valid(%d, %d, %d) = %v", a, b, bound, got)
				}
			}
		}
	}
}

// 5.2, 5.1: an epoch looked at twice in a row is Valid just while it is neither spent nor written.
func TestValidOfAnEpoch(t *testing.T) {
	for bound := range uint64(20) {
		c := cell.New(bound)
		for range 12 {
			for _, at := range []cell.Cell{c, c.Begin()} {
				want := !at.Spent() && !at.Writing()
				if got := cell.Valid(at.Value(), at.Value(), bound); got != want {
					t.Errorf("Valid of %v, twice = %v", at, got)
				}
			}
			c = c.Begin().End()
		}
	}
}

// look is what was seen of an epoch, and how it stood with the writers then, who don't ask the epoch.
type look struct {
	value   uint64
	begun   int
	writing bool
}

// looks are those ahead of all calls of a script, and behind each: a bit of it that is 1 begins a writing, one that is 0 ends it.
func looks(bound uint64, script, calls int) []look {
	c := cell.New(bound)
	now := look{value: c.Value()}
	seen := []look{now}
	for i := range calls {
		if script>>i&1 == 1 {
			c = c.Begin()
			now.begun++
			now.writing = true
		} else {
			c = c.End()
			now.writing = false
		}
		now.value = c.Value()
		seen = append(seen, now)
	}
	return seen
}

// 5.3: all scripts of so many calls, at bounds that they pass and at ones that they don't reach; between each two looks that are Valid nobody wrote, not even one whose Begin left a spent epoch as it was.
func TestValidSawNoWriting(t *testing.T) {
	const calls = 10
	for _, bound := range []uint64{0, 1, 2, 3, 4, 5, 6, 7, 8, 100, top} {
		for script := range 1 << calls {
			seen := looks(bound, script, calls)
			for i, a := range seen {
				for _, b := range seen[i:] {
					wrote := a.writing || a.begun != b.begun
					if cell.Valid(a.value, b.value, bound) && wrote {
						t.Fatalf("bound %d, script %b: looks %v and %v are Valid", bound, script, a, b)
					}
				}
			}
		}
	}
}

// 5.3: below the bound, two looks between which nobody wrote are Valid, so that it isn't kept by answering false.
func TestNoWritingIsValid(t *testing.T) {
	const calls = 10
	for script := range 1 << calls {
		seen := looks(top, script, calls)
		for i, a := range seen {
			for _, b := range seen[i:] {
				wrote := a.writing || a.begun != b.begun
				if !cell.Valid(a.value, b.value, top) && !wrote {
					t.Fatalf("script %b: looks %v and %v aren't Valid", script, a, b)
				}
			}
		}
	}
}
