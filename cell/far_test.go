package cell

import (
	"math"
	"testing"
)

const top = math.MaxUint64

// far is an epoch so far on that a test can't get there by writing.
func far(bound, v uint64) Cell {
	c := New(bound)
	c.v = v
	return c
}

// 5.1: near the end of the greatest bounds an epoch is spent, and doesn't begin again at 0.
func TestEndOfGreatestBound(t *testing.T) {
	for _, bound := range []uint64{top, top - 1} {
		c := far(bound, top-3)
		if c.Spent() || c.Writing() {
			t.Errorf("bound %d: %v is spent %v, written %v", bound, c, c.Spent(), c.Writing())
		}
		c = c.Begin()
		if c.Value() != top-2 || c.Spent() || !c.Writing() {
			t.Errorf("bound %d: begun, %v is spent %v, written %v", bound, c, c.Spent(), c.Writing())
		}
		c = c.End()
		for range 3 {
			if c.Value() != top-1 || !c.Spent() || c.Writing() {
				t.Errorf("bound %d: ended, %v is spent %v, written %v", bound, c, c.Spent(), c.Writing())
			}
			c = c.End().Begin()
		}
	}
}

// 5.1: numbers that a lesser kind of integer doesn't hold.
func TestFarEpochs(t *testing.T) {
	for _, v := range []uint64{1<<31 - 2, 1 << 31, 1<<32 - 2, 1 << 32, 1<<53 + 2, 1<<63 - 2, 1 << 63} {
		c := far(top, v)
		if c.Value() != v || c.Spent() || c.Writing() || c.End() != c {
			t.Errorf("%v is %d, spent %v, written %v", c, c.Value(), c.Spent(), c.Writing())
		}
		begun := c.Begin()
		if begun.Value() != v+1 || begun.Spent() || !begun.Writing() || begun.Begin() != begun {
			t.Errorf("%v begun is %d, spent %v, written %v", c, begun.Value(), begun.Spent(), begun.Writing())
		}
		if ended := begun.End(); ended.Value() != v+2 || ended.Spent() || ended.Writing() {
			t.Errorf("%v ended is %d, spent %v, written %v", c, ended.Value(), ended.Spent(), ended.Writing())
		}
		if at := far(v, v); !at.Spent() || at.Begin() != at || at.End() != at {
			t.Errorf("%v isn't spent", at)
		}
	}
}

// 5.3: at the end of the greatest bounds, a writing that is begun when the epoch is spent isn't missed.
func TestValidAtTheEnd(t *testing.T) {
	for _, bound := range []uint64{top, top - 1} {
		c := far(bound, top-3)
		if !Valid(c.Value(), c.End().Value(), bound) {
			t.Errorf("bound %d: two looks at %v aren't Valid", bound, c)
		}
		for range 3 {
			begun := c.Begin()
			if Valid(c.Value(), begun.Value(), bound) || Valid(c.Value(), begun.End().Value(), bound) {
				t.Errorf("bound %d: looks at %v and behind it are Valid", bound, c)
			}
			c = begun.End()
		}
	}
}
