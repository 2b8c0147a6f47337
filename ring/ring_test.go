package ring_test

import (
	"math"
	"slices"
	"testing"

	"doorman/api"
	"doorman/ring"
)

// filled is a queue of that room into which so many of 100, 101 .. were put.
func filled(room, n int) *ring.Ring[int] {
	r := ring.New[int](room)
	for i := range n {
		r.Put(100 + i)
	}
	return r
}

// rising are n numbers from the first one on.
func rising(first, n int) []int {
	var l []int
	for i := range n {
		l = append(l, first+i)
	}
	return l
}

// check holds what a queue tells of itself against what it should hold, and whether it should have lost something.
func check[T comparable](t *testing.T, what string, r *ring.Ring[T], want []T, lost bool) {
	t.Helper()
	if got := slices.Collect(r.All()); !slices.Equal(got, want) {
		t.Errorf("%s: All = %v, not %v", what, got, want)
	}
	if r.Len() != len(want) {
		t.Errorf("%s: Len = %d, not %d", what, r.Len(), len(want))
	}
	if r.Lost() != lost {
		t.Errorf("%s: Lost = %v", what, r.Lost())
	}
}

// checkDrain drains a queue, and looks at what is left.
func checkDrain[T comparable](t *testing.T, what string, r *ring.Ring[T], want []T, lost bool) {
	t.Helper()
	if got, gotLost := r.Drain(); !slices.Equal(got, want) || gotLost != lost {
		t.Errorf("%s: Drain = %v, %v, not %v, %v", what, got, gotLost, want, lost)
	}
	check(t, what+", drained", r, nil, false)
}

// 3.1, 3.2: the document's example.
func TestExample(t *testing.T) {
	r := ring.New[int](1)
	if !r.Put(5) || r.Put(6) || !r.Lost() {
		t.Errorf("Put")
	}
	checkDrain(t, "room for one", r, []int{5}, true)
}

// 3.1
func TestNewIsEmpty(t *testing.T) {
	for _, room := range []int{math.MinInt, -2, -1, 0, 1, 2, 16, math.MaxInt} {
		r := ring.New[int](room)
		if r == nil {
			t.Fatalf("New(%d) = nil", room)
		}
		check(t, "new", r, nil, false)
		checkDrain(t, "new", r, nil, false)
	}
}

// 3.1: up to the room all are put, and beyond it none.
func TestPutUntilFull(t *testing.T) {
	for room := range 40 {
		r := ring.New[int](room)
		for i := range 50 {
			if got := r.Put(100 + i); got != (i < room) {
				t.Errorf("room %d: Put of the one with place %d = %v", room, i, got)
			}
			check(t, "put", r, rising(100, min(i+1, room)), i >= room)
		}
		checkDrain(t, "full", r, rising(100, room), true)
	}
}

// 3.1: just full, nothing is lost yet.
func TestFullIsNotLost(t *testing.T) {
	for room := range 20 {
		checkDrain(t, "just full", filled(room, room), rising(100, room), false)
	}
}

// 3.1: a number below 0 is room for none, behind a Drain and in a copy too.
func TestNoRoom(t *testing.T) {
	for _, room := range []int{math.MinInt, math.MinInt + 1, -100, -1, 0} {
		r := ring.New[string](room)
		for range 3 {
			if r.Put("x") {
				t.Errorf("room %d: Put = true", room)
			}
			check(t, "no room", r, nil, true)
		}
		if c := r.Copy(); c.Put("y") {
			t.Errorf("room %d: Put into a copy = true", room)
		}
		checkDrain(t, "no room", r, nil, true)
		checkDrain(t, "no room, again", r, nil, false)
		if r.Put("x") || !r.Lost() {
			t.Errorf("room %d: Put behind a Drain", room)
		}
	}
}

// 3.1: room for more than there can be.
func TestVastRoom(t *testing.T) {
	for _, room := range []int{math.MaxInt, math.MaxInt - 1, math.MaxInt32, 1 << 40} {
		r := ring.New[int](room)
		for i := range 5000 {
			if !r.Put(i) {
				t.Fatalf("room %d: Put of %d = false", room, i)
			}
		}
		check(t, "vast", r.Copy(), rising(0, 5000), false)
		checkDrain(t, "vast", r, rising(0, 5000), false)
	}
}

// 3.1, 3.2: only a Drain makes a queue forget that something was lost.
func TestLostTillEmptied(t *testing.T) {
	r := filled(2, 3)
	r.Len()
	r.Copy()
	r.Copy().Drain()
	for range r.All() {
	}
	check(t, "asked", r, []int{100, 101}, true)
	if r.Put(7) || r.Put(8) {
		t.Errorf("Put into a full queue = true")
	}
	check(t, "full", r, []int{100, 101}, true)
	checkDrain(t, "full", r, []int{100, 101}, true)
	if !r.Put(9) || r.Lost() {
		t.Errorf("Put behind a Drain")
	}
	checkDrain(t, "behind a Drain", r, []int{9}, false)
}

// 3.1: things of several types, the zero value among them, and the same one several times.
func TestTypes(t *testing.T) {
	checkType(t, "int", []int{3, 0, 3, -1, math.MinInt})
	checkType(t, "string", []string{"", "a", "", "a", "\xff\x00"})
	checkType(t, "bool", []bool{false, true, false, false})
	checkType(t, "array", [][2]byte{{1, 2}, {}, {1, 2}, {0, 9}})
	checkType(t, "struct{}", []struct{}{{}, {}, {}})
	checkType(t, "error", []error{nil, nil, nil})
	checkType(t, "any", []any{nil, 1, "a", nil, 2.5})
	one := 1
	checkType(t, "pointer", []*int{&one, nil, &one})
	ann := api.Event{User: "ann", New: api.Presence{Status: 2, Live: 1}, Seq: 1}
	bob := api.Event{User: "bob", Old: api.Presence{Status: 2, Live: 1}, Seq: math.MaxUint64}
	checkType(t, "event", []api.Event{ann, bob, {}, ann})
}

// checkType puts things into queues with room for fewer, as many, and more.
func checkType[T comparable](t *testing.T, what string, things []T) {
	t.Helper()
	for room := range len(things) + 3 {
		r := ring.New[T](room)
		for i, x := range things {
			if got := r.Put(x); got != (i < room) {
				t.Errorf("%s, room %d: Put(%v) = %v", what, room, x, got)
			}
		}
		kept := things[:min(room, len(things))]
		lost := room < len(things)
		check(t, what, r, kept, lost)
		checkDrain(t, what+", copied", r.Copy(), kept, lost)
		checkDrain(t, what, r, kept, lost)
	}
}

// 3.1: things that can't be held against each other.
func TestTypesNotComparable(t *testing.T) {
	r := ring.New[[]int](2)
	r.Put([]int{1, 2})
	r.Put(nil)
	l, lost := r.Copy().Drain()
	if len(l) != 2 || !slices.Equal(l[0], []int{1, 2}) || l[1] != nil || lost {
		t.Errorf("Drain of lists = %v, %v", l, lost)
	}
	n := 0
	f := ring.New[func()](3)
	f.Put(func() { n = n*10 + 1 })
	f.Put(func() { n = n*10 + 2 })
	for do := range f.All() {
		do()
	}
	if n != 12 {
		t.Errorf("functions came as %d, not 12", n)
	}
}

// 3.1: whoever stops is handed no more, and the queue is as it was.
func TestAllStopped(t *testing.T) {
	r := filled(6, 7)
	for stop := 1; stop <= 6; stop++ {
		var got []int
		r.All()(func(x int) bool {
			got = append(got, x)
			return len(got) < stop
		})
		if !slices.Equal(got, rising(100, stop)) {
			t.Errorf("stopped at %d: %v", stop, got)
		}
		for x := range r.All() {
			if x == 100+stop-1 {
				break
			}
		}
		check(t, "stopped", r, rising(100, 6), true)
	}
	checkDrain(t, "stopped", r, rising(100, 6), true)
}

// 3.1: one answer of All is gone through several times, stopped or not, and one inside the other.
func TestAllAgain(t *testing.T) {
	all := filled(5, 3).All()
	for x := range all {
		if got := slices.Collect(all); !slices.Equal(got, rising(100, 3)) {
			t.Errorf("inside, at %d: %v", x, got)
		}
	}
	for range all {
		break
	}
	if got := slices.Collect(all); !slices.Equal(got, rising(100, 3)) {
		t.Errorf("again: %v", got)
	}
}

// 3.1: an empty queue's All is there, and hands out nothing.
func TestAllOfNothing(t *testing.T) {
	drained := filled(2, 2)
	drained.Drain()
	for _, r := range []*ring.Ring[int]{ring.New[int](-1), filled(0, 1), ring.New[int](4), drained} {
		all := r.All()
		if all == nil {
			t.Fatalf("All = nil")
		}
		for x := range all {
			t.Errorf("All of nothing: %d", x)
		}
	}
}

// 3.1: going through all ends, though one is put for each that comes; those from before come all the same.
func TestAllEnds(t *testing.T) {
	r := filled(math.MaxInt, 3)
	var got []int
	for x := range r.All() {
		if len(got) == 1000 {
			t.Fatalf("there is no end of it")
		}
		r.Put(x + 50)
		got = append(got, x)
	}
	if len(got) < 3 || !slices.Equal(got[:3], rising(100, 3)) {
		t.Errorf("All = %v", got)
	}
	want := append(rising(100, 3), rising(150, len(got))...)
	checkDrain(t, "put meanwhile", r, want, false)
}

// 3.1, 3.2: a queue that is drained and filled anew while one goes through it.
func TestDrainWhileGoneThrough(t *testing.T) {
	r := filled(4, 4)
	var got []int
	for x := range r.All() {
		if len(got) == 0 {
			l, _ := r.Drain()
			clear(l)
			r.Put(7)
			r.Put(8)
		}
		got = append(got, x)
	}
	if !slices.Equal(got, rising(100, 4)) {
		t.Errorf("All = %v", got)
	}
	checkDrain(t, "drained meanwhile", r, []int{7, 8}, false)
}

// 3.2: behind a Drain there is the same room again.
func TestPutBehindDrain(t *testing.T) {
	for room := range 20 {
		r := filled(room, room+1)
		for round := range 4 {
			r.Drain()
			first := 1000 * round
			for i := range room {
				if !r.Put(first + i) {
					t.Errorf("room %d: Put of %d behind a Drain = false", room, i)
				}
			}
			check(t, "behind a Drain", r, rising(first, room), false)
			if r.Put(1) {
				t.Errorf("room %d: more room behind a Drain", room)
			}
			check(t, "full behind a Drain", r, rising(first, room), true)
		}
	}
}

// 3.2: a Drain of less than there is room for.
func TestDrainHalfFull(t *testing.T) {
	r := filled(8, 3)
	checkDrain(t, "half full", r, rising(100, 3), false)
	checkDrain(t, "empty", r, nil, false)
	r.Put(1)
	checkDrain(t, "one", r, []int{1}, false)
}

// spoil overwrites a list, and what spare room it has.
func spoil(l []int) {
	l = l[:cap(l)]
	for i := range l {
		l[i] = -1
	}
}

// 3.2: what Drain answered is memory of its own, spare room included.
func TestDrainedIsApart(t *testing.T) {
	for n := range 20 {
		r := filled(16, n)
		c := r.Copy()
		all := r.All()
		first, _ := r.Drain()
		for i := range n {
			r.Put(200 + i)
		}
		if !slices.Equal(first, rising(100, min(n, 16))) {
			t.Errorf("%d: what was drained changed with what was put: %v", n, first)
		}
		spoil(first)
		check(t, "drained and spoilt", r, rising(200, min(n, 16)), n > 16)
		second, _ := r.Drain()
		spoil(first)
		if !slices.Equal(second, rising(200, min(n, 16))) {
			t.Errorf("%d: an answer changed with an earlier one: %v", n, second)
		}
		spoil(second)
		check(t, "the copy", c, rising(100, min(n, 16)), n > 16)
		if got := slices.Collect(all); !slices.Equal(got, rising(100, min(n, 16))) {
			t.Errorf("%d: All changed with what was drained: %v", n, got)
		}
	}
}

// 3.2: a copy has the same room, holds the same, and has lost the same.
func TestCopy(t *testing.T) {
	for room := -1; room <= 18; room++ {
		for n := range 20 {
			r := filled(room, n)
			c := r.Copy()
			if c == r {
				t.Fatalf("Copy answers the queue itself")
			}
			kept := min(n, max(room, 0))
			check(t, "copy", c, rising(100, kept), n > kept)
			left := 0
			for c.Put(100 + kept + left) {
				left++
			}
			if left != max(room, 0)-kept {
				t.Errorf("room %d, %d in it: the copy has room for %d more", room, kept, left)
			}
			check(t, "the first one", r, rising(100, kept), n > kept)
			checkDrain(t, "copy", c, rising(100, max(room, 0)), true)
			checkDrain(t, "the first one", r, rising(100, kept), n > kept)
		}
	}
}

// 3.2: each is changed behind the copying, and the other one is as it was.
func TestCopyIsApart(t *testing.T) {
	for n := range 20 {
		r := filled(20, n)
		c := r.Copy()
		d := c.Copy()
		r.Put(1)
		c.Put(2)
		d.Put(3)
		check(t, "the first one", r, append(rising(100, n), 1), false)
		check(t, "the copy", c, append(rising(100, n), 2), false)
		check(t, "the copy's copy", d, append(rising(100, n), 3), false)
		for r.Put(4) {
		}
		check(t, "the copy, the first one full", c, append(rising(100, n), 2), false)
		l, _ := c.Drain()
		spoil(l)
		check(t, "the copy's copy, the copy drained", d, append(rising(100, n), 3), false)
		if r.Len() != 20 || !r.Lost() {
			t.Errorf("%d: the first one changed with its copy", n)
		}
		c.Put(5)
		checkDrain(t, "the copy, put anew", c, []int{5}, false)
	}
}

// 3.2: what a copy loses, or forgets that it lost, the other one doesn't.
func TestCopyLosesApart(t *testing.T) {
	r := filled(2, 2)
	c := r.Copy()
	c.Put(1)
	check(t, "a copy lost something", r, rising(100, 2), false)
	d := c.Copy()
	c.Drain()
	check(t, "a copy was drained", d, rising(100, 2), true)
	r.Put(1)
	check(t, "the first one lost something", c, nil, false)
}

// plain is a queue as the document says it, in the plainest way: all that was ever put, what came out, what is in it.
type plain struct {
	room      int
	put, came []int
	in        []int
	lost      bool
}

func (p *plain) add(x int) bool {
	if len(p.in) >= p.room {
		p.lost = true
		return false
	}
	p.in = append(p.in, x)
	p.put = append(p.put, x)
	return true
}

// 3.3: long runs of Put, Drain, Copy and All; each thing that was put, and not lost, came out once, in order.
func TestOnceInOrder(t *testing.T) {
	dice := uint32(1)
	roll := func(n uint32) uint32 {
		dice = dice*1664525 + 1013904223
		return (dice >> 8) % n
	}
	for room := range 18 {
		r := ring.New[int](room)
		p := plain{room: room}
		for next := range 3000 {
			switch roll(12) {
			case 0:
				l, lost := r.Drain()
				if lost != p.lost {
					t.Fatalf("room %d: Drain tells %v of what was lost", room, lost)
				}
				p.came = append(p.came, l...)
				p.in, p.lost = nil, false
				spoil(l)
			case 1:
				old := r
				r = r.Copy()
				spoilQueue(old)
			case 2:
				check(t, "gone through", r, p.in, p.lost)
			default:
				if got, want := r.Put(next), p.add(next); got != want {
					t.Fatalf("room %d: Put = %v", room, got)
				}
			}
		}
		l, _ := r.Drain()
		if came := append(p.came, l...); !slices.Equal(came, p.put) {
			t.Errorf("room %d: %d were put, %d came out, or not in order", room, len(p.put), len(came))
		}
	}
}

// spoilQueue changes a queue in each way that there is.
func spoilQueue(r *ring.Ring[int]) {
	r.Put(-1)
	l, _ := r.Drain()
	spoil(l)
	r.Put(-2)
}
