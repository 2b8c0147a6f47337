package hall_test

import (
	"fmt"
	"math"
	"testing"

	"doorman/api"
)

// act is what was done: 1 Read, 2 Write, 3 Load, 4 Store, 5 Lock, 6 Unlock.
func act(who, kind, place int) api.Act { return api.Act{Who: who, Kind: kind, Place: place} }

// 14.2: the document's example.
func TestExample(t *testing.T) {
	b := newTable(t, ordinary)
	b.acts(look(3), act(3, 3, 0))
}

// 14.2, 14.3: each act of each process, at each stripe: its kind and place.
func TestActs(t *testing.T) {
	for stripes := 1; stripes <= 8; stripes++ {
		b := newTable(t, sizes(stripes, 1, 1, 2))
		for s := range stripes {
			for who := range 10 {
				b.acts(look(who), act(who, 3, 0))
				b.acts(take(who), act(who, 4, 0))
				b.acts(pass(who, 1), act(who, 4, 0))
				b.acts(lock(who, s), act(who, 5, 4*s+1))
				b.acts(unlock(who, s), act(who, 6, 4*s+1))
				b.acts(epoch(who, s), act(who, 3, 4*s+2))
				b.acts(begin(who, s), act(who, 4, 4*s+2))
				b.acts(end(who, s), act(who, 4, 4*s+2))
				b.acts(snap(who, s), act(who, 3, 4*s+3))
				b.acts(publish(who, s), act(who, 1, 4*s+4), act(who, 4, 4*s+3))
				b.acts(write(who, s, set("ann", 1, 1, 5), at(3, 4)), act(who, 2, 4*s+4))
				b.acts(sweep(who, s, at(3, 4)), act(who, 2, 4*s+4))
				b.acts(read(who, s), act(who, 1, 4*s+4))
				b.acts(count(who, s, "ann"), act(who, 1, 4*s+4))
				b.acts(watch(who, s, "ann", true), act(who, 2, 4*s+4))
				b.acts(watch(who, s, "ann", false), act(who, 2, 4*s+4))
				b.acts(drain(who, s), act(who, 2, 4*s+4))
			}
		}
		b.acts(shut(stripes), act(stripes, 4, 0))
	}
}

// 14.2, 14.3: what changes nothing is an act all the same, but for locks.
func TestActsThatChangeNothing(t *testing.T) {
	b := newTable(t, sizes(2, 1, 1, 0))
	b.acts(pass(9, 0), act(9, 4, 0))
	b.acts(begin(2, 1), act(2, 4, 6))
	b.acts(end(2, 1), act(2, 4, 6))
	b.acts(publish(2, 1), act(2, 1, 8), act(2, 4, 7))
	b.acts(write(2, 1, op(api.Clear, "ann", 1, 0), at(0, 1)), act(2, 2, 8))
	b.acts(write(2, 1, set("ann", 1, 1, 5), closedAt(0, 1)), act(2, 2, 8))
	b.acts(write(2, 1, api.Op{}, at(0, 1)), act(2, 2, 8))
	b.acts(sweep(8, 1, at(0, 1)), act(8, 2, 8))
	b.acts(watch(2, 1, "ann", false), act(2, 2, 8))
	b.acts(drain(2, 1), act(2, 2, 8))
	b.acts(shut(2), act(2, 4, 0))
	b.acts(shut(2), act(2, 4, 0))
	b.acts(unlock(2, 1))
	b.acts(lock(2, 1), act(2, 5, 5))
	b.acts(lock(2, 1))
	b.acts(lock(3, 1))
	b.acts(unlock(3, 1))
}

// 14.2: Look tells the time, Take counts a writing and tells it, Pass lets it go on.
func TestTime(t *testing.T) {
	c := ordinary
	c.Start = 7
	b := newTable(t, c)
	b.is("{7 0 false}", look(0))
	b.is("{7 1 false}", take(1))
	b.is("{7 2 false}", take(8))
	b.is("{7 2 false}", look(1))
	b.do(pass(9, 3))
	b.is("{10 2 false}", look(1))
	b.do(pass(9, 0))
	b.is("{10 3 false}", take(1))
	b.do(pass(3, 1<<63))
	b.is(fmt.Sprintf("{%d 3 false}", uint64(1<<63+10)), look(1))
}

// 14.2: time ends at 2^64 - 1, and stays there; writings are counted all the same.
func TestTimeEnds(t *testing.T) {
	for _, start := range []uint64{top - 5, top - 4, top} {
		c := ordinary
		c.Start = start
		b := newTable(t, c)
		b.do(pass(9, 5))
		b.is("{18446744073709551615 0 false}", look(0))
		b.do(pass(9, top))
		b.is("{18446744073709551615 1 false}", take(0))
		b.do(pass(9, 1))
		b.is("{18446744073709551615 1 false}", look(0))
	}
}

// 14.2: Shut tells whether it wasn't closed; it stays closed, while time goes on and writings are counted.
func TestShut(t *testing.T) {
	b := newTable(t, ordinary)
	b.do(take(1))
	b.is("true", shut(4))
	for who := range 8 {
		b.is("false", shut(who))
	}
	b.is("{0 1 true}", look(0))
	b.do(pass(9, 2))
	b.is("{2 2 true}", take(0))
}

// 14.2: one process at a time has a stripe's lock, and gives it back; of each stripe apart.
func TestLocks(t *testing.T) {
	for owner := range 10 {
		b := newTable(t, sizes(3, 1, 1, 0))
		for s := range 3 {
			b.is("false", unlock(owner, s))
			b.is("true", lock(owner, s))
			for who := range 10 {
				b.is("false", lock(who, s))
				if who != owner {
					b.is("false", unlock(who, s))
				}
			}
		}
		for s := range 3 {
			b.is("true", unlock(owner, s))
			b.is("false", unlock(owner, s))
			next := (owner + s + 1) % 10
			b.is("true", lock(next, s))
			b.is("false", unlock(owner, s))
			b.is("true", unlock(next, s))
		}
	}
}

// 14.2: a number of no process takes no lock, and gives none back: no act.
func TestLocksOfNobody(t *testing.T) {
	b := newTable(t, sizes(2, 1, 1, 0))
	for _, who := range []int{-1, -2, math.MinInt, math.MaxInt} {
		for _, d := range []deed{lock(who, 0), unlock(who, 0), unlock(who, 1)} {
			if got := d.do(b.h); got != "false" {
				t.Errorf("%s = %s", d.name, got)
			}
			b.see(d.name)
		}
	}
	b.is("true", lock(0, 1))
	for _, who := range []int{-1, -2, math.MinInt, math.MaxInt} {
		b.is("false", unlock(who, 1))
	}
	b.is("true", unlock(0, 1))
}

// 14.2: the epoch goes on from Begin to End up to the bound, and stays there; of an odd bound up to the number below.
func TestEpochs(t *testing.T) {
	for bound := range uint64(8) {
		b := newTable(t, sizes(2, 1, 1, bound))
		for n := range uint64(6) {
			is := min(2*n, bound/2*2)
			b.is(fmt.Sprint(is), epoch(0, 1))
			b.do(end(1, 1))
			b.is(fmt.Sprint(is), epoch(0, 1))
			b.do(begin(1, 1))
			b.is(fmt.Sprint(min(is+1, bound/2*2)), epoch(0, 1))
			b.do(begin(2, 1))
			b.is(fmt.Sprint(min(is+1, bound/2*2)), epoch(0, 1))
			b.do(end(3, 1))
		}
		b.is("0", epoch(0, 0))
	}
	b := newTable(t, sizes(1, 1, 1, top))
	for n := range 1000 {
		b.is(fmt.Sprint(2*n), epoch(0, 0))
		begin(0, 0).do(b.h)
		begin(0, 0).do(b.p)
		b.do(end(0, 0))
	}
}

// 14.2: what was published is the own book as it was at Publish; of each stripe apart, whatever was written since.
func TestPublish(t *testing.T) {
	b := newTable(t, sizes(3, 2, 1, 4))
	for s := range 3 {
		one := fmt.Sprintf("[ann [{1 %d 0 5}] {%d 0 1}]", s+1, s+1)
		b.do(write(0, s, set("ann", 1, s+1, 5), at(0, 1)))
		b.is("[]", snap(1, s))
		b.is(one, read(1, s))
		b.do(publish(0, s))
		b.is(one, snap(1, s))
		b.do(write(0, s, set("bob", 2, 3, 9), at(0, 2)))
		b.is(one, snap(1, s))
		b.do(publish(2, s))
		b.is(one[:len(one)-1]+" bob [{2 3 0 9}] {3 0 1}]", snap(1, s))
		b.do(sweep(8, s, at(9, 3)))
		b.is("[]", read(1, s))
		b.do(publish(8, s))
		b.is("[]", snap(1, s))
	}
}
