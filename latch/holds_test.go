package latch_test

import (
	"testing"

	"doorman/latch"
)

// deed is what a process tries.
type deed struct {
	who  int
	give bool
}

// havers are those who were told that they have the lock, and gave it not back since: nothing of it is asked of the lock.
type havers map[int]bool

// try has one deed done, and holds its answer against who has the lock: only what nobody has is taken, and only what one has is given.
func (h havers) try(t *testing.T, l latch.Latch, d deed) latch.Latch {
	t.Helper()
	if d.give {
		k, ok := l.Give(d.who)
		if ok != h[d.who] {
			t.Fatalf("%v has %v: Give(%d) is %v", h, l, d.who, ok)
		}
		delete(h, d.who)
		return k
	}
	k, ok := l.Take(d.who)
	if ok != (len(h) == 0 && d.who >= 0) {
		t.Fatalf("%v has %v: Take(%d) is %v", h, l, d.who, ok)
	}
	if ok {
		h[d.who] = true
	}
	return k
}

// see holds a lock against who has it.
func (h havers) see(t *testing.T, l latch.Latch) {
	t.Helper()
	if len(h) > 1 {
		t.Fatalf("%v have %v at one time", h, l)
	}
	if l.Free() != (len(h) == 0) {
		t.Fatalf("%v has %v: free is %v", h, l, l.Free())
	}
	if (l.Owner() == -1) != l.Free() {
		t.Fatalf("%v is of %d, but free is %v", l, l.Owner(), l.Free())
	}
	if !l.Free() && !h[l.Owner()] {
		t.Fatalf("%v has %v: it is of %d", h, l, l.Owner())
	}
}

// deeds are all that some processes may try.
func deeds(who ...int) []deed {
	var l []deed
	for _, w := range who {
		l = append(l, deed{w, false}, deed{w, true})
	}
	return l
}

// 13.3: all scripts of six tries, of three processes and of one who is none; at each step one at most has it.
func TestOneAtATime(t *testing.T) {
	const steps = 6
	tries := deeds(0, 1, 9, -1)
	for script := range power(len(tries), steps) {
		var l latch.Latch
		h := havers{}
		for n, i := script, 0; i < steps; n, i = n/len(tries), i+1 {
			l = h.try(t, l, tries[n%len(tries)])
			h.see(t, l)
		}
	}
}

// 13.3: all processes of a table and some who are none, for long.
func TestOneAtATimeForLong(t *testing.T) {
	tries := deeds(0, 1, 2, 3, 4, 5, 6, 7, 8, 9, -1, -9)
	var l latch.Latch
	h := havers{}
	had := map[int]int{}
	roll := uint64(1)
	for range 200000 {
		roll = roll*6364136223846793005 + 1442695040888963407
		l = h.try(t, l, tries[roll>>33%uint64(len(tries))])
		h.see(t, l)
		had[l.Owner()]++
	}
	for who := -1; who < 10; who++ {
		if had[who] < 1000 {
			t.Errorf("%d has it %d times", who, had[who])
		}
	}
}

// 13.3: while one has it nobody else gets it, however often they try; each of them gets it in turn as soon as it is free.
func TestOthersWait(t *testing.T) {
	for owner := range 10 {
		for next := range 10 {
			l := taken(t, owner)
			for range 100 {
				for who := range 10 {
					l = take(t, l, who, false)
					if who != owner {
						l = give(t, l, who, false)
					}
				}
			}
			check(t, "tried by all", l, owner)
			l = take(t, give(t, l, owner, true), next, true)
			check(t, "taken by the next", l, next)
			if owner != next {
				give(t, l, owner, false)
			}
		}
	}
}
