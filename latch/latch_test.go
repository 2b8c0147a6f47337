package latch_test

import (
	"math"
	"slices"
	"testing"

	"doorman/latch"
)

// processes are numbers of processes: those of the clients, the sweeper and the clock, ones that differ in few bits, and ones that a lesser kind of integer doesn't hold.
var processes = []int{
	0, 1, 2, 3, 4, 5, 6, 7, 8, 9, 10, 127, 128, 254, 255, 256, 257, 512, 65535, 65536,
	math.MaxInt32 - 1, math.MaxInt32, math.MaxInt32 + 1, math.MaxUint32 - 1, math.MaxUint32, math.MaxUint32 + 1, math.MaxUint32 + 2,
	1<<53 + 1, 1 << 62, 1<<63 - 3, 1<<63 - 2,
}

// strangers are numbers that are none of a process'.
var strangers = []int{
	-1, -2, -3, -8, -9, -10, -128, -255, -256, -257, -65536,
	math.MinInt32 - 1, math.MinInt32, math.MinInt32 + 1, -math.MaxUint32 - 1, -math.MaxUint32, -1 << 62, -1<<63 + 1, -1 << 63, 1<<63 - 1,
}

// check holds all that a lock tells of itself against who should have it; -1 is nobody.
func check(t *testing.T, what string, l latch.Latch, owner int) {
	t.Helper()
	if l.Free() != (owner == -1) || l.Owner() != owner {
		t.Errorf("%s: free %v, of %d, not of %d", what, l.Free(), l.Owner(), owner)
	}
}

// ask asks a lock twice, which must be answered alike, and so.
func ask(t *testing.T, name string, call func(latch.Latch, int) (latch.Latch, bool), l latch.Latch, who int, want bool) latch.Latch {
	t.Helper()
	k, ok := call(l, who)
	if ok != want {
		t.Errorf("of %v, %s(%d) is %v", l, name, who, ok)
	}
	if again, same := call(l, who); again != k || same != ok {
		t.Errorf("of %v, %s(%d) is %v and %v, then %v and %v", l, name, who, k, ok, again, same)
	}
	return k
}

// take is a Take that must be answered so.
func take(t *testing.T, l latch.Latch, who int, want bool) latch.Latch {
	t.Helper()
	return ask(t, "Take", latch.Latch.Take, l, who, want)
}

// give is a Give that must be answered so.
func give(t *testing.T, l latch.Latch, who int, want bool) latch.Latch {
	t.Helper()
	return ask(t, "Give", latch.Latch.Give, l, who, want)
}

// taken is a free lock that was taken.
func taken(t *testing.T, who int) latch.Latch {
	t.Helper()
	return take(t, latch.Latch{}, who, true)
}

// 13.1: the document's example.
func TestExample(t *testing.T) {
	l := take(t, latch.Latch{}, 2, true)
	check(t, "Take of 2", l, 2)
	check(t, "Take of 3", take(t, l, 3, false), 2)
}

// 13.1: the zero lock is free, and nobody's.
func TestZero(t *testing.T) {
	var l latch.Latch
	if !l.Free() {
		t.Errorf("it isn't free")
	}
	if l.Owner() != -1 {
		t.Errorf("it is of %d", l.Owner())
	}
}

// 13.1: whatever process takes a free lock has it.
func TestTake(t *testing.T) {
	for _, who := range processes {
		l := taken(t, who)
		if l.Free() {
			t.Errorf("behind Take(%d) it is free", who)
		}
		if l.Owner() != who {
			t.Errorf("behind Take(%d) it is of %d", who, l.Owner())
		}
	}
}

// 13.1: each of the first thousand, one behind the other by one lock.
func TestTakeInTurn(t *testing.T) {
	var l latch.Latch
	for who := range 1000 {
		l = take(t, l, who, true)
		check(t, "taken", l, who)
		l = give(t, l, who, true)
		check(t, "given", l, -1)
	}
}

// 13.1: who is no process doesn't take a free lock; it stays free, and may be taken.
func TestTakeOfNoProcess(t *testing.T) {
	for _, who := range strangers {
		l := take(t, latch.Latch{}, who, false)
		if (l != latch.Latch{}) {
			t.Errorf("Take(%d) leaves %v", who, l)
		}
		check(t, "refused", l, -1)
		check(t, "taken behind it", take(t, l, 3, true), 3)
	}
}

// 13.1: what somebody has, nobody takes: no other process, not who has it, and nobody who is none.
func TestTakeOfTaken(t *testing.T) {
	for _, owner := range processes {
		l := taken(t, owner)
		for _, who := range slices.Concat(processes, strangers) {
			k := take(t, l, who, false)
			if k != l {
				t.Errorf("of %v, Take(%d) leaves %v", l, who, k)
			}
			check(t, "refused", k, owner)
		}
	}
}

// 13.1: who has it gives it back, and it is free; nobody else does, and nobody who is none.
func TestGive(t *testing.T) {
	for _, owner := range processes {
		l := taken(t, owner)
		for _, who := range slices.Concat(processes, strangers) {
			k := give(t, l, who, who == owner)
			if who == owner {
				check(t, "given", k, -1)
				continue
			}
			if k != l {
				t.Errorf("of %v, Give(%d) leaves %v", l, who, k)
			}
			check(t, "refused", k, owner)
		}
	}
}

// 13.1: nobody has a free lock, so nobody gives it back: not who gave it last, and not -1, which tells that it is nobody's.
func TestGiveOfFree(t *testing.T) {
	free := []latch.Latch{{}, give(t, taken(t, 0), 0, true), give(t, taken(t, 7), 7, true)}
	for _, l := range free {
		for _, who := range slices.Concat(processes, strangers) {
			k := give(t, l, who, false)
			if k != l {
				t.Errorf("of %v, Give(%d) leaves %v", l, who, k)
			}
			check(t, "refused", k, -1)
		}
	}
}

// 13.1: one that was given back may be taken by everybody, as the zero one.
func TestTakeAgain(t *testing.T) {
	for _, first := range processes {
		free := give(t, taken(t, first), first, true)
		for _, who := range processes {
			l := take(t, free, who, true)
			check(t, "taken again", l, who)
			check(t, "given again", give(t, l, who, true), -1)
		}
		for _, who := range strangers {
			check(t, "refused", take(t, free, who, false), -1)
		}
	}
}

// 13.1: a refused call changes nothing that a later one tells: who has it still gives it back, and then it is free.
func TestRefusedChangesNothing(t *testing.T) {
	l := taken(t, 4)
	for _, who := range slices.Concat(processes, strangers) {
		l = take(t, l, who, false)
		if who != 4 {
			l = give(t, l, who, false)
		}
		check(t, "refused", l, 4)
	}
	l = give(t, l, 4, true)
	check(t, "given", l, -1)
	check(t, "taken by another", take(t, l, 5, true), 5)
}

// 13.1: a lock that others were made of is as it was, and may be gone on from anew.
func TestHandedOutAnew(t *testing.T) {
	var free latch.Latch
	mine := take(t, free, 1, true)
	yours := take(t, free, 2, true)
	back := give(t, mine, 1, true)
	theirs := take(t, back, 3, true)
	for range 2 {
		check(t, "free", free, -1)
		check(t, "mine", mine, 1)
		check(t, "yours", yours, 2)
		check(t, "back", back, -1)
		check(t, "theirs", theirs, 3)
		take(t, mine, 2, false)
		give(t, mine, 2, false)
		give(t, yours, 2, true)
		give(t, theirs, 3, true)
		take(t, back, 0, true)
	}
}
