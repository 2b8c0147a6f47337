package latch_test

import (
	"math"
	"slices"
	"testing"

	"doorman/latch"
)

// junk stands in a list's spare room.
const junk = -77

// roomy is a list with junk in its spare room.
func roomy(l []int) []int {
	all := slices.Repeat([]int{junk}, len(l)+3)
	copy(all, l)
	return all[:len(l)]
}

// checkRises asks twice, of a list without spare room, and of one with it, and looks at all of its memory behind that.
func checkRises(t *testing.T, l []int, want bool) {
	t.Helper()
	for _, asked := range [][]int{slices.Clip(slices.Clone(l)), roomy(l)} {
		before := slices.Clone(asked[:cap(asked)])
		for range 2 {
			if got := latch.Rises(asked); got != want {
				t.Fatalf("Rises(%v) = %v", l, got)
			}
		}
		if !slices.Equal(asked[:cap(asked)], before) {
			t.Fatalf("Rises(%v) changes the list, or its spare room: %v", l, asked[:cap(asked)])
		}
	}
}

// count is so many numbers, from a first one on, each greater by a step.
func count(first, step, many int) []int {
	var l []int
	for i := range many {
		l = append(l, first+step*i)
	}
	return l
}

// 13.2: a list without numbers has none that isn't greater, whether it is nil or empty.
func TestRisesOfNone(t *testing.T) {
	for range 2 {
		if !latch.Rises(nil) {
			t.Errorf("nil doesn't rise")
		}
		if !latch.Rises([]int{}) {
			t.Errorf("an empty list doesn't rise")
		}
	}
	checkRises(t, nil, true)
}

// 13.2: of the first number nothing is asked.
func TestRisesOfOne(t *testing.T) {
	for _, n := range slices.Concat(processes, strangers) {
		checkRises(t, []int{n}, true)
	}
}

// 13.2: of two numbers, at all edges: one is greater by how they stand, whatever is between them, and the same isn't greater.
func TestRisesOfTwo(t *testing.T) {
	edges := []int{
		math.MinInt, math.MinInt + 1, -1 << 62, math.MinInt32 - 1, math.MinInt32, -256, -2, -1,
		0, 1, 2, 255, 256, math.MaxInt32, math.MaxInt32 + 1, math.MaxUint32, math.MaxUint32 + 1, 1 << 62, math.MaxInt - 1, math.MaxInt,
	}
	for i, a := range edges {
		for j, b := range edges {
			checkRises(t, []int{a, b}, i < j)
		}
	}
}

// 13.2
func TestRises(t *testing.T) {
	cases := []struct {
		l    []int
		want bool
	}{
		{[]int{0, 1, 2, 3, 4, 5, 6, 7}, true},
		{[]int{1, 5, 9, 13}, true},
		{[]int{0, 7}, true},
		{[]int{-3, -2, -1, 0, 1}, true},
		{[]int{-5, 0, 1000}, true},
		{[]int{math.MinInt, 0, math.MaxInt}, true},
		{[]int{math.MinInt, -1, 0, 1, math.MaxInt}, true},
		// Not greater at the beginning, in the midst, at the end.
		{[]int{2, 1, 3, 4}, false},
		{[]int{1, 3, 2, 4}, false},
		{[]int{1, 2, 4, 3}, false},
		// The same at the beginning, in the midst, at the end.
		{[]int{1, 1, 2, 3}, false},
		{[]int{1, 2, 2, 3}, false},
		{[]int{1, 2, 3, 3}, false},
		{[]int{0, 0}, false},
		{[]int{-1, -1}, false},
		{[]int{5, 5, 5, 5}, false},
		// Greater than the one two ahead, but not than the one ahead.
		{[]int{1, 4, 2, 5, 3, 6}, false},
		{[]int{0, 2, 1}, false},
		// The last one is greater than the first one all the same.
		{[]int{0, 3, 3, 9}, false},
		// They fall.
		{[]int{3, 2, 1}, false},
		{[]int{7, 6, 5, 4, 3, 2, 1, 0}, false},
		{[]int{math.MaxInt, 0, math.MinInt}, false},
		// The same number again, not side by side.
		{[]int{1, 2, 1}, false},
		{[]int{0, 1, 2, 0}, false},
	}
	for _, c := range cases {
		checkRises(t, c.l, c.want)
	}
}

// 13.2: what stands in the spare room counts for nothing, neither behind nothing nor behind numbers.
func TestRisesLeavesSpareRoom(t *testing.T) {
	all := []int{4, 7, 5, 9}
	for i, want := range []bool{true, true, true, false, false} {
		if got := latch.Rises(all[:i]); got != want {
			t.Errorf("Rises(%v) = %v", all[:i], got)
		}
	}
}

// 13.2: all lists of up to six of five numbers; a list rises just if any number is greater than all that stand ahead of it.
func TestRisesOfAllShort(t *testing.T) {
	numbers := []int{math.MinInt, -1, 0, 1, math.MaxInt}
	for many := range 7 {
		for script := range power(len(numbers), many) {
			var l []int
			for n := script; len(l) < many; n /= len(numbers) {
				l = append(l, numbers[n%len(numbers)])
			}
			checkRises(t, l, ordered(l))
		}
	}
}

// power is a number, so often times itself.
func power(n, often int) int {
	p := 1
	for range often {
		p *= n
	}
	return p
}

// ordered holds each number against all of those ahead of it.
func ordered(l []int) bool {
	for i := range l {
		for j := range i {
			if l[j] >= l[i] {
				return false
			}
		}
	}
	return true
}

// 13.2: long lists that rise, and don't any more by one number alone, wherever it stands.
func TestRisesOfLong(t *testing.T) {
	for _, many := range []int{2, 3, 8, 9, 64, 65, 300} {
		for _, l := range [][]int{count(0, 1, many), count(-1000, 7, many), count(math.MinInt, 1, many), count(math.MaxInt-many+1, 1, many)} {
			checkRises(t, l, true)
			for i := 1; i < many; i++ {
				same := slices.Clone(l)
				same[i] = l[i-1]
				checkRises(t, same, false)
				turned := slices.Clone(l)
				turned[i-1], turned[i] = l[i], l[i-1]
				checkRises(t, turned, false)
			}
		}
	}
}

// 13.2: a list of a million.
func TestRisesOfMany(t *testing.T) {
	l := count(-500000, 1, 1000000)
	checkRises(t, l, true)
	l[len(l)-1]--
	checkRises(t, l, false)
}
