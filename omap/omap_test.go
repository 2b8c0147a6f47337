package omap_test

import (
	"iter"
	"maps"
	"math"
	"slices"
	"testing"

	"doorman/api"
	"doorman/omap"
)

// check holds all that a map tells of itself against what it should hold, and asks it for keys that are there and for some that are not.
func check[K omap.Key, V comparable](t *testing.T, what string, m omap.Map[K, V], want map[K]V, others ...K) {
	t.Helper()
	keys := slices.Sorted(maps.Keys(want))
	if got := m.Keys(); !slices.Equal(got, keys) {
		t.Errorf("%s: Keys = %v, not %v", what, got, keys)
	}
	if m.Len() != len(want) {
		t.Errorf("%s: Len = %d, not %d", what, m.Len(), len(want))
	}
	var came []K
	for k, v := range m.All() {
		if v != want[k] {
			t.Errorf("%s: All hands out %v with %v, not %v", what, k, v, want[k])
		}
		came = append(came, k)
	}
	if !slices.Equal(came, keys) {
		t.Errorf("%s: All = %v, not %v", what, came, keys)
	}
	for _, k := range slices.Concat(keys, others) {
		wantValue, wantOk := want[k]
		if v, ok := m.Get(k); v != wantValue || ok != wantOk {
			t.Errorf("%s: Get(%v) = %v, %v, not %v, %v", what, k, v, ok, wantValue, wantOk)
		}
	}
}

// of is a map into which those keys were put, in that order, each with its place as its value.
func of[K omap.Key](keys ...K) omap.Map[K, int] {
	var m omap.Map[K, int]
	for i, k := range keys {
		m = m.With(k, i)
	}
	return m
}

// 4.2: the document's example.
func TestExample(t *testing.T) {
	var m omap.Map[int, string]
	if k := m.With(2, "b").With(1, "a").Keys(); !slices.Equal(k, []int{1, 2}) {
		t.Errorf("Keys = %v", k)
	}
}

// 4.1, 4.2: the zero Map is empty, and so is what has lost its last key.
func TestEmpty(t *testing.T) {
	var zero omap.Map[string, int]
	check(t, "zero", zero, nil, "", "a")
	check(t, "zero without", zero.Without("a").Without(""), nil, "", "a")
	check(t, "emptied", zero.With("a", 1).Without("a"), nil, "", "a")
	check(t, "zero, used", zero, nil, "", "a")
	check(t, "literal", omap.Map[uint64, bool]{}, nil, 0, 1)
}

// 4.1, 4.2: an empty map's All is there, and hands out nothing.
func TestAllOfNothing(t *testing.T) {
	var zero omap.Map[int, int]
	for _, m := range []omap.Map[int, int]{zero, zero.Without(1), of(3).Without(3)} {
		all := m.All()
		if all == nil {
			t.Fatalf("All = nil")
		}
		for k, v := range all {
			t.Errorf("All of nothing: %d, %d", k, v)
		}
	}
}

// 4.1: a value that is zero is one: it is another thing than no value.
func TestZeroValueIsOne(t *testing.T) {
	m := omap.Map[string, int]{}.With("a", 0).With("", 0)
	check(t, "zero values", m, map[string]int{"a": 0, "": 0}, "b", "\x00")
	p := omap.Map[int, *int]{}.With(0, nil)
	check(t, "nil", p, map[int]*int{0: nil}, 1, -1)
	e := omap.Map[int, error]{}.With(7, nil)
	check(t, "nil error", e, map[int]error{7: nil}, 0)
}

// 4.1: With of a key that has a value already; the other keys keep theirs.
func TestWithAgain(t *testing.T) {
	m := of("a", "b", "c", "d", "e")
	for i, k := range m.Keys() {
		want := map[string]int{"a": 0, "b": 1, "c": 2, "d": 3, "e": 4}
		want[k] = 100
		check(t, "with again", m.With(k, 100), want, "", "f")
		check(t, "with the same", m.With(k, i), map[string]int{"a": 0, "b": 1, "c": 2, "d": 3, "e": 4})
	}
	check(t, "the first one", m, map[string]int{"a": 0, "b": 1, "c": 2, "d": 3, "e": 4})
	check(t, "several times", m.With("a", 7).With("a", 8).With("a", 7), map[string]int{"a": 7, "b": 1, "c": 2, "d": 3, "e": 4})
}

// 4.1: Without of a key that isn't there, below, between and above those that are, and of one that was taken already.
func TestWithoutOther(t *testing.T) {
	m := of(10, 20, 30)
	want := map[int]int{10: 0, 20: 1, 30: 2}
	for _, k := range []int{math.MinInt, 0, 9, 11, 15, 25, 31, math.MaxInt} {
		check(t, "without another", m.Without(k), want, k)
		check(t, "without another, twice", m.Without(k).Without(k), want, k)
	}
	check(t, "twice", m.Without(20).Without(20), map[int]int{10: 0, 30: 2}, 20)
	check(t, "and put again", m.Without(20).With(20, 9), map[int]int{10: 0, 20: 9, 30: 2})
}

// 4.2: texts are in the order of their bytes, and not of letters, runes or lengths.
func TestTextOrder(t *testing.T) {
	rising := []string{"", "\x00", "\x00\x00", "\x00a", " ", "10", "2", "A", "B", "Z", "_", "a", "a\x00", "a ", "aa", "ab", "b", "ba", "z", "\x7f", "\x80", "\xc3", "\xc3\xa4", "\xc3\xa9", "\xe4", "\xef\xbf\xbd", "\xf0\x9f\x98\x80", "\xff", "\xff\xff"}
	checkOrder(t, "texts", rising)
}

// 4.2: numbers, up to both ends.
func TestNumberOrder(t *testing.T) {
	checkOrder(t, "int", []int{math.MinInt, math.MinInt + 1, math.MinInt32, -10, -9, -1, 0, 1, 9, 10, math.MaxInt32, math.MaxInt - 1, math.MaxInt})
	checkOrder(t, "uint64", []uint64{0, 1, 9, 10, math.MaxInt64, 1 << 63, 1<<63 + 1, math.MaxUint64 - 1, math.MaxUint64})
}

type (
	name  string
	place int
	seq   uint64
)

// 4.2: keys of types of their own.
func TestNamedTypes(t *testing.T) {
	checkOrder(t, "name", []name{"", "B", "a", "aa", "\xff"})
	checkOrder(t, "place", []place{math.MinInt, -1, 0, 1, math.MaxInt})
	checkOrder(t, "seq", []seq{0, 1, 1 << 63, math.MaxUint64})
	checkOrder(t, "Errno", []api.Errno{api.OK, api.ErrArg, api.ErrLong})
}

// checkOrder puts keys, which are told rising, in several orders, and takes each of them.
func checkOrder[K omap.Key](t *testing.T, what string, rising []K) {
	t.Helper()
	for first := range rising {
		for _, step := range []int{1, len(rising) - 1} {
			var m omap.Map[K, int]
			want := map[K]int{}
			for i := range rising {
				at := (first + i*step) % len(rising)
				check(t, what, m, want, rising[at])
				m = m.With(rising[at], at+1)
				want[rising[at]] = at + 1
			}
			check(t, what, m, want)
			if got := m.Keys(); !slices.Equal(got, rising) {
				t.Errorf("%s: Keys = %v, not %v", what, got, rising)
			}
			delete(want, rising[first])
			check(t, what+", one taken", m.Without(rising[first]), want, rising[first])
		}
	}
}

// orders are all orders of 0 to n - 1.
func orders(n int) [][]int {
	if n == 0 {
		return [][]int{nil}
	}
	var all [][]int
	for _, l := range orders(n - 1) {
		for at := range n {
			all = append(all, slices.Insert(slices.Clone(l), at, n-1))
		}
	}
	return all
}

// 4.1, 4.2: keys put in whatever order, and taken in whatever order.
func TestAllOrders(t *testing.T) {
	for n := range 6 {
		for _, put := range orders(n) {
			var m omap.Map[int, int]
			want := map[int]int{}
			for _, k := range put {
				m, want[k] = m.With(k, -k), -k
				check(t, "put", m, want, -1, n)
			}
			for _, take := range orders(n) {
				checkTaken(t, m, want, take)
			}
			check(t, "at last", m, want)
		}
	}
}

// checkTaken takes keys out of a map, one by one.
func checkTaken(t *testing.T, m omap.Map[int, int], want map[int]int, take []int) {
	t.Helper()
	want = maps.Clone(want)
	for _, k := range take {
		m = m.Without(k)
		delete(want, k)
		check(t, "taken", m, want, k)
	}
}

// 4.1: values of several types.
func TestValueTypes(t *testing.T) {
	one, two := 1, 2
	checkValues(t, "int", 1, 0, math.MinInt)
	checkValues(t, "string", "", "a", "\xff")
	checkValues(t, "bool", true, false, true)
	checkValues(t, "array", [2]byte{1, 2}, [2]byte{}, [2]byte{9, 9})
	checkValues(t, "struct{}", struct{}{}, struct{}{}, struct{}{})
	checkValues(t, "pointer", &one, &two, nil)
	checkValues(t, "any", any(nil), any(1), any("a"))
	checkValues(t, "error", error(nil), nil, nil)
	checkValues(t, "presence", api.Presence{Status: 2, Live: 1}, api.Presence{}, api.Presence{Status: 9, Prio: 9, Live: 8})
}

// checkValues puts three values, and each of them in the place of each.
func checkValues[V comparable](t *testing.T, what string, a, b, c V) {
	t.Helper()
	m := omap.Map[string, V]{}.With("b", b).With("c", c).With("a", a)
	check(t, what, m, map[string]V{"a": a, "b": b, "c": c}, "")
	for _, v := range []V{a, b, c} {
		for _, k := range m.Keys() {
			want := map[string]V{"a": a, "b": b, "c": c}
			want[k] = v
			check(t, what, m.With(k, v), want, "d")
		}
	}
	check(t, what, m, map[string]V{"a": a, "b": b, "c": c}, "")
}

// 4.1: values that can't be held against each other; what they share is theirs.
func TestValuesNotComparable(t *testing.T) {
	l := []int{1, 2}
	m := omap.Map[int, []int]{}.With(2, l).With(1, nil)
	if got, ok := m.Get(2); !ok || !slices.Equal(got, l) || &got[0] != &l[0] {
		t.Errorf("Get of a list = %v, %v", got, ok)
	}
	if got, ok := m.Get(1); !ok || got != nil {
		t.Errorf("Get of nil = %v, %v", got, ok)
	}
	if got, ok := m.Get(3); ok || got != nil {
		t.Errorf("Get of none = %v, %v", got, ok)
	}
	n := 0
	f := omap.Map[string, func()]{}.With("b", func() { n = n*10 + 2 }).With("a", func() { n = n*10 + 1 })
	for _, do := range f.All() {
		do()
	}
	if n != 12 {
		t.Errorf("functions came as %d, not 12", n)
	}
}

// 4.2: whoever stops is handed no more, and the map is as it was.
func TestAllStopped(t *testing.T) {
	m := of(4, 2, 6, 1, 3, 5, 7, 0)
	want := map[int]int{4: 0, 2: 1, 6: 2, 1: 3, 3: 4, 5: 5, 7: 6, 0: 7}
	for stop := 1; stop <= 8; stop++ {
		var got []int
		m.All()(func(k, v int) bool {
			got = append(got, k)
			return len(got) < stop
		})
		if !slices.Equal(got, m.Keys()[:stop]) {
			t.Errorf("stopped at %d: %v", stop, got)
		}
		for k := range m.All() {
			if k == stop-1 {
				break
			}
		}
		check(t, "stopped", m, want)
	}
}

// keysOf are the keys that one who goes through all is handed.
func keysOf(all iter.Seq2[int, int]) []int {
	var keys []int
	for k := range all {
		keys = append(keys, k)
	}
	return keys
}

// 4.2: one answer of All is gone through several times, stopped or not, and one inside the other, while others are made of the map.
func TestAllAgain(t *testing.T) {
	m := of(3, 1, 2, 5, 4)
	all := m.All()
	for k := range all {
		if got := keysOf(all); !slices.Equal(got, []int{1, 2, 3, 4, 5}) {
			t.Errorf("inside, at %d: %v", k, got)
		}
		m = m.With(k+10, 0).Without(k)
	}
	for range all {
		break
	}
	if got := keysOf(all); !slices.Equal(got, []int{1, 2, 3, 4, 5}) {
		t.Errorf("again: %v", got)
	}
	check(t, "made meanwhile", m, map[int]int{11: 0, 12: 0, 13: 0, 14: 0, 15: 0}, 1, 2, 3, 4, 5)
}

// spoil overwrites a list, and what spare room it has.
func spoil(l []int) {
	l = l[:cap(l)]
	for i := range l {
		l[i] = -1
	}
}

// 4.2: what Keys answered is memory of its own, spare room included.
func TestKeysAreApart(t *testing.T) {
	var m omap.Map[int, int]
	want := map[int]int{}
	for n := range 40 {
		first, second := m.Keys(), m.Keys()
		old := slices.Clone(second)
		spoil(first)
		spoil(append(first, 99))
		if !slices.Equal(second, old) {
			t.Errorf("%d keys: an answer changed with another one: %v", n, second)
		}
		check(t, "spoilt", m, want)
		m, want[n*7%40] = m.With(n*7%40, n), n
		if !slices.Equal(second, old) {
			t.Errorf("%d keys: an answer changed with what was made: %v", n, second)
		}
	}
}

// 4.3: what a map was made of stays, whatever is made of it and of what is made of it.
func TestStays(t *testing.T) {
	m := of(1, 2, 3, 4, 5, 6, 7)
	want := map[int]int{1: 0, 2: 1, 3: 2, 4: 3, 5: 4, 6: 5, 7: 6}
	for k := range 9 {
		with, without := m.With(k, 50), m.Without(k)
		for other := range 9 {
			with.With(other, 60).Without(k)
			without.With(other, 70).With(k, 80).Without(other)
			m.With(other, 90)
			m.Without(other)
		}
		more, fewer := maps.Clone(want), maps.Clone(want)
		more[k] = 50
		delete(fewer, k)
		check(t, "with", with, more)
		check(t, "without", without, fewer, k)
		check(t, "the first one", m, want, 0, 8)
	}
}

// 4.3: two that are made of one don't meddle with each other.
func TestSiblings(t *testing.T) {
	for n := range 30 {
		var m omap.Map[int, int]
		want := map[int]int{}
		for i := range n {
			m, want[2*i] = m.With(2*i, i), i
		}
		for k := -1; k <= 2*n; k++ {
			a, b, c := m.With(k, 100), m.With(k, 200), m.Without(k)
			wantA, wantB, wantC := maps.Clone(want), maps.Clone(want), maps.Clone(want)
			wantA[k], wantB[k] = 100, 200
			delete(wantC, k)
			check(t, "one", a, wantA)
			check(t, "the other one", b, wantB)
			check(t, "without", c, wantC, k)
		}
		check(t, "the first one", m, want)
	}
}

// 4.3: long runs, in which all that was ever made is kept, made use of again, and looked at behind all.
func TestLongRun(t *testing.T) {
	dice := uint32(1)
	roll := func(n int) int {
		dice = dice*1664525 + 1013904223
		return int(dice>>8) % n
	}
	for _, texts := range []int{3, 10, 60} {
		made := []omap.Map[string, int]{{}}
		wants := []map[string]int{{}}
		for step := range 1500 {
			from := len(made) - 1
			if roll(8) == 0 {
				from = roll(len(made))
			}
			k := text(roll(texts))
			want := maps.Clone(wants[from])
			if roll(3) == 0 {
				made = append(made, made[from].Without(k))
				delete(want, k)
			} else {
				made = append(made, made[from].With(k, step))
				want[k] = step
			}
			wants = append(wants, want)
			check(t, "made", made[len(made)-1], want, k, "?")
		}
		for i, m := range made {
			check(t, "behind all", m, wants[i], "?")
		}
	}
}

// text is another one for each number, the empty one for 0.
func text(n int) string {
	b := []byte{}
	for ; n > 0; n /= 5 {
		b = append(b, "a\x00\xffzA"[n%5])
	}
	return string(b)
}

// 4.1, 4.2, 4.3: many keys.
func TestMany(t *testing.T) {
	const n = 50000
	var m omap.Map[uint64, int]
	want := map[uint64]int{}
	for i := range n {
		k := uint64(i) * 0x9e3779b97f4a7c15
		m, want[k] = m.With(k, i), i
	}
	half := m
	fewer := maps.Clone(want)
	for i := 0; i < n; i += 2 {
		k := uint64(i) * 0x9e3779b97f4a7c15
		half = half.Without(k)
		delete(fewer, k)
	}
	check(t, "many", m, want, 1, 2, 3)
	check(t, "half of them", half, fewer, 0, 1, 2)
}
