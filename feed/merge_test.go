package feed_test

import (
	"slices"
	"strconv"
	"testing"

	"doorman/api"
	"doorman/feed"
)

// lists are of events with those numbers; each event tells its list, and its place there.
func lists(seqs ...[]uint64) [][]api.Event {
	var l [][]api.Event
	for i, numbers := range seqs {
		var events []api.Event
		for k, seq := range numbers {
			events = append(events, api.Event{User: strconv.Itoa(i), Old: pres(i, k, 1), New: pres(k, i, 2), Seq: seq})
		}
		l = append(l, events)
	}
	return l
}

// plainMerge looks, for each event, at all first ones that are left.
func plainMerge(l [][]api.Event) []api.Event {
	left := slices.Clone(l)
	var merged []api.Event
	for {
		least := -1
		for i, events := range left {
			if len(events) > 0 && (least < 0 || events[0].Seq < left[least][0].Seq) {
				least = i
			}
		}
		if least < 0 {
			return merged
		}
		merged = append(merged, left[least][0])
		left[least] = left[least][1:]
	}
}

// handed is lists as merge hands them in: with spare room that holds junk, and lists of junk behind the last one.
func handed(l [][]api.Event) [][]api.Event {
	in := roomy(l, []api.Event{junkEvent})
	for i, events := range in {
		in[i] = roomy(events, junkEvent)
	}
	return in
}

// memory is a copy of all that lists hold, spare room included.
func memory(l [][]api.Event) [][]api.Event {
	m := slices.Clone(l[:cap(l)])
	for i, events := range m {
		m[i] = slices.Clone(events[:cap(events)])
	}
	return m
}

// merge is Merge, twice: it sees that the two answer alike, share no memory with each other or with what was handed in, and leave that as it was.
func merge(t *testing.T, l [][]api.Event) []api.Event {
	t.Helper()
	in := handed(l)
	before := memory(in)
	asIs := func(when string) {
		t.Helper()
		// The lists themselves too: that none of them stands elsewhere, or is cut.
		if !slices.EqualFunc(memory(in), before, slices.Equal) || !slices.EqualFunc(in, l, slices.Equal) {
			t.Errorf("Merge: what was handed in is changed from %v to %v %s", l, in, when)
		}
	}
	got := feed.Merge(in)
	want := slices.Clone(got)
	asIs("by the call")
	again := feed.Merge(in)
	asIs("by the second call")
	checkEvents(t, "a second Merge", again, want)
	scribble(again, junkEvent)
	asIs("by what was written into the answer")
	checkEvents(t, "behind a scribbling into another answer", got, want)
	for _, events := range in {
		scribble(events, junkEvent)
	}
	checkEvents(t, "behind a scribbling into what was handed in", got, want)
	return got
}

// places are the list and the place there of each event, of which lists made them.
func places(l []api.Event) [][2]int {
	var p [][2]int
	for _, e := range l {
		p = append(p, [2]int{e.Old.Status, e.Old.Prio})
	}
	return p
}

// 9.3: by hand, at the edges.
func TestMerge(t *testing.T) {
	type seqs = []uint64
	cases := []struct {
		what  string
		lists [][]uint64
		want  [][2]int
	}{
		{"no lists", nil, nil},
		{"an empty one", []seqs{nil}, nil},
		{"empty ones", []seqs{nil, nil, nil}, nil},
		{"one", []seqs{{1, 2, 5}}, [][2]int{{0, 0}, {0, 1}, {0, 2}}},
		{"one that doesn't rise", []seqs{{5, 1, 3, 3, 0}}, [][2]int{{0, 0}, {0, 1}, {0, 2}, {0, 3}, {0, 4}}},
		{"one behind the other", []seqs{{1, 2}, {3, 4}}, [][2]int{{0, 0}, {0, 1}, {1, 0}, {1, 1}}},
		{"one ahead of the other", []seqs{{3, 4}, {1, 2}}, [][2]int{{1, 0}, {1, 1}, {0, 0}, {0, 1}}},
		{"in turns", []seqs{{1, 4}, {2, 5}, {3, 6}}, [][2]int{{0, 0}, {1, 0}, {2, 0}, {0, 1}, {1, 1}, {2, 1}}},
		{"empty ones among others", []seqs{nil, {2, 5}, nil, nil, {1, 3}, nil}, [][2]int{{4, 0}, {1, 0}, {4, 1}, {1, 1}}},
		{"equal numbers", []seqs{{7}, {7}, {7}}, [][2]int{{0, 0}, {1, 0}, {2, 0}}},
		{"equal numbers, several of each", []seqs{{7, 7, 8}, {7, 7}, {6, 7}}, [][2]int{{2, 0}, {0, 0}, {0, 1}, {1, 0}, {1, 1}, {2, 1}, {0, 2}}},
		{"a great one holds up lesser ones behind it", []seqs{{5, 1}, {3, 4, 6}}, [][2]int{{1, 0}, {1, 1}, {0, 0}, {0, 1}, {1, 2}}},
		{"two that hold up", []seqs{{9, 1, 2}, {8, 3, 0}, {4}}, [][2]int{{2, 0}, {1, 0}, {1, 1}, {1, 2}, {0, 0}, {0, 1}, {0, 2}}},
		{"falling ones", []seqs{{3, 2, 1}, {3, 2, 1}}, [][2]int{{0, 0}, {0, 1}, {0, 2}, {1, 0}, {1, 1}, {1, 2}}},
		{"the ends of numbers", []seqs{{top}, {0, top}, {1 << 63, top - 1}}, [][2]int{{1, 0}, {2, 0}, {2, 1}, {0, 0}, {1, 1}}},
	}
	for _, c := range cases {
		if got := places(merge(t, lists(c.lists...))); !slices.Equal(got, c.want) {
			t.Errorf("%s: Merge has the lists and places %v, not %v", c.what, got, c.want)
		}
	}
	if got := feed.Merge([][]api.Event{}); len(got) != 0 {
		t.Errorf("Merge of no lists = %v", got)
	}
	if got := feed.Merge([][]api.Event{{}, nil, {}}); len(got) != 0 {
		t.Errorf("Merge of lists without events = %v", got)
	}
}

// 9.3: the number alone decides, and an event comes out whole.
func TestMergeLeavesEventsWhole(t *testing.T) {
	a := api.Event{User: "zoe", Old: pres(9, 9, 9), New: pres(8, 8, 8), Seq: 1}
	b := api.Event{User: "ann", Old: pres(-1, 0, 1), New: pres(2, 3, 4), Seq: 1}
	c := api.Event{Seq: 2}
	checkEvents(t, "whole", merge(t, [][]api.Event{{a, c}, {b}}), []api.Event{a, b, c})
	checkEvents(t, "the other way round", merge(t, [][]api.Event{{b}, {a, c}}), []api.Event{b, a, c})
	checkEvents(t, "an event more than once", merge(t, [][]api.Event{{a, a}, {a, b}}), []api.Event{a, a, a, b})
}

// 9.3: one list that stands at several places.
func TestMergeOfOneListTwice(t *testing.T) {
	l := lists([]uint64{1, 3, 2})[0]
	checkEvents(t, "twice", merge(t, [][]api.Event{l, l}), plainMerge([][]api.Event{l, l}))
	alike := [][]api.Event{l, l[1:], l[:2]}
	before := memory(alike)
	checkEvents(t, "shared", feed.Merge(alike), plainMerge(alike))
	if !slices.EqualFunc(memory(alike), before, slices.Equal) {
		t.Errorf("Merge: what was handed in is changed to %v", alike)
	}
}

// 9.3: all lists of up to three events with numbers from 0 to 2, by twos; and of up to two with numbers 0 and 1, by fours.
func TestMergeOfAllSmallLists(t *testing.T) {
	all := func(most, numbers int) [][]uint64 {
		some := [][]uint64{nil}
		for at := 0; at < len(some); at++ {
			for seq := range numbers {
				if len(some[at]) < most {
					some = append(some, append(slices.Clone(some[at]), uint64(seq)))
				}
			}
		}
		return some
	}
	three := all(3, 3)
	for _, a := range three {
		for _, b := range three {
			l := lists(a, b)
			checkEvents(t, "two lists", merge(t, l), plainMerge(l))
		}
	}
	two := all(2, 2)
	for _, a := range two {
		for _, b := range two {
			for _, c := range two {
				for _, d := range two {
					l := lists(a, b, c, d)
					checkEvents(t, "four lists", merge(t, l), plainMerge(l))
				}
			}
		}
	}
}

// 9.3: lists of many shapes, rising or not, held against the plain way.
func TestMergeOfManyLists(t *testing.T) {
	n := uint32(1)
	roll := func(below int) int {
		n = n*1664525 + 1013904223
		return int(n>>8) % below
	}
	for range 1000 {
		seqs := make([][]uint64, roll(12))
		numbers := 1 + roll(20)
		rises := roll(2) == 0
		for i := range seqs {
			for range roll(9) {
				seqs[i] = append(seqs[i], uint64(roll(numbers)))
			}
			if rises {
				slices.Sort(seqs[i])
			}
		}
		l := lists(seqs...)
		checkEvents(t, "many lists", merge(t, l), plainMerge(l))
	}
}

// 9.3: very many lists, and very long ones.
func TestMergeOfVeryMany(t *testing.T) {
	const n = 50000
	seqs := make([][]uint64, n)
	for i := range seqs {
		seqs[i] = []uint64{uint64(n - i)}
	}
	for i, e := range merge(t, lists(seqs...)) {
		if e.Seq != uint64(i+1) {
			t.Fatalf("the event %d has the number %d", i, e.Seq)
		}
	}
	long := make([][]uint64, 8)
	for i := range n {
		long[i*3%8] = append(long[i*3%8], uint64(i))
	}
	for i, e := range merge(t, lists(long...)) {
		if e.Seq != uint64(i) {
			t.Fatalf("the event %d has the number %d", i, e.Seq)
		}
	}
}
