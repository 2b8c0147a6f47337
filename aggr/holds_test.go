package aggr_test

import (
	"cmp"
	"slices"
	"testing"

	"doorman/aggr"
	"doorman/api"
)

// plain is what the document says of a list at a time, in the plainest way: those that live, the presence, and the times at which they are late, rising.
func plain(l []api.Session, now uint64) ([]api.Session, api.Presence, []uint64) {
	var live []api.Session
	var untils []uint64
	for _, s := range l {
		if s.Until > now {
			live = append(live, s)
			untils = append(untils, s.Until)
		}
	}
	if len(live) == 0 {
		return nil, api.Presence{}, nil
	}
	slices.Sort(untils)
	best := slices.Clone(live)
	slices.SortStableFunc(best, func(a, b api.Session) int {
		return cmp.Or(cmp.Compare(b.Prio, a.Prio), cmp.Compare(a.Id, b.Id))
	})
	return live, api.Presence{Status: best[0].Status, Prio: best[0].Prio, Live: len(live)}, untils
}

// checkPlain holds all that is told of a list at a time against plain.
func checkPlain(t *testing.T, l []api.Session, now uint64) {
	t.Helper()
	live, presence, untils := plain(l, now)
	if got := slices.Collect(aggr.Live(l, now)); !slices.Equal(got, live) {
		t.Errorf("Live(%v, %d) = %v, not %v", l, now, got, live)
	}
	if got := aggr.Of(l, now); got != presence {
		t.Errorf("Of(%v, %d) = %v, not %v", l, now, got, presence)
	}
	next, found := aggr.Next(l, now)
	if len(untils) == 0 {
		if next != 0 || found {
			t.Errorf("Next(%v, %d) = %d, %v, and nobody lives", l, now, next, found)
		}
		return
	}
	if next != untils[0] || !found {
		t.Errorf("Next(%v, %d) = %d, %v, not %d", l, now, next, found, untils[0])
	}
}

// checkStays sees that the presence stays as it is from now till Next, at those of the times that lie between; and that at Next, where one lives less, it is another one. Where there is no Next, it stays for all times.
func checkStays(t *testing.T, l []api.Session, now uint64, times []uint64) {
	t.Helper()
	is := aggr.Of(l, now)
	next, found := aggr.Next(l, now)
	if found && next <= now {
		t.Errorf("Next(%v, %d) = %d, which isn't ahead", l, now, next)
	}
	for _, at := range times {
		if at < now || found && at >= next {
			continue
		}
		if got := aggr.Of(l, at); got != is {
			t.Errorf("Of(%v): %v at %d, %v at %d, though Next is %d, %v", l, is, now, got, at, next, found)
		}
	}
	if !found {
		return
	}
	if got := aggr.Of(l, next-1); got != is {
		t.Errorf("Of(%v): %v at %d, %v at %d, just ahead of Next", l, is, now, got, next-1)
	}
	if got := aggr.Of(l, next); got.Live >= is.Live {
		t.Errorf("Of(%v): %v at %d, %v at %d, which is Next", l, is, now, got, next)
	}
}

// lists are all lists of up to n of these sessions, in any order, each as often as one likes.
func lists(some []api.Session, n int) [][]api.Session {
	all := [][]api.Session{nil}
	for from := 0; n > 0; n-- {
		longest := all[from:]
		from = len(all)
		for _, l := range longest {
			for _, s := range some {
				all = append(all, append(slices.Clone(l), s))
			}
		}
	}
	return all
}

// small are sessions of two ids, two Prios, and three times; no two have the same Status.
func small() []api.Session {
	var some []api.Session
	for id := range 2 {
		for prio := range 2 {
			for until := range uint64(3) {
				some = append(some, ses(id, 1+len(some), prio, 1+until))
			}
		}
	}
	return some
}

// 7.1, 7.2, 7.3: of all small lists, at all times up to the last at which one lives, and beyond.
func TestAllSmallLists(t *testing.T) {
	times := []uint64{0, 1, 2, 3, 4, top}
	for _, l := range lists(small(), 3) {
		for _, now := range times {
			checkPlain(t, l, now)
			checkStays(t, l, now, times)
		}
	}
}

// 7.1, 7.2, 7.3: of long lists in no order, with ids twice, at all times.
func TestLongLists(t *testing.T) {
	var times []uint64
	for at := range uint64(45) {
		times = append(times, at)
	}
	n := uint32(7)
	roll := func(below uint32) int {
		n = n*1664525 + 1013904223
		return int((n >> 8) % below)
	}
	for size := range 40 {
		var l []api.Session
		for range size {
			l = append(l, ses(roll(12), 1+roll(9), roll(10), uint64(roll(40))))
		}
		for _, now := range times {
			checkPlain(t, l, now)
			checkStays(t, l, now, times)
		}
	}
}

// 7.3: the presence looked at from one Next to the next: as often as there are times at which one is late, and nobody lives behind them.
func TestFromNextToNext(t *testing.T) {
	l := []api.Session{ses(4, 1, 2, 30), ses(2, 2, 2, 10), ses(3, 3, 9, 20), ses(1, 4, 0, top), ses(7, 5, 9, 20), ses(0, 6, 1, top-1)}
	wants := []struct {
		next uint64
		then api.Presence
	}{
		{10, api.Presence{Status: 3, Prio: 9, Live: 5}},
		{20, api.Presence{Status: 1, Prio: 2, Live: 3}},
		{30, api.Presence{Status: 6, Prio: 1, Live: 2}},
		{top - 1, api.Presence{Status: 4, Prio: 0, Live: 1}},
		{top, api.Presence{}},
	}
	now := uint64(0)
	checkOf(t, l, now, api.Presence{Status: 3, Prio: 9, Live: 6})
	for _, w := range wants {
		is := aggr.Of(l, now)
		checkNext(t, l, now, w.next, true)
		checkOf(t, l, w.next-1, is)
		checkOf(t, l, w.next, w.then)
		now = w.next
	}
	checkNext(t, l, now, 0, false)
}
