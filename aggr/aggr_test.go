package aggr_test

import (
	"math"
	"slices"
	"testing"

	"doorman/aggr"
	"doorman/api"
)

const top = math.MaxUint64

// ses is a session with all its fields; the Status tells sessions apart that count alike.
func ses(id, status, prio int, until uint64) api.Session {
	return api.Session{Id: id, Status: status, Prio: prio, Until: until}
}

// junk is no session that a test hands in: it lives long and counts much, so that a call that looks at spare room is seen.
var junk = api.Session{Id: -77, Status: -77, Prio: math.MaxInt, Until: top}

// roomy is a list like l, in memory of its own, with spare room behind it that holds junk.
func roomy(l []api.Session, spare int) []api.Session {
	all := slices.Repeat([]api.Session{junk}, len(l)+spare)
	copy(all, l)
	return all[:len(l)]
}

// scribble writes into all of a list's memory, spare room included.
func scribble(l []api.Session) {
	all := l[:cap(l)]
	for i := range all {
		all[i] = api.Session{Id: -88, Status: -88, Prio: -88, Until: top}
	}
}

// whole is a copy of all of a list's memory, spare room included.
func whole(l []api.Session) []api.Session { return slices.Clone(l[:cap(l)]) }

// asIs hands a list, with spare room and without, to what is done with it twice, and sees that nothing of the list is changed.
func asIs(t *testing.T, l []api.Session, do func([]api.Session)) {
	t.Helper()
	for _, spare := range []int{0, 1, 5} {
		in := roomy(l, spare)
		before := whole(in)
		do(in)
		do(in)
		if !slices.Equal(whole(in), before) {
			t.Errorf("of %v, %d spare: what was handed in is changed to %v", l, spare, whole(in))
		}
	}
}

func checkLive(t *testing.T, l []api.Session, now uint64, want []api.Session) {
	t.Helper()
	asIs(t, l, func(l []api.Session) {
		t.Helper()
		if got := slices.Collect(aggr.Live(l, now)); !slices.Equal(got, want) {
			t.Errorf("Live(%v, %d) = %v, not %v", l, now, got, want)
		}
	})
}

func checkOf(t *testing.T, l []api.Session, now uint64, want api.Presence) {
	t.Helper()
	asIs(t, l, func(l []api.Session) {
		t.Helper()
		if got := aggr.Of(l, now); got != want {
			t.Errorf("Of(%v, %d) = %v, not %v", l, now, got, want)
		}
	})
}

func checkNext(t *testing.T, l []api.Session, now, want uint64, wantFound bool) {
	t.Helper()
	asIs(t, l, func(l []api.Session) {
		t.Helper()
		if got, found := aggr.Next(l, now); got != want || found != wantFound {
			t.Errorf("Next(%v, %d) = %d, %v, not %d, %v", l, now, got, found, want, wantFound)
		}
	})
}

// 7.1: the document's example, in both orders.
func TestExample(t *testing.T) {
	a, b := ses(1, 5, 2, 10), ses(0, 6, 2, 10)
	want := api.Presence{Status: 6, Prio: 2, Live: 2}
	checkOf(t, []api.Session{a, b}, 9, want)
	checkOf(t, []api.Session{b, a}, 9, want)
}

// 7.1, 7.2: of no sessions, nil or not: Live is there all the same, and hands out nothing.
func TestNoSessions(t *testing.T) {
	for _, l := range [][]api.Session{nil, {}} {
		for _, now := range []uint64{0, 1, top - 1, top} {
			live := aggr.Live(l, now)
			if live == nil {
				t.Fatalf("Live = nil")
			}
			for s := range live {
				t.Errorf("Live of no sessions at %d: %v", now, s)
			}
			checkLive(t, l, now, nil)
			checkOf(t, l, now, api.Presence{})
			checkNext(t, l, now, 0, false)
		}
	}
}

// 7.1: some live and some don't; those that do come in the list's order, whatever that is.
func TestLive(t *testing.T) {
	a, b, c, d := ses(9, 1, 3, 20), ses(5, 2, 9, 50), ses(2, 3, 0, 30), ses(5, 4, 9, 50)
	l := []api.Session{a, b, c, d}
	cases := []struct {
		now  uint64
		want []api.Session
	}{
		{0, []api.Session{a, b, c, d}},
		{19, []api.Session{a, b, c, d}},
		{20, []api.Session{b, c, d}},
		{21, []api.Session{b, c, d}},
		{29, []api.Session{b, c, d}},
		{30, []api.Session{b, d}},
		{31, []api.Session{b, d}},
		{49, []api.Session{b, d}},
		{50, nil},
		{51, nil},
		{top, nil},
	}
	for _, x := range cases {
		checkLive(t, l, x.now, x.want)
	}
	checkLive(t, []api.Session{a, a, c, a}, 25, []api.Session{c})
	checkLive(t, []api.Session{c, a, c, a, c}, 25, []api.Session{c, c, c})
}

// 7.1, 7.2: one session just ahead of its Until, at it, and behind it; at 2^64 - 1 nothing lives.
func TestAtUntil(t *testing.T) {
	for _, until := range []uint64{0, 1, 2, 10, 1 << 32, 1<<63 - 1, 1 << 63, 1<<63 + 1, top - 1, top} {
		s := ses(3, 4, 5, until)
		l := []api.Session{s}
		for _, now := range []uint64{0, 1, until - 2, until - 1, until, until + 1, 1 << 63, top - 1, top} {
			if now < until {
				checkLive(t, l, now, l)
				checkOf(t, l, now, api.Presence{Status: 4, Prio: 5, Live: 1})
				checkNext(t, l, now, until, true)
			} else {
				checkLive(t, l, now, nil)
				checkOf(t, l, now, api.Presence{})
				checkNext(t, l, now, 0, false)
			}
		}
	}
}

// 7.1: whoever stops is handed no more, by a range and by a call; sessions that don't live are no reason to stop.
func TestLiveStopped(t *testing.T) {
	late := ses(0, 9, 9, 5)
	a, b, c := ses(1, 1, 0, 20), ses(2, 2, 0, 20), ses(3, 3, 0, 20)
	l := []api.Session{late, a, late, late, b, c, late}
	all := []api.Session{a, b, c}
	for stop := 1; stop <= 3; stop++ {
		asIs(t, l, func(l []api.Session) {
			live := aggr.Live(l, 5)
			var called []api.Session
			live(func(s api.Session) bool {
				called = append(called, s)
				return len(called) < stop
			})
			var ranged []api.Session
			for s := range live {
				ranged = append(ranged, s)
				if s == all[stop-1] {
					break
				}
			}
			if !slices.Equal(called, all[:stop]) || !slices.Equal(ranged, all[:stop]) {
				t.Errorf("stopped at %d: %v, %v", stop, called, ranged)
			}
			if got := slices.Collect(live); !slices.Equal(got, all) {
				t.Errorf("stopped at %d, then again: %v", stop, got)
			}
		})
	}
}

// 7.1: one answer of Live is gone through inside itself.
func TestLiveInsideItself(t *testing.T) {
	l := []api.Session{ses(1, 1, 0, 20), ses(2, 2, 0, 5), ses(3, 3, 0, 20)}
	live := aggr.Live(l, 5)
	count := 0
	for range live {
		for range live {
			count++
		}
	}
	if count != 4 {
		t.Errorf("gone through %d, not 4", count)
	}
}

// 7.1 and the rules that hold everywhere: what is handed in isn't kept, so what becomes of it behind the call is not seen, neither before nor while one goes through those that live.
func TestLiveKeepsNoList(t *testing.T) {
	l := []api.Session{ses(1, 1, 0, 20), ses(2, 2, 0, 5), ses(3, 3, 0, 20), ses(4, 4, 0, 30)}
	want := []api.Session{l[0], l[2], l[3]}
	for _, spare := range []int{0, 1, 5} {
		in := roomy(l, spare)
		live, other := aggr.Live(in, 5), aggr.Live(in, 20)
		var got []api.Session
		for s := range live {
			scribble(in)
			got = append(got, s)
		}
		if !slices.Equal(got, want) {
			t.Errorf("%d spare, changed meanwhile: Live = %v, not %v", spare, got, want)
		}
		if got := slices.Collect(live); !slices.Equal(got, want) {
			t.Errorf("%d spare, changed: Live = %v, not %v", spare, got, want)
		}
		if got := slices.Collect(other); !slices.Equal(got, want[2:]) {
			t.Errorf("%d spare, changed: another Live = %v, not %v", spare, got, want[2:])
		}
	}
}

// 7.1: Prio goes ahead of the id; nothing else counts.
func TestBetter(t *testing.T) {
	cases := []struct {
		what string
		a, b api.Session
		want bool
	}{
		{"a greater Prio", ses(1, 1, 3, 9), ses(1, 1, 2, 9), true},
		{"a less Prio", ses(1, 1, 2, 9), ses(1, 1, 3, 9), false},
		{"a greater Prio, a greater id", ses(9, 1, 3, 9), ses(1, 1, 2, 9), true},
		{"a less Prio, a less id", ses(1, 1, 2, 9), ses(9, 1, 3, 9), false},
		{"a greater Prio, a less id", ses(1, 1, 3, 9), ses(9, 1, 2, 9), true},
		{"a less Prio, a greater id", ses(9, 1, 2, 9), ses(1, 1, 3, 9), false},
		{"a less id", ses(1, 1, 2, 9), ses(2, 1, 2, 9), true},
		{"a greater id", ses(2, 1, 2, 9), ses(1, 1, 2, 9), false},
		{"the same", ses(1, 1, 2, 9), ses(1, 1, 2, 9), false},
		{"a greater Status", ses(1, 5, 2, 9), ses(1, 1, 2, 9), false},
		{"a less Status", ses(1, 1, 2, 9), ses(1, 5, 2, 9), false},
		{"a later Until", ses(1, 1, 2, 90), ses(1, 1, 2, 9), false},
		{"an earlier Until", ses(1, 1, 2, 9), ses(1, 1, 2, 90), false},
		{"a less id, a greater Status, Until 0", ses(1, 9, 2, 0), ses(2, 1, 2, 90), true},
		{"a greater id, a less Status, the last Until", ses(2, 1, 2, top), ses(1, 9, 2, 0), false},
		{"the zero one", api.Session{}, api.Session{}, false},
		{"the zero one, a Prio below 0", api.Session{}, ses(0, 0, -1, 0), true},
	}
	for _, c := range cases {
		if got := aggr.Better(c.a, c.b); got != c.want {
			t.Errorf("%s: Better(%v, %v) = %v", c.what, c.a, c.b, got)
		}
	}
}

// 7.1: of numbers so far apart that what parts them is none of their kind.
func TestBetterOfFarNumbers(t *testing.T) {
	far := []int{math.MinInt, math.MinInt + 1, math.MinInt32, -256, -1, 0, 1, 255, math.MaxInt32, 1 << 32, math.MaxInt - 1, math.MaxInt}
	for i, x := range far {
		for k, y := range far {
			if got := aggr.Better(ses(x, 1, y, 1), ses(x, 1, x, 1)); got != (k > i) {
				t.Errorf("Better of the Prio %d than %d = %v", y, x, got)
			}
			if got := aggr.Better(ses(x, 1, y, 1), ses(y, 1, y, 1)); got != (i < k) {
				t.Errorf("Better of the id %d than %d = %v", x, y, got)
			}
		}
	}
}

// 7.1: nobody counts more than itself; of two that differ in Prio or id just one counts more; who counts more than one that counts more than a third one counts more than that.
func TestBetterIsAnOrder(t *testing.T) {
	var all []api.Session
	for id := -1; id <= 2; id++ {
		for prio := -1; prio <= 2; prio++ {
			all = append(all, ses(id, 1, prio, 1), ses(id, 2, prio, 2))
		}
	}
	for _, a := range all {
		for _, b := range all {
			alike := a.Prio == b.Prio && a.Id == b.Id
			if alike && aggr.Better(a, b) {
				t.Errorf("%v and %v count alike", a, b)
			}
			if !alike && aggr.Better(a, b) == aggr.Better(b, a) {
				t.Errorf("neither or both of %v and %v count more", a, b)
			}
			for _, c := range all {
				if aggr.Better(a, b) && aggr.Better(b, c) && !aggr.Better(a, c) {
					t.Errorf("%v, %v, %v are in no order", a, b, c)
				}
			}
		}
	}
}

// 7.1: those that live count, however much the others would.
func TestOf(t *testing.T) {
	low, high := ses(1, 3, 1, 40), ses(4, 4, 5, 10)
	mid, twin := ses(6, 5, 2, 30), ses(7, 6, 2, 20)
	l := []api.Session{low, high, mid, twin}
	cases := []struct {
		now  uint64
		want api.Presence
	}{
		{0, api.Presence{Status: 4, Prio: 5, Live: 4}},
		{9, api.Presence{Status: 4, Prio: 5, Live: 4}},
		{10, api.Presence{Status: 5, Prio: 2, Live: 3}},
		{19, api.Presence{Status: 5, Prio: 2, Live: 3}},
		{20, api.Presence{Status: 5, Prio: 2, Live: 2}},
		{30, api.Presence{Status: 3, Prio: 1, Live: 1}},
		{39, api.Presence{Status: 3, Prio: 1, Live: 1}},
		{40, api.Presence{}},
		{41, api.Presence{}},
		{top, api.Presence{}},
	}
	for _, c := range cases {
		checkOf(t, l, c.now, c.want)
	}
}

// 7.1: of several that count alike (an id twice, of the same Prio) the first one's Status; each of them is counted.
func TestOfCountAlike(t *testing.T) {
	first, second, third := ses(3, 7, 2, 10), ses(3, 8, 2, 20), ses(3, 9, 2, 30)
	l := []api.Session{first, second, third}
	checkOf(t, l, 9, api.Presence{Status: 7, Prio: 2, Live: 3})
	checkOf(t, l, 10, api.Presence{Status: 8, Prio: 2, Live: 2})
	checkOf(t, l, 20, api.Presence{Status: 9, Prio: 2, Live: 1})
	checkOf(t, []api.Session{third, first, second}, 9, api.Presence{Status: 9, Prio: 2, Live: 3})
	checkOf(t, []api.Session{ses(9, 1, 1, 10), second, first}, 9, api.Presence{Status: 8, Prio: 2, Live: 3})
	checkOf(t, []api.Session{first, first, first}, 9, api.Presence{Status: 7, Prio: 2, Live: 3})
}

// 7.1: an id twice, of another Prio: the greater Prio's, wherever it stands.
func TestOfAnIdTwice(t *testing.T) {
	a, b := ses(3, 7, 2, 10), ses(3, 8, 4, 10)
	for _, l := range [][]api.Session{{a, b}, {b, a}, {a, b, a}, {b, a, b}} {
		checkOf(t, l, 0, api.Presence{Status: 8, Prio: 4, Live: len(l)})
	}
}

// 7.1: of any list, fields that may not be among them: the zero session counts for nothing where it isn't there.
func TestOfAnyFields(t *testing.T) {
	checkOf(t, []api.Session{ses(-1, -2, -3, 1)}, 0, api.Presence{Status: -2, Prio: -3, Live: 1})
	checkOf(t, []api.Session{ses(300, 99, -3, 1), ses(9, 88, -2, 1)}, 0, api.Presence{Status: 88, Prio: -2, Live: 2})
	checkOf(t, []api.Session{ses(7, 0, 0, 1)}, 0, api.Presence{Live: 1})
	checkOf(t, []api.Session{ses(7, 5, 0, 1), ses(7, 6, 0, 1)}, 0, api.Presence{Status: 5, Live: 2})
	lo, hi := ses(math.MaxInt, 1, math.MinInt, top), ses(math.MinInt, 2, math.MaxInt, top)
	for _, l := range [][]api.Session{{lo, hi}, {hi, lo}} {
		checkOf(t, l, top-1, api.Presence{Status: 2, Prio: math.MaxInt, Live: 2})
		checkOf(t, l, top, api.Presence{})
	}
	checkOf(t, []api.Session{lo}, 0, api.Presence{Status: 1, Prio: math.MinInt, Live: 1})
	checkOf(t, make([]api.Session, 20), 0, api.Presence{})
}

// 7.2: the least Until of those that live, wherever it stands; Prio and id don't count.
func TestNext(t *testing.T) {
	a, b, c, d := ses(1, 1, 9, 30), ses(2, 2, 0, 10), ses(3, 3, 5, 20), ses(4, 4, 5, 20)
	cases := []struct {
		now, want uint64
		found     bool
	}{
		{0, 10, true}, {9, 10, true}, {10, 20, true}, {11, 20, true}, {19, 20, true},
		{20, 30, true}, {29, 30, true}, {30, 0, false}, {31, 0, false}, {top, 0, false},
	}
	for _, l := range [][]api.Session{{a, b, c, d}, {d, c, b, a}, {b, c, d, a}, {a, d, c, b}, {c, b, a, d}} {
		for _, x := range cases {
			checkNext(t, l, x.now, x.want, x.found)
		}
	}
}

// 7.2: where nobody lives: late ones alone, at 0 and at the end of time.
func TestNextOfNobody(t *testing.T) {
	checkNext(t, []api.Session{ses(1, 1, 1, 0)}, 0, 0, false)
	checkNext(t, make([]api.Session, 20), 0, 0, false)
	checkNext(t, []api.Session{ses(1, 1, 1, 5), ses(2, 2, 2, 4)}, 5, 0, false)
	checkNext(t, []api.Session{ses(1, 1, 1, top), ses(2, 2, 2, top-1)}, top, 0, false)
}

// 7.2: at the ends of time: till 2^64 - 1 is a time as any other.
func TestNextAtTheEnds(t *testing.T) {
	l := []api.Session{ses(4, 1, 1, top), ses(3, 1, 1, top-1), ses(2, 1, 1, 1<<63), ses(1, 1, 1, 1), ses(0, 1, 1, 0)}
	checkNext(t, l, 0, 1, true)
	checkNext(t, l, 1, 1<<63, true)
	checkNext(t, l, 1<<63-1, 1<<63, true)
	checkNext(t, l, 1<<63, top-1, true)
	checkNext(t, l, top-2, top-1, true)
	checkNext(t, l, top-1, top, true)
	checkNext(t, l, top, 0, false)
}
