package sess_test

import (
	"math"
	"slices"
	"testing"

	"doorman/api"
	"doorman/sess"
)

const top = math.MaxUint64

// ses is a session with all its fields, so that each of them is seen to stay.
func ses(id int, until uint64) api.Session {
	return api.Session{Id: id, Status: 1 + id&7, Prio: id & 3, Until: until}
}

// list are sessions of these ids, each of its own Until.
func list(ids ...int) []api.Session {
	var l []api.Session
	for i, id := range ids {
		l = append(l, ses(id, uint64(10*(i+1))))
	}
	return l
}

// junk is no session that a test hands in.
var junk = api.Session{Id: -77, Status: -77, Prio: -77, Until: 77}

// roomy is a list like l, in memory of its own, with spare room behind it that holds junk.
func roomy(l []api.Session, spare int) []api.Session {
	all := slices.Repeat([]api.Session{junk}, len(l)+spare)
	copy(all, l)
	return all[:len(l)]
}

// scribble writes into all of a list's memory, spare room included.
func scribble(l []api.Session) {
	all := l[:cap(l)]
	for i := range all {
		all[i] = api.Session{Id: -88, Status: -88, Prio: -88, Until: 88}
	}
}

// whole is a copy of all of a list's memory, spare room included.
func whole(l []api.Session) []api.Session { return slices.Clone(l[:cap(l)]) }

type call = func([]api.Session) ([]api.Session, api.Errno)

// apart answers what a call does with a list, and sees that it changes nothing of the list, keeps nothing of it, and answers memory that is neither the list's nor an earlier answer's; lists with spare room and without.
func apart(t *testing.T, l []api.Session, do call) ([]api.Session, api.Errno) {
	t.Helper()
	want, wantErr := do(roomy(l, 0))
	for _, spare := range []int{0, 1, 5} {
		in := roomy(l, spare)
		before := whole(in)
		first, err := do(in)
		again, errAgain := do(in)
		if !slices.Equal(whole(in), before) {
			t.Errorf("of %v, %d spare: what was handed in is changed to %v", l, spare, whole(in))
		}
		if err != wantErr || errAgain != wantErr || !slices.Equal(first, want) || !slices.Equal(again, want) {
			t.Errorf("of %v, %d spare: answered %v, %d, then %v, %d, not %v, %d", l, spare, first, err, again, errAgain, want, wantErr)
		}
		scribble(first)
		if !slices.Equal(whole(in), before) {
			t.Errorf("of %v, %d spare: the answer shares memory with what was handed in", l, spare)
		}
		if !slices.Equal(again, want) {
			t.Errorf("of %v, %d spare: two answers share memory", l, spare)
		}
		scribble(in)
		if !slices.Equal(again, want) {
			t.Errorf("of %v, %d spare: the answer shares memory with what was handed in", l, spare)
		}
	}
	return want, wantErr
}

func purge(t *testing.T, l []api.Session, now uint64) []api.Session {
	t.Helper()
	got, _ := apart(t, l, func(l []api.Session) ([]api.Session, api.Errno) { return sess.Purge(l, now), api.OK })
	return got
}

func set(t *testing.T, l []api.Session, s api.Session, most int) ([]api.Session, api.Errno) {
	t.Helper()
	return apart(t, l, func(l []api.Session) ([]api.Session, api.Errno) { return sess.Set(l, s, most) })
}

func beat(t *testing.T, l []api.Session, id int, until uint64) ([]api.Session, api.Errno) {
	t.Helper()
	return apart(t, l, func(l []api.Session) ([]api.Session, api.Errno) { return sess.Beat(l, id, until) })
}

func unset(t *testing.T, l []api.Session, id int) ([]api.Session, api.Errno) {
	t.Helper()
	return apart(t, l, func(l []api.Session) ([]api.Session, api.Errno) { return sess.Clear(l, id) })
}

// check holds what a call answered against what it should.
func check(t *testing.T, what string, got []api.Session, err api.Errno, want []api.Session, wantErr api.Errno) {
	t.Helper()
	if err != wantErr || !slices.Equal(got, want) {
		t.Errorf("%s = %v, %d, not %v, %d", what, got, err, want, wantErr)
	}
}

// 6.1
func TestRight(t *testing.T) {
	cases := []struct {
		id, status, prio int
		want             bool
	}{
		{7, 3, 4, true},
		{0, 1, 0, true},
		{255, 9, 9, true},
		{0, 9, 9, true},
		{255, 1, 0, true},
		{-1, 1, 0, false},
		{256, 1, 0, false},
		{0, 0, 0, false},
		{0, 10, 0, false},
		{0, -1, 0, false},
		{0, 1, -1, false},
		{0, 1, 10, false},
		{255, 0, 9, false},
		{255, 10, 9, false},
		{255, 9, -1, false},
		{255, 9, 10, false},
		{256, 10, 10, false},
		{-1, 0, -1, false},
		{0, 0, 1, false},
	}
	for _, c := range cases {
		if got := sess.Right(c.id, c.status, c.prio); got != c.want {
			t.Errorf("Right(%d, %d, %d) = %v", c.id, c.status, c.prio, got)
		}
	}
}

// 6.1: all that may be are counted, so that none is missed; and none of those outside may be.
func TestRightOfAll(t *testing.T) {
	count := 0
	for id := -300; id <= 600; id++ {
		for status := -12; status <= 24; status++ {
			for prio := -12; prio <= 24; prio++ {
				if !sess.Right(id, status, prio) {
					continue
				}
				count++
				if id < 0 || id > 255 || status < 1 || status > 9 || prio < 0 || prio > 9 {
					t.Errorf("Right(%d, %d, %d) = true", id, status, prio)
				}
			}
		}
	}
	if count != 256*9*10 {
		t.Errorf("Right of %d, not of %d", count, 256*9*10)
	}
}

// 6.1: numbers whose low bits alone may be.
func TestRightOfFarNumbers(t *testing.T) {
	for _, far := range []int{math.MinInt, math.MinInt + 1, math.MinInt32, 1 - 1<<32, -256, 257, 1 << 16, 1 + 1<<32, math.MaxInt32, math.MaxInt - 1, math.MaxInt} {
		if sess.Right(far, 1, 1) || sess.Right(1, far, 1) || sess.Right(1, 1, far) {
			t.Errorf("Right of %d = true", far)
		}
	}
}

// 6.2: at its Until a session doesn't live any more, just ahead of it it does.
func TestPurge(t *testing.T) {
	l := []api.Session{ses(2, 20), ses(5, 50), ses(9, 30), ses(12, 50)}
	cases := []struct {
		now  uint64
		want []int
	}{
		{0, []int{2, 5, 9, 12}},
		{19, []int{2, 5, 9, 12}},
		{20, []int{5, 9, 12}},
		{21, []int{5, 9, 12}},
		{29, []int{5, 9, 12}},
		{30, []int{5, 12}},
		{31, []int{5, 12}},
		{49, []int{5, 12}},
		{50, nil},
		{51, nil},
		{top, nil},
	}
	for _, c := range cases {
		var want []api.Session
		for _, s := range l {
			if slices.Contains(c.want, s.Id) {
				want = append(want, s)
			}
		}
		if got := purge(t, l, c.now); !slices.Equal(got, want) {
			t.Errorf("Purge at %d = %v, not %v", c.now, got, want)
		}
	}
}

// 6.2: at the ends of time: till 0 nothing ever lives, and at 2^64 - 1 nothing does.
func TestPurgeAtTheEnds(t *testing.T) {
	l := []api.Session{ses(0, 0), ses(1, 1), ses(2, 1<<63-1), ses(3, 1<<63), ses(4, top-1), ses(5, top)}
	cases := []struct {
		now  uint64
		left int
	}{{0, 1}, {1, 2}, {2, 2}, {1<<63 - 2, 2}, {1<<63 - 1, 3}, {1 << 63, 4}, {top - 2, 4}, {top - 1, 5}, {top, 6}}
	for _, c := range cases {
		if got := purge(t, l, c.now); !slices.Equal(got, l[c.left:]) {
			t.Errorf("Purge at %d = %v, not %v", c.now, got, l[c.left:])
		}
	}
}

// 6.2: of no sessions, nil or not.
func TestPurgeOfNone(t *testing.T) {
	for _, now := range []uint64{0, 5, top} {
		if got := sess.Purge(nil, now); len(got) != 0 {
			t.Errorf("Purge(nil, %d) = %v", now, got)
		}
		if got := purge(t, []api.Session{}, now); len(got) != 0 {
			t.Errorf("Purge of none at %d = %v", now, got)
		}
	}
}

// 6.2: the document's example, and others where there may be none.
func TestSetOfAtMostNone(t *testing.T) {
	for _, most := range []int{0, -1, -2, math.MinInt + 1, math.MinInt} {
		got, err := sess.Set(nil, api.Session{Id: 5}, most)
		check(t, "Set into no sessions", got, err, nil, api.ErrFull)
		got, err = set(t, []api.Session{}, ses(5, 9), most)
		check(t, "Set into no sessions", got, err, nil, api.ErrFull)
		got, err = set(t, list(2, 5), ses(3, 9), most)
		check(t, "Set into two sessions", got, err, list(2, 5), api.ErrFull)
	}
}

// 6.2: ahead of all ids, between two, behind all, and into none.
func TestSetOfAnother(t *testing.T) {
	s := func(id int) api.Session { return ses(id, 777) }
	a, b, c := ses(2, 20), ses(5, 50), ses(9, 90)
	cases := []struct {
		l    []api.Session
		id   int
		want []api.Session
	}{
		{nil, 5, []api.Session{s(5)}},
		{[]api.Session{b}, 4, []api.Session{s(4), b}},
		{[]api.Session{b}, 6, []api.Session{b, s(6)}},
		{[]api.Session{a, b, c}, 0, []api.Session{s(0), a, b, c}},
		{[]api.Session{a, b, c}, 1, []api.Session{s(1), a, b, c}},
		{[]api.Session{a, b, c}, 3, []api.Session{a, s(3), b, c}},
		{[]api.Session{a, b, c}, 4, []api.Session{a, s(4), b, c}},
		{[]api.Session{a, b, c}, 6, []api.Session{a, b, s(6), c}},
		{[]api.Session{a, b, c}, 8, []api.Session{a, b, s(8), c}},
		{[]api.Session{a, b, c}, 10, []api.Session{a, b, c, s(10)}},
		{[]api.Session{a, b, c}, 255, []api.Session{a, b, c, s(255)}},
	}
	for _, x := range cases {
		for _, most := range []int{len(x.l) + 1, len(x.l) + 2, 8, 100, math.MaxInt} {
			got, err := set(t, x.l, s(x.id), most)
			check(t, "Set", got, err, x.want, api.OK)
		}
		for _, most := range []int{len(x.l), len(x.l) - 1, 0, -1, math.MinInt} {
			got, err := set(t, x.l, s(x.id), most)
			check(t, "Set into a full list", got, err, x.l, api.ErrFull)
		}
	}
}

// 6.2: of an id that is there, whatever most is, all of the session is another one: its Until too, if that is less.
func TestSetOfOneThatIsThere(t *testing.T) {
	l := list(2, 5, 9)
	for at := range l {
		for _, until := range []uint64{0, 1, l[at].Until - 1, l[at].Until, l[at].Until + 1, top} {
			for _, most := range []int{math.MinInt, -1, 0, 1, 2, 3, 4, 8, math.MaxInt} {
				s := api.Session{Id: l[at].Id, Status: 9, Prio: 8, Until: until}
				want := slices.Clone(l)
				want[at] = s
				got, err := set(t, l, s, most)
				check(t, "Set", got, err, want, api.OK)
			}
		}
	}
	got, err := set(t, list(7), api.Session{Id: 7}, 0)
	check(t, "Set of the only one", got, err, []api.Session{{Id: 7}}, api.OK)
}

// 6.2: up to most they are put, and then one more isn't, but those that are there can be set.
func TestSetUntilFull(t *testing.T) {
	for most := range 12 {
		var l []api.Session
		for i := range 15 {
			got, err := set(t, l, ses(3*i, 5), most)
			if (err == api.OK) != (i < most) || len(got) != min(i+1, most) {
				t.Errorf("of at most %d: Set of the one with place %d = %v, %d", most, i, got, err)
			}
			l = got
		}
		for i := range most {
			if got, err := set(t, l, ses(3*i, 9), most); err != api.OK || len(got) != most || got[i].Until != 9 {
				t.Errorf("of at most %d: Set of one that is there = %v, %d", most, got, err)
			}
		}
	}
}

// 6.2: Set doesn't ask whether the session lives or its fields may be: whoever calls it does.
func TestSetOfAnySession(t *testing.T) {
	for _, s := range []api.Session{{}, {Id: 1}, {Id: -1, Status: -2, Prio: -3}, {Id: 256, Status: 10, Prio: 10, Until: top}, {Id: math.MinInt}, {Id: math.MaxInt, Status: math.MinInt, Prio: math.MaxInt}} {
		l, err := set(t, nil, s, 1)
		check(t, "Set", l, err, []api.Session{s}, api.OK)
		l, err = unset(t, l, s.Id)
		check(t, "Clear", l, err, nil, api.OK)
	}
	lo, hi := api.Session{Id: math.MinInt}, api.Session{Id: math.MaxInt}
	l, err := set(t, []api.Session{hi}, lo, 2)
	check(t, "Set", l, err, []api.Session{lo, hi}, api.OK)
	l, err = set(t, []api.Session{lo}, hi, 2)
	check(t, "Set", l, err, []api.Session{lo, hi}, api.OK)
	l, err = set(t, []api.Session{lo, hi}, api.Session{Id: -3}, 3)
	check(t, "Set", l, err, []api.Session{lo, {Id: -3}, hi}, api.OK)
}

// 6.2: only to a later time, and nothing else of it becomes another one.
func TestBeat(t *testing.T) {
	l := []api.Session{ses(2, 20), ses(5, 50), ses(9, top-1), ses(11, 0), ses(255, top)}
	for at, s := range l {
		for _, until := range []uint64{0, 1, 19, 20, 21, 49, 50, 51, 1 << 32, 1<<63 - 1, 1 << 63, top - 2, top - 1, top} {
			want := slices.Clone(l)
			if until > s.Until {
				want[at] = ses(s.Id, until)
			}
			got, err := beat(t, l, s.Id, until)
			check(t, "Beat", got, err, want, api.OK)
			got, err = beat(t, []api.Session{s}, s.Id, until)
			check(t, "Beat of the only one", got, err, []api.Session{want[at]}, api.OK)
		}
	}
}

// notThere are ids that aren't in list(2, 5, 9).
var notThere = []int{math.MinInt, -5, -1, 0, 1, 3, 4, 6, 8, 10, 255, 256, 258, 2 + 1<<32, math.MaxInt}

// 6.2
func TestBeatOfNone(t *testing.T) {
	for _, id := range notThere {
		for _, until := range []uint64{0, 10, 20, 30, 31, top} {
			got, err := beat(t, list(2, 5, 9), id, until)
			check(t, "Beat", got, err, list(2, 5, 9), api.ErrNone)
			got, err = beat(t, []api.Session{}, id, until)
			check(t, "Beat of no sessions", got, err, nil, api.ErrNone)
			got, err = sess.Beat(nil, id, until)
			check(t, "Beat of nil", got, err, nil, api.ErrNone)
		}
	}
}

// 6.2: of the only session, of the first, of one between, and of the last.
func TestClear(t *testing.T) {
	a, b, c := ses(2, 20), ses(5, 0), ses(9, top)
	cases := []struct {
		l    []api.Session
		id   int
		want []api.Session
	}{
		{[]api.Session{b}, 5, nil},
		{[]api.Session{a, b}, 2, []api.Session{b}},
		{[]api.Session{a, b}, 5, []api.Session{a}},
		{[]api.Session{a, b, c}, 2, []api.Session{b, c}},
		{[]api.Session{a, b, c}, 5, []api.Session{a, c}},
		{[]api.Session{a, b, c}, 9, []api.Session{a, b}},
	}
	for _, x := range cases {
		got, err := unset(t, x.l, x.id)
		check(t, "Clear", got, err, x.want, api.OK)
		got, err = unset(t, got, x.id)
		check(t, "Clear, again", got, err, x.want, api.ErrNone)
	}
}

// 6.2
func TestClearOfNone(t *testing.T) {
	for _, id := range notThere {
		got, err := unset(t, list(2, 5, 9), id)
		check(t, "Clear", got, err, list(2, 5, 9), api.ErrNone)
		got, err = unset(t, []api.Session{}, id)
		check(t, "Clear of no sessions", got, err, nil, api.ErrNone)
		got, err = sess.Clear(nil, id)
		check(t, "Clear of nil", got, err, nil, api.ErrNone)
	}
}
