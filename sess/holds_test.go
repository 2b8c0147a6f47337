package sess_test

import (
	"maps"
	"math"
	"slices"
	"testing"

	"doorman/api"
	"doorman/sess"
)

// checkUsers sees that a list is one of a user's sessions: rising ids, none twice.
func checkUsers(t *testing.T, what string, l []api.Session) {
	t.Helper()
	for i := range l {
		if i > 0 && l[i-1].Id >= l[i].Id {
			t.Errorf("%s: %v aren't sessions of a user", what, l)
		}
	}
}

// users are all lists of sessions of the ids 0 to n - 1, with two times till which each may live.
func users(n int) [][]api.Session {
	all := [][]api.Session{nil}
	for id := range n {
		for _, l := range slices.Clone(all) {
			all = append(all, append(slices.Clone(l), ses(id, 2)), append(slices.Clone(l), ses(id, 4)))
		}
	}
	return all
}

// 6.3: of all small lists, with ids that are there, between, and at both ends.
func TestAnswersAreSessionsOfAUser(t *testing.T) {
	for _, l := range users(5) {
		checkUsers(t, "the test's own", l)
		for now := range uint64(6) {
			checkUsers(t, "Purge", sess.Purge(l, now))
		}
		for id := -1; id <= 5; id++ {
			for most := -1; most <= 6; most++ {
				k, _ := sess.Set(l, ses(id, 3), most)
				checkUsers(t, "Set", k)
			}
			for until := range uint64(6) {
				k, _ := sess.Beat(l, id, until)
				checkUsers(t, "Beat", k)
			}
			k, _ := sess.Clear(l, id)
			checkUsers(t, "Clear", k)
		}
	}
}

// table is what a user's sessions should be, by their ids, in no order.
type table map[int]api.Session

func (m table) list() []api.Session {
	var l []api.Session
	for _, id := range slices.Sorted(maps.Keys(m)) {
		l = append(l, m[id])
	}
	return l
}

func (m table) purge(now uint64) {
	maps.DeleteFunc(m, func(_ int, s api.Session) bool { return s.Until <= now })
}

func (m table) set(s api.Session, most int) api.Errno {
	if _, there := m[s.Id]; !there && len(m) >= most {
		return api.ErrFull
	}
	m[s.Id] = s
	return api.OK
}

func (m table) beat(id int, until uint64) api.Errno {
	s, there := m[id]
	if !there {
		return api.ErrNone
	}
	if until > s.Until {
		s.Until = until
		m[id] = s
	}
	return api.OK
}

func (m table) unset(id int) api.Errno {
	if _, there := m[id]; !there {
		return api.ErrNone
	}
	delete(m, id)
	return api.OK
}

// 6.2, 6.3: long scripts of calls, each made of what the one ahead of it answered, held against a table that keeps no order.
func TestScriptsOfCalls(t *testing.T) {
	for _, most := range []int{0, 1, 2, 3, 8, 40} {
		var l []api.Session
		m := table{}
		n := uint32(most) + 1
		next := func(below uint32) int {
			n = n*1664525 + 1013904223
			return int((n >> 8) % below)
		}
		for now := range uint64(400) {
			var err, want api.Errno
			id, until := next(12), now+uint64(next(40))
			switch next(6) {
			case 0:
				l, err = unset(t, l, id)
				want = m.unset(id)
			case 1:
				l, err = beat(t, l, id, until)
				want = m.beat(id, until)
			case 2:
				l = purge(t, l, now)
				m.purge(now)
			default:
				s := api.Session{Id: id, Status: 1 + next(9), Prio: next(10), Until: until}
				l, err = set(t, l, s, most)
				want = m.set(s, most)
			}
			check(t, "of a script", l, err, m.list(), want)
			checkUsers(t, "of a script", l)
		}
	}
}

// 6.2, 6.3: many sessions, put in an order that isn't theirs.
func TestManySessions(t *testing.T) {
	const n = 1000
	var l []api.Session
	for i := range n {
		var err api.Errno
		if l, err = sess.Set(l, ses(i*617%n, uint64(i)), n); err != api.OK {
			t.Fatalf("Set = %d", err)
		}
	}
	checkUsers(t, "many", l)
	if len(l) != n || l[0].Id != 0 || l[n-1].Id != n-1 {
		t.Errorf("%d sessions are %d", n, len(l))
	}
	half := sess.Purge(l, n/2)
	checkUsers(t, "half of many", half)
	if len(half) != n/2-1 {
		t.Errorf("%d live, not %d", len(half), n/2-1)
	}
}

// The rules that hold everywhere: lists that aren't a user's sessions make no call panic, and aren't changed.
func TestAnyList(t *testing.T) {
	lists := [][]api.Session{
		list(9, 5, 2),
		list(5, 5, 5),
		list(2, 9, 2, 5),
		list(math.MaxInt, 0, math.MinInt, -1),
		make([]api.Session, 20),
	}
	for _, l := range lists {
		for _, id := range []int{math.MinInt, -1, 0, 2, 3, 5, 9, 10, math.MaxInt} {
			for _, n := range []uint64{0, 10, 25, top} {
				purge(t, l, n)
				beat(t, l, id, n)
				set(t, l, ses(id, n), int(n>>1))
				set(t, l, ses(id, n), 0)
			}
			unset(t, l, id)
		}
	}
}
