package model_test

import (
	"testing"

	"doorman/api"
)

// 10.2: events of several stripes come by their numbers, whatever the stripes.
func TestPollOfStripes(t *testing.T) {
	for stripes := 1; stripes <= 8; stripes++ {
		b := newTable(t, sizes(stripes, 1, 16, 8))
		var users []string
		for s := range stripes {
			users = append(users, usersIn(s, stripes, 1)...)
		}
		for _, user := range users {
			b.want(api.OK, 1, watch(user))
		}
		// Upwards, downwards, and upwards again.
		var want []api.Event
		write := func(user string, old, is int) {
			b.want(api.OK, 0, set(user, 1, is, 99))
			e := api.Event{User: user, New: pres(is, 0, 1), Seq: uint64(len(want) + 1)}
			if old > 0 {
				e.Old = pres(old, 0, 1)
			}
			want = append(want, e)
		}
		for s := range stripes {
			write(users[s], 0, 1)
		}
		for s := range stripes {
			write(users[stripes-1-s], 1, 2)
		}
		for s := range stripes {
			write(users[s], 2, 3)
		}
		b.events(1, false, want...)
		b.events(1, false)
		b.done()
	}
}

// 10.2: events of one number (a sweep's) come by rising users, one behind the other, and among those of other stripes by that number.
func TestPollOfEqualNumbers(t *testing.T) {
	for stripes := 1; stripes <= 8; stripes++ {
		b := newTable(t, sizes(stripes, 1, 16, 8))
		first, last := usersIn(0, stripes, 4), usersIn(stripes-1, stripes, 8)[4:]
		for i := range 4 {
			b.want(api.OK, 1, watch(first[i]))
			b.want(api.OK, 1, watch(last[i]))
		}
		// Not by rising names.
		for _, i := range []int{2, 0, 3, 1} {
			b.want(api.OK, 0, set(last[i], 1, 1, 5))
			b.want(api.OK, 0, set(first[i], 1, 1, 5))
		}
		if r := b.do(1, poll); len(r.Events) != 8 || r.Lost {
			t.Errorf("Poll = %v", r)
		}
		b.tick(5)
		b.want(api.ErrNone, 0, beat(first[2], 1, 9))
		b.sweep(stripes - 1)
		b.sweep(0)
		gone := func(user string, seq uint64) api.Event {
			return api.Event{User: user, Old: pres(1, 0, 1), Seq: seq}
		}
		want := []api.Event{gone(first[2], 9)}
		if stripes == 1 {
			// One sweep is of them all, by rising names.
			for _, user := range []string{first[0], first[1], first[3], last[0], last[1], last[2], last[3]} {
				want = append(want, gone(user, 10))
			}
		} else {
			for _, user := range last {
				want = append(want, gone(user, 10))
			}
			for _, user := range []string{first[0], first[1], first[3]} {
				want = append(want, gone(user, 11))
			}
		}
		b.events(1, false, want...)
		b.done()
	}
}

// 10.2: each stripe's queue has room for Queue events; more are lost, of that stripe and that client alone, and Lost tells it once.
func TestPollLost(t *testing.T) {
	for room := 1; room <= 16; room++ {
		for stripes := 2; stripes <= 8; stripes += 3 {
			for over := range 3 {
				for full := range stripes {
					checkLost(t, sizes(stripes, 1, room, 8), full, over)
				}
			}
		}
	}
}

// checkLost tells one stripe's queue of so many events more than it has room for, and a second one's of just as many.
func checkLost(t *testing.T, c api.Config, full, over int) {
	t.Helper()
	b := newTable(t, c)
	other := (full + 1) % c.Stripes
	ann, bob := usersIn(full, c.Stripes, 1)[0], usersIn(other, c.Stripes, 1)[0]
	for who := range 2 {
		b.want(api.OK, who, watch(bob))
	}
	b.want(api.OK, 1, watch(ann))
	var of0, of1 []api.Event
	told := func(user string, i int) api.Event {
		b.want(api.OK, 7, set(user, 1, i%2+1, 99))
		e := api.Event{User: user, New: pres(i%2+1, 0, 1), Seq: b.m.Time().Seq}
		if i > 0 {
			e.Old = pres((i-1)%2+1, 0, 1)
		}
		return e
	}
	for i := range c.Queue + over {
		e := told(ann, i)
		if i < c.Queue {
			of1 = append(of1, e)
		}
		if i < c.Queue {
			e = told(bob, i)
			of0, of1 = append(of0, e), append(of1, e)
		}
	}
	b.events(1, over > 0, of1...)
	b.events(1, false)
	b.events(0, false, of0...)
	// There is room again.
	e := told(ann, c.Queue+over)
	b.events(1, false, e)
	b.events(0, false)
}

// 10.2: what a Poll answers is new, and the queue keeps none of it.
func TestPolledIsApart(t *testing.T) {
	b := newTable(t, sizes(2, 1, 3, 4))
	for who := range 3 {
		b.want(api.OK, who, watch("ann"))
		b.want(api.OK, who, watch("bob"))
	}
	for i := range 30 {
		b.want(api.OK, 0, set([]string{"ann", "bob"}[i%2], 1, i%7+1, 99))
		if i%4 == 3 {
			b.do(i%3, poll)
		}
		if i%10 == 9 {
			b.done()
		}
	}
}

// 10.2: a Poll of a client that watches nobody, and of a table in which nothing happened.
func TestPollOfNothing(t *testing.T) {
	for stripes := 1; stripes <= 8; stripes++ {
		b := newTable(t, sizes(stripes, 1, 1, 1))
		for who := range 8 {
			b.events(who, false)
		}
		b.want(api.OK, 0, set("ann", 1, 1, 9))
		b.want(api.OK, 0, set("ann", 1, 2, 9))
		for who := range 8 {
			b.events(who, false)
		}
	}
}
