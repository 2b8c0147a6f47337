package model_test

import (
	"slices"
	"testing"

	"doorman/api"
)

// 10.2: a client watches as many users as Watches, over all stripes; one whom it watches already may be watched again, and an Unwatch makes room.
func TestWatches(t *testing.T) {
	for stripes := 1; stripes <= 8; stripes++ {
		for most := 1; most <= 8; most++ {
			// By turns of the stripes, so that no stripe alone has as many; and all of one stripe.
			var turns []string
			for i := range most + 2 {
				turns = append(turns, usersIn(i%stripes, stripes, i+1)[i])
			}
			for _, users := range [][]string{turns, usersIn(stripes-1, stripes, most+2)} {
				checkWatches(t, sizes(stripes, 1, 4, most), users)
			}
		}
	}
}

// checkWatches goes through a client's watching, of two users more than it may.
func checkWatches(t *testing.T, c api.Config, users []string) {
	t.Helper()
	most := c.Watches
	b := newTable(t, c)
	for _, user := range users[:most] {
		b.want(api.OK, 5, watch(user))
		b.want(api.OK, 5, watch(user))
	}
	b.want(api.ErrWatch, 5, watch(users[most]))
	b.want(api.ErrWatch, 5, watch(users[most+1]))
	for _, user := range users[:most] {
		b.want(api.OK, 5, watch(user))
	}
	// What another client watches doesn't count.
	b.want(api.OK, 4, watch(users[most]))
	// An Unwatch of whom it doesn't watch makes no room.
	b.want(api.OK, 5, unwatch(users[most]))
	b.want(api.ErrWatch, 5, watch(users[most]))
	b.want(api.OK, 5, unwatch(users[0]))
	b.want(api.OK, 5, unwatch(users[0]))
	b.want(api.OK, 5, watch(users[most]))
	b.want(api.ErrWatch, 5, watch(users[most+1]))
	b.want(api.ErrWatch, 5, watch(users[0]))
	b.want(api.OK, 5, unwatch(users[most]))
	b.want(api.OK, 5, watch(users[0]))
	b.want(api.ErrWatch, 5, watch(users[most]))
	// Who was refused isn't watched.
	for _, user := range users {
		b.want(api.OK, 0, set(user, 1, 2, 9))
		var want []api.Event
		if slices.Contains(users[:most], user) {
			want = []api.Event{{User: user, New: pres(2, 0, 1), Seq: b.m.Time().Seq}}
		}
		b.events(5, false, want...)
	}
	b.events(4, false, api.Event{User: users[most], New: pres(2, 0, 1), Seq: uint64(most + 1)})
}

// 10.2: who watches is told from then on, of its users alone, until it doesn't.
func TestWatchAndUnwatch(t *testing.T) {
	for stripes := range 8 {
		b := newTable(t, sizes(stripes+1, 1, 8, 2))
		b.want(api.OK, 0, set("ann", 1, 1, 99))
		b.want(api.OK, 2, watch("ann"))
		b.events(2, false)
		b.want(api.OK, 0, set("bob", 1, 1, 99))
		b.want(api.OK, 0, set("ann", 1, 2, 99))
		b.want(api.OK, 2, watch("ann"))
		b.want(api.OK, 0, set("ann", 1, 3, 99))
		b.want(api.OK, 2, unwatch("ann"))
		b.want(api.OK, 0, set("ann", 1, 4, 99))
		// What came ahead of the Unwatch is told behind it.
		ann := func(seq uint64, old, is int) api.Event {
			return api.Event{User: "ann", Old: pres(old, 0, 1), New: pres(is, 0, 1), Seq: seq}
		}
		b.events(2, false, ann(3, 1, 2), ann(4, 2, 3))
		b.want(api.OK, 2, watch("ann"))
		b.events(2, false)
		b.want(api.OK, 0, set("ann", 1, 5, 99))
		b.events(2, false, ann(6, 4, 5))
		b.events(3, false)
		b.done()
	}
}

// 10.2: an Unwatch of nobody whom it watches, and a Watch of one that isn't there, are OK; both count no writing.
func TestWatchOfNobody(t *testing.T) {
	b := newTable(t, sizes(8, 1, 1, 8))
	for _, user := range rightNames[:8] {
		b.want(api.OK, 6, unwatch(user))
		b.want(api.OK, 6, watch(user))
	}
	b.want(api.ErrWatch, 6, watch(rightNames[8]))
	b.seq(0)
	for i, user := range rightNames[:8] {
		b.want(api.OK, 6, set(user, 1, 1, 1))
		b.events(6, false, api.Event{User: user, New: pres(1, 0, 1), Seq: uint64(i + 1)})
	}
}

// 10.2: all clients watch for themselves, and are told each.
func TestAllClientsWatch(t *testing.T) {
	for set0 := range 256 {
		b := newTable(t, sizes(3, 1, 2, 1))
		for who := range 8 {
			if set0>>who&1 == 1 {
				b.want(api.OK, who, watch("ann"))
			} else {
				b.want(api.OK, who, watch("bob"))
			}
		}
		b.want(api.OK, 0, set("ann", 1, 1, 9))
		b.want(api.OK, 0, set("bob", 1, 2, 9))
		for who := range 8 {
			want := api.Event{User: "bob", New: pres(2, 0, 1), Seq: 2}
			if set0>>who&1 == 1 {
				want = api.Event{User: "ann", New: pres(1, 0, 1), Seq: 1}
			}
			b.events(who, false, want)
		}
	}
}
