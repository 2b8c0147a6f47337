package model_test

import (
	"math"
	"testing"

	"doorman/api"
)

// 10.2: a sweep counts one writing, takes what has ended out of its stripe alone, and tells it with that number.
func TestSweep(t *testing.T) {
	for stripes := 1; stripes <= 8; stripes++ {
		for s := range stripes {
			b := newTable(t, sizes(stripes, 2, 4, 8))
			for k := range stripes {
				user := usersIn(k, stripes, 1)[0]
				b.want(api.OK, 0, watch(user))
				b.want(api.OK, 0, set(user, 1, 1, 5))
				b.want(api.OK, 0, set(user, 2, 2, 9))
			}
			b.do(0, poll)
			n := uint64(2 * stripes)
			// Nothing has ended yet.
			b.sweep(s)
			b.seq(n + 1)
			b.events(0, false)
			b.tick(4)
			b.sweep(s)
			b.events(0, false)
			user := usersIn(s, stripes, 1)[0]
			b.tick(1)
			b.sweep(s)
			b.events(0, false, api.Event{User: user, Old: pres(1, 0, 2), New: pres(2, 0, 1), Seq: n + 3})
			if got := b.m.Stored(); got != 2*stripes-1 {
				t.Errorf("%d sessions are kept", got)
			}
			b.sweep(s)
			b.events(0, false)
			b.tick(4)
			b.sweep(s)
			b.events(0, false, api.Event{User: user, Old: pres(2, 0, 1), Seq: n + 5})
			if got := b.m.Stored(); got != 2*stripes-2 {
				t.Errorf("%d sessions are kept", got)
			}
			b.seq(n + 5)
			b.done()
		}
	}
}

// 10.2: of no stripe nothing is swept, and nothing counted, be the table closed or not.
func TestSweepOfNoStripe(t *testing.T) {
	for stripes := 1; stripes <= 8; stripes++ {
		b := newTable(t, sizes(stripes, 1, 1, 1))
		b.want(api.OK, 0, watch("ann"))
		b.want(api.OK, 0, set("ann", 1, 1, 1))
		b.do(0, poll)
		b.tick(1)
		none := func() {
			for _, s := range []int{-1, -2, -8, math.MinInt, stripes, stripes + 1, 8, 9, 255, 256, 1 << 32, 1<<32 + 1, math.MaxInt} {
				b.sweep(s)
				if got := b.m.Stored(); got != 1 {
					t.Errorf("a sweep of %d: %d sessions are kept", s, got)
				}
			}
			b.seq(1)
			b.events(0, false)
		}
		none()
		b.want(api.OK, 0, shut)
		none()
	}
}

// 10.2: time goes on up to the greatest one; what lasts till then ends then, and not before.
func TestTick(t *testing.T) {
	for _, start := range []uint64{0, 1, 10, 1 << 32, 1 << 63, top - 10, top - 1, top} {
		c := ordinary
		c.Start = start
		b := newTable(t, c)
		if got := b.m.Time(); got != (api.Time{Now: start}) {
			t.Errorf("a table's time from %d on is %v", start, got)
		}
		b.want(api.OK, 3, watch("ann"))
		b.want(api.OK, 0, set("ann", 1, 1, 7))
		b.want(api.OK, 0, set("ann", 2, 2, top))
		b.want(api.OK, 0, set("ann", 3, 3, 0))
		for _, by := range []uint64{0, 1, 0, 5, 1, 1, 1 << 40, 1 << 63, 1 << 62, 3} {
			b.tick(by)
			b.do(0, query("ann"))
		}
		b.sweep(stripeOf("ann", c.Stripes))
		b.do(3, poll)
		b.tick(top - b.m.Time().Now - min(1, top-b.m.Time().Now))
		b.do(0, query("ann"))
		b.want(api.OK, 0, set("bob", 1, 4, 1))
		b.want(api.OK, 0, set("bob", 2, 5, top))
		b.do(0, query("bob"))
		b.tick(1)
		b.values(0, batch("ann", "bob"), pres(0, 0, 0), pres(0, 0, 0))
		b.want(api.OK, 0, set("zoe", 1, 4, top))
		b.values(0, query("zoe"), pres(0, 0, 0))
		b.tick(top)
		if got := b.m.Time().Now; got != top {
			t.Errorf("time ends at %d", got)
		}
		for s := range c.Stripes {
			b.sweep(s)
		}
		if got := b.m.Stored(); got != 0 {
			t.Errorf("at the end %d sessions are kept", got)
		}
		b.want(api.OK, 0, shut)
		b.tick(1)
		b.done()
	}
}

// 10.2: time goes on in a closed table too, and it stays closed.
func TestTickOfAClosedTable(t *testing.T) {
	b := newTable(t, ordinary)
	b.want(api.OK, 0, set("ann", 1, 1, 7))
	b.want(api.OK, 0, shut)
	b.tick(6)
	if got := b.m.Presence("ann"); got != pres(1, 0, 1) {
		t.Errorf("at 6 ann is %v", got)
	}
	b.tick(1)
	if got := b.m.Presence("ann"); got != pres(0, 0, 0) || b.m.Time() != (api.Time{Now: 7, Seq: 1, Closed: true}) {
		t.Errorf("at %v ann is %v", b.m.Time(), got)
	}
}

// 10.2: Stored counts all stripes' sessions, living or not, until they are swept or written.
func TestStored(t *testing.T) {
	b := newTable(t, sizes(5, 8, 1, 1))
	users := usersIn(0, 1, 30)
	for i, user := range users {
		for id := range i%8 + 1 {
			b.want(api.OK, i%8, set(user, id, 1, uint64(id)))
		}
	}
	b.tick(3)
	b.want(api.ErrNone, 0, clear(users[7], 0))
	b.want(api.ErrNone, 0, beat(users[6], 200, 4))
	b.do(0, query(users[5]))
	for s := range 5 {
		b.sweep(s)
	}
	b.tick(9)
	for s := range 5 {
		b.sweep(4 - s)
	}
	if got := b.m.Stored(); got != 0 {
		t.Errorf("%d sessions are kept", got)
	}
}
