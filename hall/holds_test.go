package hall_test

import (
	"fmt"
	"testing"

	"doorman/api"
	"doorman/book"
	"doorman/feed"
	"doorman/hall"
	"doorman/model"
)

// client does a client's ops by acts, one behind the other, as chapter 10 tells them.
type client struct {
	h       *hall.Hall
	whole   bool // with locks, epochs and snapshots round them
	watches int
}

// do answers the reply that the acts come to.
func (c client) do(who int, x api.Op) api.Reply {
	if model.Bad(x) {
		return api.Reply{Err: api.ErrArg}
	}
	switch x.Kind {
	case api.Set, api.Beat, api.Clear:
		var err api.Errno
		c.section(who, c.h.Stripe(x.User), func(s int) { err = c.h.Write(who, s, x, c.h.Take(who)) })
		return api.Reply{Err: err}
	case api.Poll:
		return c.poll(who)
	case api.Close:
		if !c.h.Shut(who) {
			return api.Reply{Err: api.ErrClosed}
		}
		return api.Reply{}
	}
	now := c.h.Look(who)
	if now.Closed {
		return api.Reply{Err: api.ErrClosed}
	}
	switch x.Kind {
	case api.Watch:
		if n, watching := c.watched(who, x.User); !watching && n >= c.watches {
			return api.Reply{Err: api.ErrWatch}
		}
		c.h.Watch(who, c.h.Stripe(x.User), x.User, true)
	case api.Unwatch:
		c.h.Watch(who, c.h.Stripe(x.User), x.User, false)
	default:
		return api.Reply{Values: c.presences(who, model.Users(x), now.Now)}
	}
	return api.Reply{}
}

// section writes a stripe.
func (c client) section(who, s int, write func(s int)) {
	if !c.whole {
		write(s)
		return
	}
	c.h.Lock(who, s)
	c.h.Begin(who, s)
	write(s)
	c.h.Publish(who, s)
	c.h.End(who, s)
	c.h.Unlock(who, s)
}

func (c client) poll(who int) api.Reply {
	var r api.Reply
	var told [][]api.Event
	for s := range c.h.Config().Stripes {
		events, lost := c.h.Drain(who, s)
		told, r.Lost = append(told, events), r.Lost || lost
	}
	r.Events = feed.Merge(told)
	return r
}

func (c client) watched(who int, user string) (int, bool) {
	n := 0
	for s := range c.h.Config().Stripes {
		of, _ := c.h.Count(who, s, user)
		n += of
	}
	_, watching := c.h.Count(who, c.h.Stripe(user), user)
	return n, watching
}

// presences are of what was published where that is done, else of the own books.
func (c client) presences(who int, users []string, now uint64) []api.Presence {
	var l []api.Presence
	for _, user := range users {
		look := c.h.Read
		if c.whole {
			look = c.h.Snap
		}
		l = append(l, book.Presence(look(who, c.h.Stripe(user)), user, now))
	}
	return l
}

// befall does to both what rolls; the answers are told as words.
func (c client) befall(m *model.Model, roll func(int) int) (what, got, want string) {
	switch roll(12) {
	case 0:
		s := roll(c.h.Config().Stripes)
		c.section(8, s, func(s int) { c.h.Sweep(8, s, c.h.Take(8)) })
		m.Sweep(s)
		return fmt.Sprintf("a sweep of %d", s), "", ""
	case 1:
		by := uint64(roll(12))
		c.h.Pass(9, by)
		m.Tick(by)
		return fmt.Sprintf("a Tick by %d", by), "", ""
	}
	who := roll(8)
	x := rolledOp(roll, userOf(roll))
	x.Kind = []int{0, 1, 1, 1, 1, 2, 3, 4, 5, 6, 6, 6, 7, 8, 8, 8, 1, 1}[roll(18)]
	for range roll(10) {
		x.Users = append(x.Users, userOf(roll))
	}
	if roll(400) == 0 {
		x.Kind = api.Close
	}
	return fmt.Sprintf("%v of %d", x, who), fmt.Sprint(c.do(who, x)), fmt.Sprint(m.Do(who, x))
}

func userOf(roll func(int) int) string {
	return []string{"u1", "u2", "u3", "u4", "u5", "u6", "u7", "u8", "sixteen bytes...", "sixteen bytes, no", ""}[roll(roll(11)+1)]
}

// 14.4: long scripts at many sizes, with and without locks, epochs and snapshots: replies, time and what is kept are those of a table of chapter 10, and all presences are.
func TestOneBehindTheOther(t *testing.T) {
	for seed := range uint64(400) {
		roll := roller(seed*104729 + 1)
		sizes := rolledSizes(roll)
		h, _ := hall.New(sizes)
		m, err := model.New(sizes)
		if err != api.OK {
			t.Fatalf("the seed is %d: New(%v) is %d", seed, sizes, err)
		}
		c := client{h, seed%2 == 0, sizes.Watches}
		for step := range 300 {
			what, got, want := c.befall(m, roll)
			if got != want {
				t.Fatalf("the seed is %d, at %d: %s = %s, not %s", seed, step, what, got, want)
			}
			if h.Now() != m.Time() || h.Stored() != m.Stored() {
				t.Fatalf("the seed is %d, at %d: %s: the time is %v, not %v, %d sessions are kept, not %d", seed, step, what, h.Now(), m.Time(), h.Stored(), m.Stored())
			}
			c.alike(t, m)
		}
	}
}

// alike holds all presences against the table of chapter 10; all stripes are free and quiet behind all that is done whole.
func (c client) alike(t *testing.T, m *model.Model) {
	t.Helper()
	for i := range 9 {
		user := "u" + fmt.Sprint(i)
		if got, want := c.presences(0, []string{user}, c.h.Now().Now)[0], m.Presence(user); got != want {
			t.Fatalf("%s is %v, not %v", user, got, want)
		}
	}
	for s := range c.h.Config().Stripes {
		if !c.h.Free(s) || c.whole && !c.h.Quiet(s) {
			t.Fatalf("the stripe %d: free is %v, quiet is %v", s, c.h.Free(s), c.h.Quiet(s))
		}
	}
}
