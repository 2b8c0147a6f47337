package model_test

import (
	"testing"

	"doorman/api"
)

// 10.2: Set, Beat and Clear, and what Query tells behind each.
func TestWritings(t *testing.T) {
	for stripes := range 8 {
		b := newTable(t, sizes(stripes+1, 2, 4, 2))
		b.values(0, query("ann"), pres(0, 0, 0))
		b.want(api.OK, 0, set("ann", 7, 3, 10))
		b.values(5, query("ann"), pres(3, 0, 1))
		b.want(api.OK, 7, api.Op{Kind: api.Set, User: "ann", Id: 9, Status: 4, Prio: 1, Ttl: 5})
		b.values(5, query("ann"), pres(4, 1, 2))
		b.values(5, query("bob"), pres(0, 0, 0))
		b.want(api.OK, 1, set("ann", 9, 5, 20))
		b.values(5, query("ann"), pres(3, 0, 2))
		b.tick(9)
		b.want(api.OK, 2, beat("ann", 7, 3))
		b.tick(1)
		b.values(0, query("ann"), pres(3, 0, 2))
		b.tick(2)
		b.values(0, query("ann"), pres(5, 0, 1))
		b.want(api.ErrNone, 2, beat("ann", 7, 3))
		b.want(api.OK, 3, clear("ann", 9))
		b.want(api.ErrNone, 3, clear("ann", 9))
		b.values(0, query("ann"), pres(0, 0, 0))
		b.seq(7)
		b.done()
	}
}

// 10.2: any client may write any user's sessions; two clients are no two users.
func TestWritersAreAlike(t *testing.T) {
	b := newTable(t, sizes(3, 1, 1, 1))
	for who := range 8 {
		b.want(api.OK, who, set("ann", 0, who+1, 9))
		b.values((who+3)%8, query("ann"), pres(who+1, 0, 1))
	}
	for who := range 8 {
		b.want(api.ErrFull, who, set("ann", who+1, 1, 9))
		b.want(api.OK, who, beat("ann", 0, uint64(10+who)))
	}
	b.want(api.OK, 6, clear("ann", 0))
	b.seq(25)
}

// 10.2: a user has as many sessions as Sessions, of each user apart; what has ended makes room.
func TestSessions(t *testing.T) {
	for most := 1; most <= 8; most++ {
		b := newTable(t, sizes(2, most, 4, 1))
		for id := range most {
			b.want(api.OK, 0, set("ann", id, 1, uint64(10+id)))
		}
		b.want(api.ErrFull, 0, set("ann", most, 1, 99))
		b.want(api.ErrFull, 0, set("ann", 255, 1, 0))
		b.want(api.OK, 0, set("bob", most, 1, 99))
		// One that is there may be set again.
		b.want(api.OK, 0, set("ann", most-1, 2, uint64(9+most)))
		b.tick(10)
		b.want(api.OK, 0, set("ann", most, 1, 99))
		b.want(api.ErrFull, 0, set("ann", 0, 1, 99))
		b.want(api.OK, 0, clear("ann", most))
		b.want(api.OK, 0, set("ann", 0, 1, 99))
	}
}

// 10.2: each writing counts one number, be its error Write's or the closed table's; a bad op, one of no client, and all other kinds count none.
func TestNumbers(t *testing.T) {
	b := newTable(t, sizes(2, 1, 16, 4))
	b.want(api.OK, 3, watch("ann"))
	b.seq(0)
	told := func(seq uint64, old, is int) {
		t.Helper()
		var was, now api.Presence
		if old > 0 {
			was = pres(old, 0, 1)
		}
		if is > 0 {
			now = pres(is, 0, 1)
		}
		b.seq(seq)
		b.events(3, false, api.Event{User: "ann", Old: was, New: now, Seq: seq})
	}
	b.want(api.OK, 0, set("ann", 1, 1, 99))
	told(1, 0, 1)
	b.want(api.ErrArg, 0, set("ann", 256, 1, 9))
	b.want(api.ErrArg, 0, set("", 1, 1, 9))
	b.want(api.ErrArg, 0, beat("ann", -1, 9))
	b.want(api.ErrArg, 0, api.Op{})
	b.want(api.OK, 0, set("ann", 1, 2, 99))
	told(2, 1, 2)
	b.want(api.ErrArg, 8, set("ann", 1, 5, 9))
	b.want(api.ErrArg, -1, clear("ann", 1))
	b.want(api.OK, 0, set("ann", 1, 3, 99))
	told(3, 2, 3)
	b.want(api.ErrFull, 0, set("ann", 2, 1, 9))
	b.want(api.ErrNone, 0, beat("ann", 2, 9))
	b.want(api.ErrNone, 0, clear("zoe", 1))
	b.want(api.OK, 0, set("ann", 1, 4, 99))
	told(7, 3, 4)
	b.do(0, query("ann"))
	b.do(0, batch("ann", "bob"))
	b.want(api.OK, 0, watch("zoe"))
	b.want(api.OK, 0, unwatch("zoe"))
	b.want(api.OK, 0, poll)
	b.tick(3)
	b.want(api.OK, 0, beat("ann", 1, 200))
	b.sweep(0)
	b.sweep(2)
	b.sweep(-1)
	b.want(api.OK, 0, set("ann", 1, 5, 99))
	told(10, 4, 5)
	b.want(api.OK, 0, shut)
	b.seq(10)
	for i, x := range []api.Op{set("ann", 1, 6, 99), beat("ann", 1, 9), clear("ann", 1), clear("ann", 200), set("ann", 2, 6, 9)} {
		b.want(api.ErrClosed, i, x)
		b.seq(uint64(11 + i))
	}
	b.want(api.ErrArg, 0, set("ann", 1, 10, 9))
	b.want(api.ErrArg, 9, set("ann", 1, 9, 9))
	b.want(api.ErrClosed, 0, query("ann"))
	b.seq(15)
	b.events(3, false)
	b.tick(99)
	b.sweep(0)
	b.sweep(1)
	b.seq(17)
	r := b.do(3, poll)
	if len(r.Events) != 1 || r.Events[0].Seq < 16 || r.Events[0].Seq > 17 {
		t.Errorf("behind the sweeps Poll = %v", r)
	}
	b.done()
}

// 10.2: what Write tells beside an error is told: sessions that have ended are gone then.
func TestToldBesideAnError(t *testing.T) {
	ann := func(seq uint64, old, is api.Presence) api.Event {
		return api.Event{User: "ann", Old: old, New: is, Seq: seq}
	}
	for _, c := range []struct {
		err api.Errno
		x   api.Op
	}{
		{api.ErrNone, beat("ann", 1, 9)}, {api.ErrNone, clear("ann", 1)}, {api.ErrFull, set("ann", 4, 1, 9)},
	} {
		b := newTable(t, sizes(1, 2, 4, 1))
		b.want(api.OK, 2, watch("ann"))
		b.want(api.OK, 0, set("ann", 1, 5, 3))
		b.want(api.OK, 0, set("ann", 2, 6, 9))
		b.events(2, false, ann(1, pres(0, 0, 0), pres(5, 0, 1)), ann(2, pres(5, 0, 1), pres(5, 0, 2)))
		last := ann(3, pres(5, 0, 2), pres(6, 0, 1))
		if c.err == api.ErrFull {
			// Both live: nothing is to be told.
			b.want(c.err, 0, c.x)
			b.events(2, false)
			continue
		}
		b.tick(3)
		b.want(c.err, 0, c.x)
		b.events(2, false, last)
		if b.m.Stored() != 1 {
			t.Errorf("behind %v %d sessions are kept", c.x, b.m.Stored())
		}
	}
}

// 10.2: an op of no client is answered ErrArg at each kind, and nothing happens; that of each client isn't.
func TestNoClient(t *testing.T) {
	b := newTable(t, sizes(2, 4, 4, 4))
	for who := range 8 {
		b.want(api.OK, who, watch("bob"))
	}
	b.want(api.OK, 0, set("bob", 1, 2, 99))
	for _, who := range strangers {
		for _, kind := range kinds {
			b.want(api.ErrArg, who, good(kind))
			b.want(api.ErrArg, who, api.Op{Kind: kind, User: "bob", Id: 1, Status: 1})
		}
		b.want(api.ErrArg, who, api.Op{})
	}
	b.seq(1)
	for who := range 8 {
		b.want(api.OK, who, api.Op{Kind: api.Watch, User: "ann"})
		b.events(who, false, api.Event{User: "bob", New: pres(2, 0, 1), Seq: 1})
	}
	b.want(api.OK, 7, shut)
	for _, who := range strangers {
		for _, kind := range kinds {
			b.want(api.ErrArg, who, good(kind))
		}
	}
	b.seq(1)
}

// 10.2: a bad op is answered ErrArg of an open and of a closed table, whoever asks, and nothing happens.
func TestBadOpsDoNothing(t *testing.T) {
	bad := []api.Op{
		{}, {Kind: 10}, {Kind: -1, User: "ann"},
		set("", 1, 1, 9), set("seventeen bytes..", 1, 1, 9), set("ann", -1, 1, 9), set("ann", 256, 1, 9), set("ann", 1, 0, 9), set("ann", 1, 10, 9),
		{Kind: api.Set, User: "ann", Id: 1, Status: 1, Prio: -1}, {Kind: api.Set, User: "ann", Id: 1, Status: 1, Prio: 10},
		beat("", 1, 9), beat("ann", -1, 9), beat("ann", 256, 9), clear("seventeen bytes..", 1), clear("ann", -1), clear("ann", 256),
		query(""), query("seventeen bytes.."), watch(""), watch("seventeen bytes.."), unwatch(""), unwatch("seventeen bytes.."),
		batch(), batch(""), batch("ann", "seventeen bytes.."), batch("ann", "", "bob"), batch(usersIn(0, 1, 9)...),
	}
	b := newTable(t, sizes(2, 4, 4, 4))
	b.users = append(b.users, "", "seventeen bytes..")
	b.want(api.OK, 1, watch("ann"))
	b.want(api.OK, 1, set("ann", 1, 2, 99))
	all := func() {
		t.Helper()
		for who := -1; who < 9; who++ {
			for _, x := range bad {
				b.want(api.ErrArg, who, x)
			}
		}
	}
	all()
	b.seq(1)
	b.events(1, false, api.Event{User: "ann", New: pres(2, 0, 1), Seq: 1})
	b.want(api.OK, 1, shut)
	all()
	b.seq(1)
	b.events(1, false)
}

// 10.2: each kind behind a Close.
func TestClosed(t *testing.T) {
	for stripes := range 8 {
		b := newTable(t, sizes(stripes+1, 2, 4, 2))
		b.want(api.OK, 4, watch("ann"))
		b.want(api.OK, 4, watch("bob"))
		b.want(api.OK, 1, set("ann", 1, 2, 9))
		b.want(api.OK, 2, shut)
		if got := b.m.Time(); got != (api.Time{Seq: 1, Closed: true}) {
			t.Errorf("behind a Close the time is %v", got)
		}
		for who := range 8 {
			for _, kind := range kinds {
				if kind != api.Poll {
					b.want(api.ErrClosed, who, good(kind))
				}
			}
		}
		b.want(api.ErrClosed, 4, unwatch("ann"))
		// More than it may watch: closed comes first.
		b.want(api.ErrClosed, 4, watch("zoe"))
		b.want(api.ErrClosed, 4, set("ann", 2, 1, 9))
		b.want(api.ErrClosed, 4, beat("zoe", 2, 9))
		// What was told ahead of it is polled; time goes on, presences with it, and sweeping tells.
		b.events(4, false, api.Event{User: "ann", New: pres(2, 0, 1), Seq: 1})
		if got := b.m.Presence("ann"); got != pres(2, 0, 1) {
			t.Errorf("behind a Close ann is %v", got)
		}
		b.tick(9)
		seq := b.m.Time().Seq
		for s := range stripes + 1 {
			b.sweep(s)
		}
		want := api.Event{User: "ann", Old: pres(2, 0, 1), Seq: seq + 1 + uint64(stripeOf("ann", stripes+1))}
		b.events(4, false, want)
		b.events(4, false)
		b.want(api.ErrClosed, 2, shut)
		if got := b.m.Time(); got.Now != 9 || got.Seq != seq+uint64(stripes)+1 || !got.Closed {
			t.Errorf("the time is %v", got)
		}
		b.done()
	}
}

// 10.2: a Batch tells presences in the order of its users, one of a user each time it is named.
func TestBatch(t *testing.T) {
	for stripes := range 8 {
		b := newTable(t, sizes(stripes+1, 2, 4, 2))
		users := usersIn(0, 1, 8)
		b.users = users
		var want []api.Presence
		for i, user := range users {
			b.want(api.OK, i, api.Op{Kind: api.Set, User: user, Id: i, Status: i + 1, Prio: 9 - i, Ttl: uint64(i)})
			b.want(api.OK, i, api.Op{Kind: api.Set, User: user, Id: i + 1, Status: 9, Prio: 0, Ttl: 20})
			want = append(want, pres(i+1, 9-i, 2))
		}
		want[0] = pres(9, 0, 1)
		b.values(3, batch(users...), want...)
		for n := 1; n <= 8; n++ {
			b.values(3, batch(users[:n]...), want[:n]...)
			b.values(3, batch(users[8-n:]...), want[8-n:]...)
		}
		for i, user := range users {
			b.values(i, query(user), want[i])
			b.values(i, batch(user), want[i])
			b.values(i, batch(user, "nobody", user, users[3], user), want[i], pres(0, 0, 0), want[i], want[3], want[i])
		}
		b.tick(3)
		b.values(0, batch(users[4], users[3], users[2], users[4]), pres(5, 5, 2), pres(9, 0, 1), pres(9, 0, 1), pres(5, 5, 2))
		b.want(api.ErrArg, 0, batch(append(users, "ann")...))
		b.done()
	}
}
