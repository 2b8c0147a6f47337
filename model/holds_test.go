package model_test

import (
	"testing"

	"doorman/api"
	"doorman/model"
)

// roller answers numbers below others, the same ones each time.
func roller(n uint32) func(below int) int {
	return func(below int) int {
		n = n*1664525 + 1013904223
		return int(n>>8) % below
	}
}

// deed is what befalls a table: an op of a client, a sweep of a stripe, or a Tick.
type deed struct {
	kind, who int
	x         api.Op
	by        uint64
}

const (
	asked = iota
	swept
	ticked
)

// befall does a deed to a table alone, and answers its reply.
func befall(m *model.Model, d deed) api.Reply {
	switch d.kind {
	case swept:
		m.Sweep(d.who)
	case ticked:
		m.Tick(d.by)
	default:
		return m.Do(d.who, d.x)
	}
	return api.Reply{}
}

// befall does a deed to both tables, and holds them against each other.
func (b *table) befall(d deed) api.Reply {
	b.t.Helper()
	switch d.kind {
	case swept:
		b.sweep(d.who)
	case ticked:
		b.tick(d.by)
	default:
		return b.do(d.who, d.x)
	}
	return api.Reply{}
}

// rolledOp is an op that is bad now and then.
func rolledOp(roll func(int) int, users []string) api.Op {
	x := api.Op{Kind: []int{0, 1, 1, 1, 1, 2, 2, 3, 3, 4, 4, 5, 6, 6, 6, 7, 8, 8}[roll(18)], User: users[roll(len(users))]}
	x.Id, x.Status, x.Prio, x.Ttl = roll(4), roll(30)%10, roll(3), uint64(roll(20))
	if roll(40) == 0 {
		x.Id, x.Status, x.Prio, x.Ttl = roll(600)-100, roll(20)-5, roll(20)-5, top-uint64(roll(30))
	}
	for range roll(10) {
		x.Users = append(x.Users, users[roll(len(users)-2)])
	}
	if roll(300) == 0 {
		x.Kind = api.Close
	}
	return x
}

// rolledDeed is mostly an op of a client.
func rolledDeed(roll func(int) int, users []string, stripes int) deed {
	switch roll(10) {
	case 0:
		return deed{kind: swept, who: roll(stripes+2) - 1}
	case 1:
		return deed{kind: ticked, by: uint64(roll(12))}
	case 2:
		return deed{kind: asked, who: roll(12) - 2, x: rolledOp(roll, users)}
	}
	return deed{kind: asked, who: roll(8), x: rolledOp(roll, users)}
}

// rolledUsers are some users, the last two of which may be none.
func rolledUsers(roll func(int) int) []string {
	return append(usersIn(0, 1, 1+roll(8)), "", "seventeen bytes..")
}

// rolledSizes are sizes that may be.
func rolledSizes(roll func(int) int) api.Config {
	c := sizes(1+roll(8), 1+roll(8), 1+roll(16), 1+roll(8))
	if roll(2) == 0 {
		c.Sessions, c.Queue, c.Watches = 1+roll(2), 1+roll(3), 1+roll(3)
	}
	c.Retries, c.Epochs = roll(5), uint64(roll(300))
	c.Start = []uint64{0, 1, 100, 1 << 63, top - 200, top}[roll(6)]
	return c
}

// 10.2: long scripts at many sizes, held against the plain table at each step.
func TestLongScripts(t *testing.T) {
	for seed := range uint32(300) {
		roll := roller(seed * 7919)
		b := newTable(t, rolledSizes(roll))
		b.users = rolledUsers(roll)
		for range 400 {
			b.befall(rolledDeed(roll, b.users, b.p.c.Stripes))
		}
		b.done()
		if t.Failed() {
			t.Fatalf("the seed is %d, the sizes are %v", seed, b.p.c)
		}
	}
}

// 10.2: all scripts of five deeds of two clients and two users, at small sizes, and then a Poll of both.
func TestAllSmallScripts(t *testing.T) {
	ann, bob := usersIn(0, 2, 1)[0], usersIn(1, 2, 1)[0]
	deeds := []deed{
		{who: 0, x: watch(ann)}, {who: 0, x: watch(bob)}, {who: 0, x: unwatch(ann)},
		{who: 1, x: set(ann, 1, 1, 1)}, {who: 1, x: set(ann, 2, 2, 2)}, {who: 0, x: set(bob, 1, 3, 1)},
		{who: 0, x: beat(ann, 1, 2)}, {who: 1, x: clear(ann, 1)},
		{who: 0, x: poll}, {who: 1, x: shut}, {kind: swept, who: 0}, {kind: ticked, by: 1},
	}
	const length = 5
	scripts := 1
	for range length {
		scripts *= len(deeds)
	}
	for script := range scripts {
		b := newTable(t, sizes(2, 1, 1, 1))
		b.users = []string{ann, bob}
		rest := script
		for range length {
			b.befall(deeds[rest%len(deeds)])
			rest /= len(deeds)
		}
		b.do(0, batch(bob, ann))
		b.do(0, poll)
		if t.Failed() {
			t.Fatalf("the script is %d", script)
		}
	}
}

// 10.3: the same script with and without sweeps in between: all replies are alike, but for what Polls tell; presences and times too, but for the count of writings.
func TestSweepingIsNotSeen(t *testing.T) {
	for seed := range uint32(300) {
		roll := roller(seed*104729 + 1)
		c, users := rolledSizes(roll), rolledUsers(roll)
		calm, err := model.New(c)
		busy, _ := model.New(c)
		if err != api.OK {
			t.Fatalf("New(%v) = %d", c, err)
		}
		for range 400 {
			d := rolledDeed(roll, users, c.Stripes)
			if d.kind == swept {
				busy.Sweep(d.who)
				continue
			}
			for range roll(3) {
				busy.Sweep(roll(c.Stripes))
			}
			got, want := befall(busy, d), befall(calm, d)
			if d.x.Kind == api.Poll {
				got.Events, want.Events, got.Lost, want.Lost = nil, nil, false, false
			}
			if !like(got, want) {
				t.Fatalf("seed %d, %v: with sweeps it is %v, without %v", seed, d, got, want)
			}
			checkUnseen(t, busy, calm, users)
		}
	}
}

// checkUnseen holds two tables against each other, of which one was swept.
func checkUnseen(t *testing.T, busy, calm *model.Model, users []string) {
	t.Helper()
	for _, user := range users {
		if got, want := busy.Presence(user), calm.Presence(user); got != want {
			t.Fatalf("%q is %v with sweeps, %v without", user, got, want)
		}
	}
	a, b := busy.Time(), calm.Time()
	if a.Now != b.Now || a.Closed != b.Closed || busy.Stored() > calm.Stored() {
		t.Fatalf("with sweeps %v, %d sessions are kept, without %v, %d", a, busy.Stored(), b, calm.Stored())
	}
}

// 10.3: behind a round of sweeps no session is left that doesn't live.
func TestSweptIsGone(t *testing.T) {
	roll := roller(77)
	for range 50 {
		c, users := rolledSizes(roll), rolledUsers(roll)
		m, _ := model.New(c)
		for range 200 {
			befall(m, rolledDeed(roll, users, c.Stripes))
		}
		for s := range c.Stripes {
			m.Sweep(s)
		}
		live := 0
		for _, user := range users {
			live += m.Presence(user).Live
		}
		if m.Stored() != live {
			t.Errorf("%d sessions are kept, and %d live", m.Stored(), live)
		}
	}
}

// 10.3: what Polls tell of a user, while it is watched and nothing is lost, goes on where it stopped, with or without sweeps; at numbers that don't fall.
func TestToldGoesOn(t *testing.T) {
	for seed := range uint32(40) {
		roll := roller(seed*31 + 9)
		c := sizes(1+roll(8), 1+roll(3), 16, 8)
		m, _ := model.New(c)
		users := usersIn(0, 1, 8)
		for _, user := range users {
			m.Do(2, watch(user))
		}
		said := map[string]api.Presence{}
		last := uint64(0)
		events := 0
		for i := range 3000 {
			switch {
			case roll(4) == 0:
				m.Tick(uint64(roll(5)))
			case roll(3) == 0 && seed%2 == 0:
				m.Sweep(roll(c.Stripes))
			default:
				m.Do(roll(8), api.Op{Kind: 1 + roll(3), User: users[roll(8)], Id: roll(3), Status: 1 + roll(9), Prio: roll(3), Ttl: uint64(roll(20))})
			}
			if i%10 > 0 {
				continue
			}
			r := m.Do(2, poll)
			for _, e := range r.Events {
				if r.Lost || e.Old != said[e.User] || e.Old == e.New || e.Seq < last {
					t.Fatalf("%v is told behind %d, lost is %v, but told last was %v", e, last, r.Lost, said[e.User])
				}
				said[e.User], last = e.New, e.Seq
			}
			events += len(r.Events)
		}
		if events < 100 {
			t.Errorf("seed %d: only %d events were told", seed, events)
		}
		checkSaid(t, m, c, users, said)
	}
}

// checkSaid sweeps all stripes: then what was told of each user is its presence.
func checkSaid(t *testing.T, m *model.Model, c api.Config, users []string, said map[string]api.Presence) {
	t.Helper()
	for s := range c.Stripes {
		m.Sweep(s)
	}
	for _, e := range m.Do(2, poll).Events {
		if e.Old != said[e.User] {
			t.Errorf("%v is told, but told last was %v", e, said[e.User])
		}
		said[e.User] = e.New
	}
	for _, user := range users {
		if got := m.Presence(user); got != said[user] {
			t.Errorf("%q is %v, but told last was %v", user, got, said[user])
		}
	}
}

// 10.3: a client that watches a user again is told from what was told last, of whoever, not from what it was told itself.
func TestToldGoesOnOfAll(t *testing.T) {
	b := newTable(t, sizes(1, 1, 4, 2))
	b.want(api.OK, 0, watch("ann"))
	b.want(api.OK, 1, set("ann", 1, 1, 5))
	b.events(0, false, api.Event{User: "ann", New: pres(1, 0, 1), Seq: 1})
	b.want(api.OK, 0, unwatch("ann"))
	b.want(api.OK, 1, set("ann", 1, 2, 5))
	b.tick(5)
	b.want(api.OK, 0, watch("ann"))
	// It has ended, but nobody was told: the next writing tells from 2 on.
	b.values(0, query("ann"), pres(0, 0, 0))
	b.events(0, false)
	b.want(api.OK, 1, set("ann", 1, 3, 5))
	b.events(0, false, api.Event{User: "ann", Old: pres(2, 0, 1), New: pres(3, 0, 1), Seq: 3})
	b.tick(5)
	b.want(api.OK, 1, set("ann", 1, 3, 5))
	// From 3 to 3: nothing befell that has to be told.
	b.events(0, false)
	b.tick(5)
	b.sweep(0)
	b.want(api.OK, 1, set("ann", 1, 3, 5))
	b.events(0, false, api.Event{User: "ann", Old: pres(3, 0, 1), Seq: 5}, api.Event{User: "ann", New: pres(3, 0, 1), Seq: 6})
}
