package model_test

import (
	"math"
	"slices"
	"strconv"
	"strings"
	"testing"

	"doorman/api"
	"doorman/model"
)

// strangers are no clients.
var strangers = []int{-1, -2, -8, -256, math.MinInt, 8, 9, 10, 15, 16, 64, 256, 1 << 32, 1<<32 + 1, math.MaxInt}

// extremes are numbers far beyond every bound.
var extremes = []int{math.MinInt, math.MinInt + 1, -1 << 32, -256, 1 << 16, 1 << 32, 1<<32 + 1, math.MaxInt}

// kinds are all kinds of ops.
var kinds = []int{api.Set, api.Beat, api.Clear, api.Query, api.Batch, api.Watch, api.Unwatch, api.Poll, api.Close}

func pres(status, prio, live int) api.Presence {
	return api.Presence{Status: status, Prio: prio, Live: live}
}

func sizes(stripes, sessions, queue, watches int) api.Config {
	return api.Config{Stripes: stripes, Sessions: sessions, Queue: queue, Watches: watches}
}

// ordinary are sizes at which nothing is full soon.
var ordinary = sizes(4, 8, 16, 8)

func set(user string, id, status int, ttl uint64) api.Op {
	return api.Op{Kind: api.Set, User: user, Id: id, Status: status, Ttl: ttl}
}

func beat(user string, id int, ttl uint64) api.Op {
	return api.Op{Kind: api.Beat, User: user, Id: id, Ttl: ttl}
}

func clear(user string, id int) api.Op { return api.Op{Kind: api.Clear, User: user, Id: id} }

func query(user string) api.Op { return api.Op{Kind: api.Query, User: user} }

func batch(users ...string) api.Op { return api.Op{Kind: api.Batch, Users: users} }

func watch(user string) api.Op { return api.Op{Kind: api.Watch, User: user} }

func unwatch(user string) api.Op { return api.Op{Kind: api.Unwatch, User: user} }

var (
	poll = api.Op{Kind: api.Poll}
	shut = api.Op{Kind: api.Close}
)

// good is an op of each kind that may be.
func good(kind int) api.Op {
	return api.Op{Kind: kind, User: "ann", Id: 1, Status: 2, Prio: 3, Ttl: 4, Users: []string{"ann", "bob"}}
}

// usersIn are so many users in a stripe, of so many, by rising names.
func usersIn(stripe, stripes, n int) []string {
	var l []string
	for i := 100; len(l) < n; i++ {
		if user := "u" + strconv.Itoa(i); stripeOf(user, stripes) == stripe {
			l = append(l, user)
		}
	}
	return l
}

// roomy is a list like l, in memory of its own, with spare room behind it that holds junk, so that a call that looks at spare room is seen.
func roomy[T any](l []T, junk T) []T {
	all := slices.Repeat([]T{junk}, len(l)+3)
	copy(all, l)
	return all[:len(l)]
}

// scribble writes junk into all of a list's memory, spare room included.
func scribble[T any](l []T, junk T) {
	all := l[:cap(l)]
	for i := range all {
		all[i] = junk
	}
}

// untouched hands an op to a call, its users with spare room: it sees that they are left as they were, and then writes junk into them, so that whoever keeps them is seen.
func untouched(t *testing.T, x api.Op, call func(api.Op)) {
	t.Helper()
	x.Users = roomy(x.Users, "junk")
	all := x.Users[:cap(x.Users)]
	before := slices.Clone(all)
	call(x)
	if !slices.Equal(all, before) {
		t.Errorf("%v: its users are changed from %q to %q", x, before, all)
	}
	scribble(x.Users, "scribbled")
}

// like tells whether two replies are alike; lists without elements are.
func like(a, b api.Reply) bool {
	return a.Err == b.Err && a.Lost == b.Lost && slices.Equal(a.Values, b.Values) && slices.Equal(a.Events, b.Events)
}

// copyOf is a reply in memory of its own.
func copyOf(r api.Reply) api.Reply {
	r.Values, r.Events = slices.Clone(r.Values), slices.Clone(r.Events)
	return r
}

// table is a table beside a plain one, to which the same befalls; what was answered is kept, with copies.
type table struct {
	t             *testing.T
	m             *model.Model
	p             *plain
	users         []string
	answers, held []api.Reply
}

func newTable(t *testing.T, c api.Config) *table {
	t.Helper()
	m, err := model.New(c)
	if m == nil || err != api.OK {
		t.Fatalf("New(%v) = %v, %d", c, m, err)
	}
	return &table{t: t, m: m, p: newPlain(c), users: []string{"ann", "bob", "zoe"}}
}

// look holds all that may be asked without a client against the plain table.
func (b *table) look(what string, at any) {
	b.t.Helper()
	if got := b.m.Time(); got != b.p.time {
		b.t.Errorf("%s %v: the time is %v, not %v", what, at, got, b.p.time)
	}
	if got := b.m.Stored(); got != b.p.stored() {
		b.t.Errorf("%s %v: %d sessions are kept, not %d", what, at, got, b.p.stored())
	}
	for _, user := range b.users {
		if got, want := b.m.Presence(user), b.p.presence(user); got != want {
			b.t.Errorf("%s %v: Presence(%q) = %v, not %v", what, at, user, got, want)
		}
	}
}

// do does what a client asks, and holds the reply against the plain table's.
func (b *table) do(who int, x api.Op) api.Reply {
	b.t.Helper()
	want := b.p.do(who, x)
	var got api.Reply
	untouched(b.t, x, func(x api.Op) { got = b.m.Do(who, x) })
	if !like(got, want) {
		b.t.Errorf("Do(%d, %v) = %v, not %v", who, x, got, want)
	}
	b.look("behind", x)
	b.answers, b.held = append(b.answers, got), append(b.held, copyOf(got))
	return got
}

func (b *table) sweep(s int) {
	b.t.Helper()
	b.p.sweep(s)
	b.m.Sweep(s)
	b.look("swept", s)
}

func (b *table) tick(by uint64) {
	b.t.Helper()
	b.p.tick(by)
	b.m.Tick(by)
	b.look("a Tick by", by)
}

// want does what a client asks; the reply has to be just that error, and nothing else.
func (b *table) want(err api.Errno, who int, x api.Op) {
	b.t.Helper()
	if got := b.do(who, x); !like(got, api.Reply{Err: err}) {
		b.t.Errorf("Do(%d, %v) = %v, not the error %d alone", who, x, got, err)
	}
}

// values asks; the reply has to be just these presences.
func (b *table) values(who int, x api.Op, want ...api.Presence) {
	b.t.Helper()
	if got := b.do(who, x); !like(got, api.Reply{Values: want}) {
		b.t.Errorf("Do(%d, %v) = %v, not the values %v", who, x, got, want)
	}
}

// events polls; the reply has to be just these events.
func (b *table) events(who int, lost bool, want ...api.Event) {
	b.t.Helper()
	if got := b.do(who, poll); !like(got, api.Reply{Events: want, Lost: lost}) {
		b.t.Errorf("a Poll of %d = %v, not %v, %v", who, got, want, lost)
	}
}

// seq asks how many writings were counted.
func (b *table) seq(want uint64) {
	b.t.Helper()
	if got := b.m.Time().Seq; got != want {
		b.t.Errorf("%d writings were counted, not %d", got, want)
	}
}

// done polls all clients, and looks at all that was answered: it stays as it was, while one answer behind the other is written to.
func (b *table) done() {
	b.t.Helper()
	for who := range 8 {
		b.do(who, poll)
	}
	for i, r := range b.answers {
		if !like(r, b.held[i]) {
			b.t.Errorf("an answer became %v, and was %v", r, b.held[i])
		}
		scribble(r.Values, pres(-7, -7, -7))
		scribble(r.Events, api.Event{User: "scribbled"})
	}
	b.answers, b.held = nil, nil
	b.look("behind", "all")
}

// 10.2: the document's example.
func TestExample(t *testing.T) {
	for stripes := range 8 {
		b := newTable(t, sizes(stripes+1, 1, 1, 1))
		b.want(api.OK, 0, watch("ann"))
		b.want(api.OK, 0, set("ann", 1, 1, 5))
		b.events(0, false, api.Event{User: "ann", New: pres(1, 0, 1), Seq: 1})
		b.done()
	}
}

// field is one of the sizes, with its bounds.
type field struct {
	name        string
	least, most int
	of          func(*api.Config) *int
}

var fields = []field{
	{"Stripes", 1, 8, func(c *api.Config) *int { return &c.Stripes }},
	{"Sessions", 1, 8, func(c *api.Config) *int { return &c.Sessions }},
	{"Queue", 1, 16, func(c *api.Config) *int { return &c.Queue }},
	{"Watches", 1, 8, func(c *api.Config) *int { return &c.Watches }},
	{"Retries", 0, 4, func(c *api.Config) *int { return &c.Retries }},
}

// corners are sizes that are at their least or their greatest each, in all ways.
func corners() []api.Config {
	var l []api.Config
	for way := range 1 << len(fields) {
		var c api.Config
		for i, f := range fields {
			*f.of(&c) = f.least
			if way>>i&1 == 1 {
				*f.of(&c) = f.most
			}
		}
		l = append(l, c)
	}
	return l
}

// checkSizes holds Right and New against whether sizes may be.
func checkSizes(t *testing.T, c api.Config, right bool) {
	t.Helper()
	if got := model.Right(c); got != right {
		t.Errorf("Right(%v) = %v", c, got)
	}
	m, err := model.New(c)
	if right {
		if err != api.OK || m == nil {
			t.Fatalf("New(%v) = %v, %d", c, m, err)
		}
		if got := m.Time(); got != (api.Time{Now: c.Start}) || m.Stored() != 0 || m.Presence("ann") != pres(0, 0, 0) {
			t.Errorf("New(%v): the time is %v, %d sessions are kept, ann is %v", c, got, m.Stored(), m.Presence("ann"))
		}
	} else if err != api.ErrArg || m != nil {
		t.Errorf("New(%v) = %v, %d", c, m, err)
	}
}

// 10.1, 10.2: each size at each number round its bounds and far beyond them, all others at their bounds; the bound of epochs and the start may be anything.
func TestSizes(t *testing.T) {
	for _, c := range corners() {
		for _, f := range fields {
			d := c
			for n := -3; n < 20; n++ {
				*f.of(&d) = n
				checkSizes(t, d, f.least <= n && n <= f.most)
			}
			for _, n := range extremes {
				*f.of(&d) = n
				checkSizes(t, d, false)
			}
		}
		for _, n := range []uint64{0, 1, 7, 1 << 32, 1 << 63, top - 1, top} {
			d := c
			d.Epochs, d.Start = n, top-n
			checkSizes(t, d, true)
			d.Epochs, d.Start = 0, n
			checkSizes(t, d, true)
			d.Queue = 17
			checkSizes(t, d, false)
		}
	}
	checkSizes(t, api.Config{}, false)
	checkSizes(t, api.Config{Epochs: top, Start: top}, false)
}

// 10.2: two tables of one size have nothing in common.
func TestTablesAreApart(t *testing.T) {
	a, b := newTable(t, ordinary), newTable(t, ordinary)
	a.want(api.OK, 0, watch("ann"))
	a.want(api.OK, 0, set("ann", 1, 2, 9))
	a.tick(3)
	a.want(api.OK, 1, shut)
	b.look("beside", "another one")
	b.want(api.OK, 0, set("ann", 1, 3, 9))
	b.events(0, false)
	a.events(0, false, api.Event{User: "ann", New: pres(2, 0, 1), Seq: 1})
}

// 10.2: a user's presence may be asked of any text; of one that may be no name nobody is there.
func TestPresenceOfAnyText(t *testing.T) {
	for stripes := range 8 {
		b := newTable(t, sizes(stripes+1, 1, 1, 1))
		b.want(api.OK, 0, set("ann", 1, 2, 9))
		for _, user := range []string{"", "an", "anna", "Ann", "ann\x00", "\xff", strings.Repeat("x", 17), strings.Repeat("ann", 999)} {
			if got := b.m.Presence(user); got != pres(0, 0, 0) {
				t.Errorf("Presence(%q) = %v", user, got)
			}
		}
		if got := b.m.Presence("ann"); got != pres(2, 0, 1) {
			t.Errorf("ann is %v", got)
		}
	}
}
