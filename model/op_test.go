package model_test

import (
	"slices"
	"strings"
	"testing"

	"doorman/api"
	"doorman/model"
)

// rightNames may be names, wrongNames may not: bytes are counted, and may be any.
var (
	rightNames = []string{"a", "ann", "u0", " ", "\x00", "\xff", "\"", "é", strings.Repeat("x", 15), strings.Repeat("x", 16), strings.Repeat("\x00", 16), strings.Repeat("é", 8)}
	wrongNames = []string{"", strings.Repeat("x", 17), strings.Repeat("\x00", 17), strings.Repeat("é", 8) + "x", strings.Repeat("é", 9), "seventeen bytes..", strings.Repeat("x", 256), strings.Repeat("x", 257)}
)

// checkBad holds Bad against whether an op is, and asks a table too: if it is, the answer is ErrArg, and nothing happens.
func checkBad(t *testing.T, x api.Op, bad bool) {
	t.Helper()
	untouched(t, x, func(x api.Op) {
		if got := model.Bad(x); got != bad {
			t.Errorf("Bad(%v) = %v", x, got)
		}
	})
	m, _ := model.New(ordinary)
	m.Do(1, set("ann", 1, 2, 9))
	before := m.Time()
	r := m.Do(0, x)
	if bad && (!like(r, api.Reply{Err: api.ErrArg}) || m.Time() != before || m.Stored() != 1) {
		t.Errorf("Do(0, %v) = %v, then the time is %v, %d sessions are kept", x, r, m.Time(), m.Stored())
	}
	if !bad && r.Err == api.ErrArg {
		t.Errorf("Do(0, %v) = %v", x, r)
	}
}

// named tells whether ops of a kind name a User.
func named(kind int) bool { return kind != api.Batch && kind != api.Poll && kind != api.Close }

// 10.1: names, of ops that name a user, and of those that don't.
func TestBadUser(t *testing.T) {
	for _, kind := range kinds {
		for _, user := range rightNames {
			x := good(kind)
			x.User = user
			checkBad(t, x, false)
		}
		for _, user := range wrongNames {
			x := good(kind)
			x.User = user
			checkBad(t, x, named(kind))
		}
	}
}

// 10.1: an id counts of Set, Beat and Clear alone, a status and a prio of Set alone.
func TestBadNumbers(t *testing.T) {
	within := func(n, least, most int) bool { return least <= n && n <= most }
	numbers := slices.Concat(extremes, []int{-2, -1, 0, 1, 2, 8, 9, 10, 11, 100, 254, 255, 256, 257, 511})
	for _, kind := range kinds {
		for _, n := range numbers {
			x := good(kind)
			x.Id = n
			checkBad(t, x, kind <= api.Clear && !within(n, 0, 255))
			x = good(kind)
			x.Status = n
			checkBad(t, x, kind == api.Set && !within(n, 1, 9))
			x = good(kind)
			x.Prio = n
			checkBad(t, x, kind == api.Set && !within(n, 0, 9))
		}
		for _, ttl := range []uint64{0, 1, 1 << 32, 1 << 63, top} {
			x := good(kind)
			x.Ttl = ttl
			checkBad(t, x, false)
		}
	}
}

// 10.1: kinds that are none, whatever the other fields are.
func TestBadKind(t *testing.T) {
	for _, kind := range slices.Concat(extremes, []int{-9, -2, -1, 0, 10, 11, 12, 16, 255, 256, 257, 265, 1<<32 + 4}) {
		checkBad(t, good(kind), true)
		checkBad(t, api.Op{Kind: kind}, true)
	}
	for _, kind := range kinds {
		checkBad(t, good(kind), false)
		checkBad(t, api.Op{Kind: kind}, kind != api.Poll && kind != api.Close)
	}
}

// 10.1: a Batch of each number of users, and of a wrong name at each place.
func TestBadBatch(t *testing.T) {
	for n := range 20 {
		checkBad(t, batch(slices.Repeat([]string{"ann"}, n)...), n < 1 || n > 8)
		checkBad(t, batch(usersIn(0, 1, n)...), n < 1 || n > 8)
		for at := range n {
			for _, user := range wrongNames {
				x := batch(usersIn(0, 1, n)...)
				x.Users[at] = user
				checkBad(t, x, true)
			}
		}
	}
	checkBad(t, api.Op{Kind: api.Batch, User: "ann"}, true)
	checkBad(t, api.Op{Kind: api.Batch, User: "ann", Users: []string{}}, true)
	checkBad(t, api.Op{Kind: api.Batch, User: "ann", Users: []string{"ann", ""}[:1]}, false)
	checkBad(t, batch(rightNames[:8]...), false)
	checkBad(t, batch(rightNames[len(rightNames)-8:]...), false)
	checkBad(t, batch(slices.Repeat([]string{"ann"}, 257)...), true)
	checkBad(t, batch(slices.Repeat([]string{"ann"}, 1<<16+1)...), true)
}

// 10.1: fields that aren't named, set to anything, count for nothing.
func TestUnnamedFields(t *testing.T) {
	junk := api.Op{User: "", Id: -5, Status: 99, Prio: -1, Ttl: top, Users: slices.Repeat([]string{""}, 20)}
	for _, kind := range kinds {
		x, y := junk, good(kind)
		x.Kind = kind
		if named(kind) {
			x.User = y.User
		}
		if kind <= api.Clear {
			x.Id = y.Id
		}
		if kind == api.Set {
			x.Status, x.Prio = y.Status, y.Prio
		}
		if kind == api.Batch {
			x.Users = y.Users
		}
		if kind != api.Set && kind != api.Beat {
			y.Ttl = 0
		} else {
			x.Ttl = y.Ttl
		}
		checkBad(t, x, false)
		// To a table they make no difference either.
		a, b := newTable(t, ordinary), newTable(t, ordinary)
		for _, c := range []*table{a, b} {
			c.want(api.OK, 1, watch("ann"))
			c.want(api.OK, 1, watch("bob"))
			c.want(api.OK, 0, set("ann", 1, 5, 9))
			c.want(api.OK, 0, set("bob", 2, 6, 9))
		}
		if got, want := a.do(1, x), b.do(1, y); !like(got, want) {
			t.Errorf("Do(1, %v) = %v, but Do(1, %v) = %v", x, got, y, want)
		}
		a.done()
	}
}

// 10.1: Users of each kind, bad or not, in memory of their own.
func TestUsers(t *testing.T) {
	check := func(x api.Op, want ...string) {
		t.Helper()
		var a, b []string
		untouched(t, x, func(x api.Op) {
			a = model.Users(x)
			b = model.Users(x)
			scribble(a, "scribbled")
			a = model.Users(x)
		})
		// By now the op's users are scribbled over.
		if !slices.Equal(a, want) || !slices.Equal(b, want) {
			t.Errorf("Users of the kind %d = %.300q, and %.300q, not %.300q", x.Kind, a, b, want)
		}
	}
	for _, users := range [][]string{nil, {}, {"ann"}, {"ann", "ann"}, {"", "bob"}, wrongNames, slices.Repeat([]string{"zoe"}, 8), usersIn(0, 1, 9), usersIn(0, 1, 300)} {
		for _, kind := range slices.Concat(kinds, extremes, []int{-1, 0, 10, 11, 257, 260}) {
			for _, user := range slices.Concat(rightNames, wrongNames) {
				x := api.Op{Kind: kind, User: user, Id: -1, Status: 50, Prio: 50, Users: users}
				switch kind {
				case api.Query:
					check(x, user)
				case api.Batch:
					check(x, users...)
				default:
					check(x)
				}
			}
		}
	}
	if l := model.Users(api.Op{Kind: api.Batch}); len(l) != 0 {
		t.Errorf("Users of a Batch of nobody = %q", l)
	}
}
