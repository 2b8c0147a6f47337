package hall_test

import (
	"hash/fnv"
	"math"
	"strconv"
	"strings"
	"testing"

	"doorman/api"
	"doorman/hall"
	"doorman/model"
)

// 14.1: of each stripe the place of its lock, its epoch, what was published, and its own book, behind that of the time.
func TestPlace(t *testing.T) {
	if hall.Time != 0 {
		t.Errorf("Time is %d", hall.Time)
	}
	place := 1
	for s := range api.MaxStripes {
		for what := 1; what <= 4; what++ {
			if got := hall.Place(s, what); got != place {
				t.Errorf("Place(%d, %d) = %d, not %d", s, what, got, place)
			}
			place++
		}
	}
}

// 14.1: each two numbers from 0 to 1000.
func TestPlaceOfAnyNumbers(t *testing.T) {
	for s := range 1001 {
		for what := range 1001 {
			if got, want := hall.Place(s, what), what+s+s+s+s; got != want {
				t.Fatalf("Place(%d, %d) = %d, not %d", s, what, got, want)
			}
		}
	}
}

// field is one of the sizes, with its bounds.
type field struct {
	least, most int
	of          func(*api.Config) *int
}

var fields = []field{
	{1, 8, func(c *api.Config) *int { return &c.Stripes }},
	{1, 8, func(c *api.Config) *int { return &c.Sessions }},
	{1, 16, func(c *api.Config) *int { return &c.Queue }},
	{1, 8, func(c *api.Config) *int { return &c.Watches }},
	{0, 4, func(c *api.Config) *int { return &c.Retries }},
}

// checkSizes holds New against whether sizes may be.
func checkSizes(t *testing.T, c api.Config, right bool) {
	t.Helper()
	if h, err := hall.New(c); !right && (h != nil || err != api.ErrArg) {
		t.Errorf("New(%v) = %v, %d", c, h, err)
	}
	if _, err := model.New(c); right != (err == api.OK) {
		t.Errorf("a table of chapter 10: New(%v) is %d", c, err)
	}
	if right {
		newTable(t, c)
	}
}

// 14.1: each size at each number round its bounds and far beyond them; the bound of epochs and the start may be anything.
func TestSizes(t *testing.T) {
	for _, c := range []api.Config{ordinary, {Stripes: 1, Sessions: 1, Queue: 1, Watches: 1}, {Stripes: 8, Sessions: 8, Queue: 16, Watches: 8, Retries: 4, Epochs: top, Start: top}} {
		for _, f := range fields {
			d := c
			for n := -3; n < 20; n++ {
				*f.of(&d) = n
				checkSizes(t, d, f.least <= n && n <= f.most)
			}
			for _, n := range []int{math.MinInt, -1 << 32, -256, 256, 1 << 32, 1<<32 + 1, math.MaxInt} {
				*f.of(&d) = n
				checkSizes(t, d, false)
			}
		}
		for _, n := range []uint64{0, 1, 2, 3, 1<<63 + 1, top - 1, top} {
			c.Epochs, c.Start = n, top-n
			checkSizes(t, c, true)
		}
	}
	checkSizes(t, api.Config{}, false)
	checkSizes(t, api.Config{Epochs: top, Start: top}, false)
}

// 14.1: at first nobody is in, nothing was done, all is free, at 0, and empty; the time is Start.
func TestNew(t *testing.T) {
	for stripes := 1; stripes <= 8; stripes++ {
		c := api.Config{Stripes: stripes, Sessions: 3, Queue: 4, Watches: 5, Retries: 2, Epochs: 7, Start: 11}
		b := newTable(t, c)
		if b.h.Config() != c || len(b.h.Acts()) != 0 || b.h.Now() != at(11, 0) || b.h.Stored() != 0 {
			t.Errorf("New(%v): the sizes are %v, the acts %v, the time is %v, %d sessions are kept", c, b.h.Config(), b.h.Acts(), b.h.Now(), b.h.Stored())
		}
		for s := range stripes {
			if !b.h.Free(s) || !b.h.Quiet(s) {
				t.Errorf("of %d stripes, %d: free is %v, quiet is %v", stripes, s, b.h.Free(s), b.h.Quiet(s))
			}
			b.is("0", epoch(0, s))
			b.is("[]", snap(0, s))
			b.is("[]", read(0, s))
			for who := range 8 {
				b.is("0 false", count(who, s, "ann"))
				b.is("[] false", drain(who, s))
			}
		}
		b.is("{11 0 false}", look(0))
	}
}

// 14.1: a user's stripe, of Stripes, by the library's own FNV-1a; of any text.
func TestStripe(t *testing.T) {
	users := []string{"", "a", "ann", "Ann", "ann\x00", "\xff", strings.Repeat("x", 16), strings.Repeat("x", 17), strings.Repeat("ann", 999)}
	for i := range 300 {
		users = append(users, "u"+strconv.Itoa(i))
	}
	for stripes := 1; stripes <= 8; stripes++ {
		h, _ := hall.New(sizes(stripes, 1, 1, 0))
		for _, user := range users {
			f := fnv.New64a()
			f.Write([]byte(user))
			if got, want := h.Stripe(user), int(f.Sum64()%uint64(stripes)); got != want {
				t.Errorf("of %d stripes: Stripe(%q) = %d, not %d", stripes, user, got, want)
			}
		}
		if l := h.Acts(); len(l) != 0 {
			t.Errorf("Stripe is %v", l)
		}
	}
}

// 14.1: which locks are free: of each stripe apart, and whoever has one.
func TestFree(t *testing.T) {
	b := newTable(t, sizes(8, 1, 1, 0))
	for s := range 8 {
		b.is("true", lock(9-s, s))
		for other := range 8 {
			if got := b.h.Free(other); got != (other > s) {
				t.Errorf("Free(%d) is %v: up to %d they are taken", other, got, s)
			}
		}
	}
	for s := range 8 {
		b.is("true", unlock(9-s, s))
		if !b.h.Free(s) {
			t.Errorf("Free(%d) is false: it was given back", s)
		}
	}
}

// 14.1: how many sessions are in the own books of all stripes, published or not, living or not.
func TestStored(t *testing.T) {
	b := newTable(t, sizes(8, 2, 1, 0))
	stored := func(want int) {
		t.Helper()
		if got := b.h.Stored(); got != want {
			t.Errorf("%d sessions are kept, not %d", got, want)
		}
	}
	for s := range 8 {
		user := usersIn(s, 8, 1)[0]
		b.do(write(0, s, set(user, 1, 1, 5), at(0, 1)))
		stored(2*s + 1)
		b.do(write(0, s, set(user, 2, 1, 9), at(0, 1)))
		stored(2*s + 2)
	}
	b.do(publish(0, 3))
	stored(16)
	b.do(write(0, 3, op(api.Clear, usersIn(3, 8, 1)[0], 1, 0), at(0, 2)))
	stored(15)
	b.do(pass(9, 99))
	stored(15)
	b.do(sweep(8, 0, at(5, 3)))
	stored(14)
	b.do(sweep(8, 1, at(9, 3)))
	stored(12)
}

// 14.1: a stripe is quiet if it isn't written, and its book is like what was published: of each stripe apart, whoever made the books.
func TestQuiet(t *testing.T) {
	for s := range 3 {
		b := newTable(t, sizes(3, 2, 1, 4))
		quiet := func(want bool) {
			t.Helper()
			for other := range 3 {
				if got := b.h.Quiet(other); got != (want || other != s) {
					t.Errorf("Quiet(%d) is %v, and %d has to be %v", other, got, s, want)
				}
			}
		}
		b.do(begin(0, s))
		quiet(false)
		b.do(write(0, s, set("ann", 1, 1, 5), at(0, 1)))
		quiet(false)
		b.do(end(0, s))
		quiet(false)
		b.do(begin(0, s))
		b.do(publish(0, s))
		quiet(false)
		b.do(end(0, s))
		quiet(true)
		// The same sessions are set again: it is another book, but a like one.
		b.do(write(0, s, set("ann", 1, 1, 5), at(0, 2)))
		quiet(true)
		b.do(write(0, s, set("ann", 1, 1, 6), at(0, 3)))
		quiet(false)
		b.do(write(0, s, set("ann", 1, 1, 4), at(1, 4)))
		quiet(true)
		b.do(lock(0, s))
		b.do(watch(0, s, "ann", true))
		b.do(drain(0, s))
		b.do(pass(9, 99))
		b.do(shut(0))
		// Whoever has the lock, and whoever doesn't live: neither is written, nor in another book.
		quiet(true)
		b.do(sweep(8, s, at(99, 5)))
		quiet(false)
		b.do(publish(8, s))
		quiet(true)
	}
}

// 14.1: an epoch that is spent isn't written, whatever begins: then the books alone tell.
func TestQuietOfSpentEpochs(t *testing.T) {
	for _, bound := range []uint64{0, 1} {
		b := newTable(t, sizes(1, 1, 1, bound))
		b.do(begin(0, 0))
		if !b.h.Quiet(0) {
			t.Errorf("the bound is %d: it isn't quiet", bound)
		}
		b.do(write(0, 0, set("ann", 1, 1, 5), at(0, 1)))
		if b.h.Quiet(0) {
			t.Errorf("the bound is %d: it is quiet, and wasn't published", bound)
		}
	}
}

// 14.1: two tables of the same sizes have nothing in common.
func TestTablesAreApart(t *testing.T) {
	a, b := newTable(t, ordinary), newTable(t, ordinary)
	a.do(lock(1, 0))
	a.do(begin(1, 0))
	a.do(write(1, 0, set("ann", 1, 1, 5), at(0, 1)))
	a.do(watch(1, 0, "ann", true))
	a.do(publish(1, 0))
	a.do(pass(9, 5))
	a.do(shut(1))
	b.see("beside another one")
	b.is("true", lock(2, 0))
	b.is("0", epoch(2, 0))
	b.is("[]", read(2, 0))
	b.is("[]", snap(2, 0))
	b.is("0 false", count(1, 0, "ann"))
	b.is("{0 0 false}", look(2))
}
