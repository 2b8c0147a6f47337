package book_test

import (
	"maps"
	"math"
	"slices"
	"testing"

	"doorman/api"
	"doorman/book"
)

const top = math.MaxUint64

// nobody is the presence of a user without sessions that live.
var nobody api.Presence

func ses(id, status, prio int, until uint64) api.Session {
	return api.Session{Id: id, Status: status, Prio: prio, Until: until}
}

func pres(status, prio, live int) api.Presence {
	return api.Presence{Status: status, Prio: prio, Live: live}
}

func set(user string, id, status, prio int, ttl uint64) api.Op {
	return api.Op{Kind: api.Set, User: user, Id: id, Status: status, Prio: prio, Ttl: ttl}
}

func beat(user string, id int, ttl uint64) api.Op {
	return api.Op{Kind: api.Beat, User: user, Id: id, Ttl: ttl}
}

// unset is a Clear.
func unset(user string, id int) api.Op { return api.Op{Kind: api.Clear, User: user, Id: id} }

func entry(told api.Presence, l ...api.Session) book.Entry {
	return book.Entry{Sessions: l, Told: told}
}

// entries is what a book should hold, in no order.
type entries map[string]book.Entry

// book puts entries into a book, by rising names; the lists have spare room that holds junk.
func (m entries) book() book.Book {
	var b book.Book
	for _, user := range slices.Sorted(maps.Keys(m)) {
		e := m[user]
		b = b.With(user, book.Entry{Sessions: roomy(e.Sessions), Told: e.Told})
	}
	return b
}

// roomy is a list like l, in memory of its own, with spare room behind it that holds a session that lives long and counts much, so that a call that looks at spare room is seen.
func roomy(l []api.Session) []api.Session {
	all := slices.Repeat([]api.Session{ses(-77, -77, math.MaxInt, top)}, len(l)+3)
	copy(all, l)
	return all[:len(l)]
}

// memory is all of what a book holds, spare room of lists included.
func memory(b book.Book) entries {
	m := entries{}
	for user, e := range b.All() {
		m[user] = book.Entry{Sessions: slices.Clone(e.Sessions[:cap(e.Sessions)]), Told: e.Told}
	}
	return m
}

func equal(a, b book.Entry) bool {
	return a.Told == b.Told && slices.Equal(a.Sessions, b.Sessions)
}

// checkBook holds a book against what it should hold.
func checkBook(t *testing.T, what string, b book.Book, want entries) {
	t.Helper()
	got := entries{}
	for user, e := range b.All() {
		got[user] = e
	}
	if b.Len() != len(want) || !maps.EqualFunc(got, want, equal) {
		t.Errorf("%s: the book has %v, not %v", what, got, want)
	}
}

func checkChanges(t *testing.T, what string, got []book.Change, want ...book.Change) {
	t.Helper()
	if !slices.Equal(got, want) {
		t.Errorf("%s: has to be told %v, not %v", what, got, want)
	}
}

// asIs sees that what is done with a book leaves it as it was, spare room of lists included.
func asIs(t *testing.T, b book.Book, do func()) {
	t.Helper()
	before := memory(b)
	do()
	if after := memory(b); !maps.EqualFunc(before, after, equal) {
		t.Errorf("the book that was handed in is changed from %v to %v", before, after)
	}
}

// scribble writes into all of a list's memory, spare room included.
func scribble(l []book.Change) {
	all := l[:cap(l)]
	for i := range all {
		all[i] = book.Change{User: "scribbled"}
	}
}

// write is Write, twice: it sees that the two answer alike, share no changes, and leave what was handed in as it was.
func write(t *testing.T, b book.Book, x api.Op, now uint64, most int) (book.Book, []book.Change, api.Errno) {
	t.Helper()
	users := []string{"u", "v", "spare"}
	x.Users = users[:2]
	var got book.Book
	var changes []book.Change
	var err api.Errno
	asIs(t, b, func() {
		got, changes, err = book.Write(b, x, now, most)
		want := slices.Clone(changes)
		again, others, errAgain := book.Write(b, x, now, most)
		if !book.Same(got, again) || !slices.Equal(others, want) || errAgain != err {
			t.Errorf("Write(%v) answers %v, %d, then %v, %d", x, want, err, others, errAgain)
		}
		scribble(others)
		if !slices.Equal(changes, want) {
			t.Errorf("Write(%v): two answers share memory", x)
		}
	})
	if !slices.Equal(users, []string{"u", "v", "spare"}) {
		t.Errorf("Write(%v): the Users that were handed in are changed to %v", x, users)
	}
	return got, changes, err
}

// sweep is Sweep, twice: it sees that the two answer alike, share no changes, and leave what was handed in as it was; and that a Sweep of what is swept changes and tells nothing.
func sweep(t *testing.T, b book.Book, now uint64) (book.Book, []book.Change) {
	t.Helper()
	var got book.Book
	var changes []book.Change
	asIs(t, b, func() {
		got, changes = book.Sweep(b, now)
		want := slices.Clone(changes)
		again, others := book.Sweep(b, now)
		if !book.Same(got, again) || !slices.Equal(others, want) {
			t.Errorf("Sweep at %d answers %v, then %v", now, want, others)
		}
		scribble(others)
		if !slices.Equal(changes, want) {
			t.Errorf("Sweep at %d: two answers share memory", now)
		}
	})
	asIs(t, got, func() {
		again, more := book.Sweep(got, now)
		if !book.Same(got, again) || len(more) != 0 {
			t.Errorf("a second Sweep at %d: told %v, %v of %v", now, more, memory(again), memory(got))
		}
	})
	return got, changes
}

func checkPresence(t *testing.T, b book.Book, user string, now uint64, want api.Presence) {
	t.Helper()
	asIs(t, b, func() {
		if got := book.Presence(b, user, now); got != want {
			t.Errorf("Presence(%q, %d) = %v, not %v", user, now, got, want)
		}
	})
}

func checkStored(t *testing.T, b book.Book, want int) {
	t.Helper()
	asIs(t, b, func() {
		if got := book.Stored(b); got != want {
			t.Errorf("Stored = %d, not %d", got, want)
		}
	})
}

// checkSame asks in both orders.
func checkSame(t *testing.T, what string, a, b book.Book, want bool) {
	t.Helper()
	asIs(t, a, func() {
		asIs(t, b, func() {
			if got := book.Same(a, b); got != want {
				t.Errorf("%s: Same = %v", what, got)
			}
			if got := book.Same(b, a); got != want {
				t.Errorf("%s, the other way round: Same = %v", what, got)
			}
		})
	})
}

// 8.1, 8.2: the document's example.
func TestExample(t *testing.T) {
	var none book.Book
	b, changes, err := write(t, none, set("ann", 1, 3, 0, 5), 10, 2)
	if err != api.OK {
		t.Errorf("Write = %d", err)
	}
	is := pres(3, 0, 1)
	checkChanges(t, "Set", changes, book.Change{User: "ann", Old: nobody, New: is})
	checkBook(t, "Set", b, entries{"ann": entry(is, ses(1, 3, 0, 15))})
	early, changes := sweep(t, b, 14)
	checkChanges(t, "Sweep at 14", changes)
	checkSame(t, "Sweep at 14", early, b, true)
	swept, changes := sweep(t, b, 15)
	checkChanges(t, "Sweep at 15", changes, book.Change{User: "ann", Old: is, New: nobody})
	checkBook(t, "Sweep at 15", swept, nil)
}
