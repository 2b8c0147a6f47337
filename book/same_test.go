package book_test

import (
	"testing"

	"doorman/api"
	"doorman/book"
)

// orders are all orders of n things, by their places.
func orders(n int) [][]int {
	if n == 0 {
		return [][]int{nil}
	}
	var all [][]int
	for _, o := range orders(n - 1) {
		for at := range n {
			next := append(append(append([]int{}, o[:at]...), n-1), o[at:]...)
			all = append(all, next)
		}
	}
	return all
}

// 8.2: books that hold the same are the same, in whatever order they were made.
func TestSameInAnyOrder(t *testing.T) {
	writes := []api.Op{set("ann", 1, 1, 1, 5), set("bob", 2, 2, 2, 6), set("cid", 3, 3, 3, 7), set("dan", 4, 4, 4, 8), set("eve", 5, 5, 5, 9)}
	var first book.Book
	for i, o := range orders(len(writes)) {
		var b book.Book
		for _, at := range o {
			b, _, _ = book.Write(b, writes[at], 10, 1)
		}
		if i == 0 {
			first = b
		}
		checkSame(t, "in another order", first, b, true)
	}
}

// 8.2: and so are books in which users came and went, and books without users.
func TestSameBehindDetours(t *testing.T) {
	var none book.Book
	direct, _, _ := book.Write(none, set("bob", 2, 2, 2, 6), 10, 1)
	detour, _, _ := book.Write(none, set("ann", 1, 1, 1, 1), 9, 1)
	detour, _, _ = book.Write(detour, set("bob", 3, 1, 1, 1), 9, 1)
	detour, _, _ = book.Write(detour, set("bob", 2, 2, 2, 6), 10, 1)
	checkSame(t, "ann is still there", direct, detour, false)
	detour, _ = book.Sweep(detour, 10)
	checkSame(t, "behind a detour", direct, detour, true)
	emptied, _, _ := book.Write(direct, unset("bob", 2), 10, 1)
	checkSame(t, "nobody left", none, emptied, true)
	checkSame(t, "nobody", none, book.Book{}, true)
	checkSame(t, "nobody and somebody", none, direct, false)
}

// 8.2: the users count, though they have no sessions, and nothing was told of them.
func TestSameOfUsersWithoutSessions(t *testing.T) {
	ann := entries{"ann": none}.book()
	checkSame(t, "ann", ann, entries{"ann": none}.book(), true)
	checkSame(t, "ann and bob", ann, entries{"bob": none}.book(), false)
	checkSame(t, "ann and nobody", ann, book.Book{}, false)
}

// 8.2: lists in other memory, with other spare room, are the same; so are lists without elements, nil or not.
func TestSameInOtherMemory(t *testing.T) {
	var a, b book.Book
	a = a.With("ann", entry(pres(6, 2, 2), three, five)).With("bob", book.Entry{Told: pres(1, 1, 1)})
	b = b.With("bob", book.Entry{Sessions: []api.Session{}, Told: pres(1, 1, 1)}).With("ann", book.Entry{Sessions: roomy(both.Sessions), Told: both.Told})
	checkSame(t, "in other memory", a, b, true)
}

// 8.2: books that differ in a user, in a session, or in what was told.
func TestSameOfOthers(t *testing.T) {
	base := entries{"ann": both, "bob": entry(pres(1, 1, 1), ses(1, 1, 1, 50))}
	checkSame(t, "the same", base.book(), base.book(), true)
	bob := base["bob"]
	told := pres(1, 1, 1)
	cases := []struct {
		what  string
		other entries
	}{
		{"a user less", entries{"ann": both}},
		{"a user more", entries{"ann": both, "bob": bob, "cid": bob}},
		{"a user more, without sessions", entries{"ann": both, "bob": bob, "cid": none}},
		{"another user in the first one's place", entries{"al": both, "bob": bob}},
		{"another user in the last one's place", entries{"ann": both, "cid": bob}},
		{"users the other way round", entries{"ann": bob, "bob": both}},
		{"an entry without sessions", entries{"ann": both, "bob": entry(told)}},
		{"another Id", entries{"ann": both, "bob": entry(told, ses(2, 1, 1, 50))}},
		{"another Status", entries{"ann": both, "bob": entry(told, ses(1, 2, 1, 50))}},
		{"another Prio", entries{"ann": both, "bob": entry(told, ses(1, 1, 2, 50))}},
		{"another Until", entries{"ann": both, "bob": entry(told, ses(1, 1, 1, 51))}},
		{"a session more", entries{"ann": both, "bob": entry(told, ses(1, 1, 1, 50), ses(2, 1, 1, 50))}},
		{"a session less", entries{"ann": entry(both.Told, three), "bob": bob}},
		{"the other session", entries{"ann": entry(both.Told, five), "bob": bob}},
		{"another last session", entries{"ann": entry(both.Told, three, gone), "bob": bob}},
		{"sessions in another order", entries{"ann": entry(both.Told, five, three), "bob": bob}},
		{"another Status told", entries{"ann": both, "bob": entry(pres(2, 1, 1), bob.Sessions...)}},
		{"another Prio told", entries{"ann": both, "bob": entry(pres(1, 2, 1), bob.Sessions...)}},
		{"another Live told", entries{"ann": both, "bob": entry(pres(1, 1, 2), bob.Sessions...)}},
		{"another presence told of the first one", entries{"ann": entry(nobody, three, five), "bob": bob}},
		{"nobody", nil},
	}
	for _, c := range cases {
		checkSame(t, c.what, base.book(), c.other.book(), false)
		checkSame(t, c.what+", itself", c.other.book(), c.other.book(), true)
	}
}
