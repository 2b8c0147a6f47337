package book_test

import (
	"slices"
	"strconv"
	"testing"

	"doorman/api"
	"doorman/book"
)

// 8.2: of an empty book.
func TestSweepOfNobody(t *testing.T) {
	for _, now := range []uint64{0, 1, top - 1, top} {
		var none book.Book
		b, changes := sweep(t, none, now)
		checkChanges(t, "nobody", changes)
		checkBook(t, "nobody", b, nil)
	}
}

// 8.2: some users lose none of their sessions, some lose some, some lose all.
func TestSweep(t *testing.T) {
	was := entries{
		"all":  entry(pres(9, 9, 2), late, gone),
		"none": entry(pres(6, 2, 2), three, five),
		"one":  entry(pres(9, 9, 2), late, three),
		"some": entry(pres(9, 9, 4), late, three, gone, five),
		"unto": entry(pres(7, 1, 1), ses(1, 7, 1, 11)),
		"upto": entry(pres(7, 1, 1), ses(1, 7, 1, 10)),
	}
	b, changes := sweep(t, was.book(), 10)
	checkChanges(t, "Sweep", changes,
		book.Change{User: "all", Old: pres(9, 9, 2), New: nobody},
		book.Change{User: "one", Old: pres(9, 9, 2), New: pres(6, 2, 1)},
		book.Change{User: "some", Old: pres(9, 9, 4), New: pres(6, 2, 2)},
		book.Change{User: "upto", Old: pres(7, 1, 1), New: nobody})
	checkBook(t, "Sweep", b, entries{
		"none": both,
		"one":  entry(pres(6, 2, 1), three),
		"some": entry(pres(6, 2, 2), three, five),
		"unto": entry(pres(7, 1, 1), ses(1, 7, 1, 11)),
	})
	checkStored(t, b, 6)
}

// 8.2: users of whom none loses a session: the book is as it was, and nothing has to be told.
func TestSweepOfAllThatLive(t *testing.T) {
	was := entries{"ann": both, "bob": entry(pres(1, 1, 1), ses(1, 1, 1, top))}
	for _, now := range []uint64{0, 10, 19} {
		b, changes := sweep(t, was.book(), now)
		checkChanges(t, "all live", changes)
		checkBook(t, "all live", b, was)
	}
}

// 8.2: users of whom all lose all sessions; at the end of time nobody is left.
func TestSweepOfAllThatDoNotLive(t *testing.T) {
	was := entries{"ann": both, "bob": entry(pres(1, 1, 1), ses(1, 1, 1, top)), "cid": dead}
	b, changes := sweep(t, was.book(), top)
	checkChanges(t, "the end of time", changes,
		book.Change{User: "ann", Old: pres(6, 2, 2), New: nobody},
		book.Change{User: "bob", Old: pres(1, 1, 1), New: nobody},
		book.Change{User: "cid", Old: pres(9, 9, 2), New: nobody})
	checkBook(t, "the end of time", b, nil)
}

// 8.2: what goes without having been told goes untold; what was told otherwise than it is has to be told, though no session goes.
func TestSweepTellsWhatIsAnother(t *testing.T) {
	was := entries{
		"a": entry(nobody, ses(1, 3, 1, 10)),
		"b": entry(pres(6, 2, 2), late, three, five),
		"c": entry(pres(1, 1, 1), three, five),
		"d": entry(nobody, three, five),
		"e": entry(pres(1, 1, 1)),
		"f": entry(nobody),
	}
	b, changes := sweep(t, was.book(), 10)
	checkChanges(t, "Sweep", changes,
		book.Change{User: "c", Old: pres(1, 1, 1), New: pres(6, 2, 2)},
		book.Change{User: "d", Old: nobody, New: pres(6, 2, 2)},
		book.Change{User: "e", Old: pres(1, 1, 1), New: nobody})
	checkBook(t, "Sweep", b, entries{"b": both, "c": both, "d": both})
}

// 8.2: changes come by rising names, in the order of their bytes, in whatever order the users came into the book.
func TestSweepInOrder(t *testing.T) {
	rising := []string{"", "\x00", "0", "B", "Ba", "a", "a\x00", "aa", "ab", "b", "z", "é", "\xff", "\xff\x00"}
	for turn := range rising {
		for _, back := range []bool{false, true} {
			names := slices.Concat(rising[turn:], rising[:turn])
			if back {
				slices.Reverse(names)
			}
			var b book.Book
			for _, name := range names {
				b, _, _ = book.Write(b, set(name, 1, 1+len(name), 0, 5), 10, 1)
			}
			var want []book.Change
			for _, name := range rising {
				want = append(want, book.Change{User: name, Old: pres(1+len(name), 0, 1), New: nobody})
			}
			swept, changes := sweep(t, b, 15)
			checkChanges(t, "in order", changes, want...)
			checkBook(t, "in order", swept, nil)
		}
	}
}

// 8.2: round by round: each tells what went since the last one, from what that told.
func TestSweepRoundByRound(t *testing.T) {
	b := entries{
		"ann": entry(pres(1, 3, 3), ses(1, 1, 3, 10), ses(2, 2, 2, 20), ses(3, 3, 1, 30)),
		"bob": entry(pres(4, 0, 2), ses(1, 4, 0, 20), ses(2, 5, 0, 40)),
	}.book()
	rounds := []struct {
		now    uint64
		want   []book.Change
		stored int
	}{
		{9, nil, 5},
		{10, []book.Change{{User: "ann", Old: pres(1, 3, 3), New: pres(2, 2, 2)}}, 4},
		{15, nil, 4},
		{25, []book.Change{{User: "ann", Old: pres(2, 2, 2), New: pres(3, 1, 1)}, {User: "bob", Old: pres(4, 0, 2), New: pres(5, 0, 1)}}, 2},
		{30, []book.Change{{User: "ann", Old: pres(3, 1, 1), New: nobody}}, 1},
		{50, []book.Change{{User: "bob", Old: pres(5, 0, 1), New: nobody}}, 0},
		{top, nil, 0},
	}
	for _, r := range rounds {
		var changes []book.Change
		b, changes = sweep(t, b, r.now)
		checkChanges(t, "a round", changes, r.want...)
		checkStored(t, b, r.stored)
	}
	checkBook(t, "behind all rounds", b, nil)
}

// 8.2: of many users, of whom each third one's session goes.
func TestSweepOfMany(t *testing.T) {
	const n = 1000
	var b book.Book
	for i := range n {
		name := strconv.Itoa(i * 617 % n)
		b, _, _ = book.Write(b, set(name, 1, 2, 3, 5+uint64(i*617%n%3)), 10, 1)
	}
	swept, changes := sweep(t, b, 15)
	var want []book.Change
	for _, name := range b.Keys() {
		if i, _ := strconv.Atoi(name); i%3 == 0 {
			want = append(want, book.Change{User: name, Old: pres(2, 3, 1), New: nobody})
		}
	}
	checkChanges(t, "many", changes, want...)
	checkStored(t, b, n)
	checkStored(t, swept, n-len(want))
	if swept.Len() != n-len(want) {
		t.Errorf("%d users are left, not %d", swept.Len(), n-len(want))
	}
}

// 8.2: Presence of a user without an entry, in books with others and without.
func TestPresenceWithoutAnEntry(t *testing.T) {
	var none book.Book
	b := entries{"ann": both}.book()
	for _, now := range []uint64{0, 10, top} {
		for _, user := range []string{"", "an", "anna", "bob"} {
			checkPresence(t, none, user, now, nobody)
			checkPresence(t, b, user, now, nobody)
		}
	}
}

// 8.2: Presence hangs on the sessions at that time, and not on what was told.
func TestPresence(t *testing.T) {
	b := entries{
		"ann":  entry(pres(1, 1, 1), ses(1, 4, 5, 10), ses(4, 3, 1, 40), ses(6, 5, 2, 30)),
		"bob":  entry(pres(8, 8, 8)),
		"cid":  entry(nobody, ses(1, 7, 0, top)),
		"dead": dead,
	}.book()
	cases := []struct {
		user string
		now  uint64
		want api.Presence
	}{
		{"ann", 0, pres(4, 5, 3)}, {"ann", 9, pres(4, 5, 3)}, {"ann", 10, pres(5, 2, 2)}, {"ann", 29, pres(5, 2, 2)},
		{"ann", 30, pres(3, 1, 1)}, {"ann", 39, pres(3, 1, 1)}, {"ann", 40, nobody}, {"ann", top, nobody},
		{"bob", 0, nobody}, {"bob", top, nobody},
		{"cid", 0, pres(7, 0, 1)}, {"cid", top - 1, pres(7, 0, 1)}, {"cid", top, nobody},
		{"dead", 8, pres(9, 9, 2)}, {"dead", 9, pres(9, 9, 1)}, {"dead", 10, nobody}, {"dead", top, nobody},
	}
	for _, c := range cases {
		checkPresence(t, b, c.user, c.now, c.want)
	}
}

// 8.2: all sessions of all users are counted, whether they live or not.
func TestStored(t *testing.T) {
	var b book.Book
	checkStored(t, b, 0)
	checkStored(t, entries{"ann": none}.book(), 0)
	checkStored(t, entries{"ann": dead}.book(), 2)
	checkStored(t, entries{"ann": stale, "bob": dead, "cid": none, "dan": both}.book(), 8)
	for i := range 6 {
		b, _, _ = write(t, b, set("ann", i, 1, 1, 1), 10, 6)
		b, _, _ = write(t, b, set("bob", i, 1, 1, 9), 10, 4)
		checkStored(t, b, i+1+min(i+1, 4))
	}
	b, _, _ = write(t, b, unset("bob", 2), 11, 6)
	checkStored(t, b, 9)
	b, _ = sweep(t, b, 11)
	checkStored(t, b, 3)
}
