package book_test

import (
	"math"
	"testing"

	"doorman/api"
	"doorman/book"
)

// others are users beside ann, who is written: sessions of theirs that don't live, and what was told of them, stay as they are.
func others() entries {
	return entries{
		"":     entry(pres(5, 1, 2), ses(1, 5, 1, 3), ses(2, 5, 1, 40)),
		"an":   entry(pres(2, 0, 1), ses(1, 2, 0, 5)),
		"anna": entry(pres(9, 9, 1), ses(1, 9, 9, top)),
		"bob":  entry(nobody, ses(7, 4, 4, 11)),
	}
}

// beside is others, and ann with an entry, if it has sessions or something was told.
func beside(e book.Entry) entries {
	m := others()
	if len(e.Sessions) > 0 || e.Told != nobody {
		m["ann"] = e
	}
	return m
}

// writing is what is written of ann at 10, and what has to come of it.
type writing struct {
	what string
	was  book.Entry
	x    api.Op
	most int
	want book.Entry
	err  api.Errno
}

func (c writing) check(t *testing.T) {
	t.Helper()
	b, changes, err := write(t, beside(c.was).book(), c.x, 10, c.most)
	if err != c.err {
		t.Errorf("%s: Write = %d, not %d", c.what, err, c.err)
	}
	var want []book.Change
	if c.was.Told != c.want.Told {
		want = []book.Change{{User: "ann", Old: c.was.Told, New: c.want.Told}}
	}
	checkChanges(t, c.what, changes, want...)
	checkBook(t, c.what, b, beside(c.want))
}

var (
	none = entry(nobody)
	// two of ann's sessions, which live at 10, and what was told of them.
	three = ses(3, 6, 2, 20)
	five  = ses(5, 7, 1, 30)
	both  = entry(pres(6, 2, 2), three, five)
	// one that doesn't live at 10, and one that doesn't from 10 on.
	gone = ses(4, 8, 8, 9)
	late = ses(2, 9, 9, 10)
	// what was told while all of them lived.
	stale = entry(pres(9, 9, 4), late, three, gone, five)
	// none of them lives at 10.
	dead = entry(pres(9, 9, 2), late, gone)
)

// 8.1: by Set.
func TestWriteSet(t *testing.T) {
	cases := []writing{
		{"no entry", none, set("ann", 1, 3, 1, 5), 2, entry(pres(3, 1, 1), ses(1, 3, 1, 15)), api.OK},
		{"an id ahead of all", both, set("ann", 0, 3, 1, 5), 8, entry(pres(6, 2, 3), ses(0, 3, 1, 15), three, five), api.OK},
		{"an id between", both, set("ann", 4, 3, 2, 5), 8, entry(pres(6, 2, 3), three, ses(4, 3, 2, 15), five), api.OK},
		{"an id behind all, which counts most", both, set("ann", 255, 1, 3, 1), 3, entry(pres(1, 3, 3), three, five, ses(255, 1, 3, 11)), api.OK},
		{"in the place of one", both, set("ann", 3, 1, 0, 1), 8, entry(pres(7, 1, 2), ses(3, 1, 0, 11), five), api.OK},
		{"till earlier than it lived", both, set("ann", 5, 7, 1, 2), 8, entry(pres(6, 2, 2), three, ses(5, 7, 1, 12)), api.OK},
		{"the same again", both, set("ann", 5, 7, 1, 20), 8, both, api.OK},
		{"of any fields", none, set("ann", -4, -5, -6, 1), 1, entry(pres(-5, -6, 1), ses(-4, -5, -6, 11)), api.OK},
		{"some don't live", stale, set("ann", 9, 1, 1, 1), 8, entry(pres(6, 2, 3), three, five, ses(9, 1, 1, 11)), api.OK},
		{"an id that doesn't live", stale, set("ann", 4, 1, 1, 1), 8, entry(pres(6, 2, 3), three, ses(4, 1, 1, 11), five), api.OK},
		{"all don't live", dead, set("ann", 2, 1, 1, 1), 8, entry(pres(1, 1, 1), ses(2, 1, 1, 11)), api.OK},
	}
	for _, c := range cases {
		c.check(t)
	}
}

// 8.1: Set of a user at the most: just those that live count.
func TestWriteSetAtTheMost(t *testing.T) {
	cases := []writing{
		{"one less than the most", both, set("ann", 9, 1, 0, 1), 3, entry(pres(6, 2, 3), three, five, ses(9, 1, 0, 11)), api.OK},
		{"at the most", both, set("ann", 9, 1, 0, 1), 2, both, api.ErrFull},
		{"beyond the most", both, set("ann", 9, 1, 0, 1), 1, both, api.ErrFull},
		{"at the most, in the place of one", both, set("ann", 5, 1, 0, 1), 2, entry(pres(6, 2, 2), three, ses(5, 1, 0, 11)), api.OK},
		{"beyond the most, in the place of one", both, set("ann", 5, 1, 0, 1), 0, entry(pres(6, 2, 2), three, ses(5, 1, 0, 11)), api.OK},
		{"of at most 0, no entry", none, set("ann", 1, 1, 1, 1), 0, none, api.ErrFull},
		{"of at most -1, no entry", none, set("ann", 1, 1, 1, 1), -1, none, api.ErrFull},
		{"of at most the least number", both, set("ann", 1, 1, 1, 1), math.MinInt, both, api.ErrFull},
		{"of at most the greatest number", none, set("ann", 1, 1, 1, 1), math.MaxInt, entry(pres(1, 1, 1), ses(1, 1, 1, 11)), api.OK},
		{"those that don't live give way", stale, set("ann", 9, 1, 0, 1), 3, entry(pres(6, 2, 3), three, five, ses(9, 1, 0, 11)), api.OK},
		{"at the most without those that don't live", stale, set("ann", 9, 1, 0, 1), 2, entry(pres(6, 2, 2), three, five), api.ErrFull},
		{"an id that doesn't live is none to be put in the place of", stale, set("ann", 4, 1, 0, 1), 2, entry(pres(6, 2, 2), three, five), api.ErrFull},
		{"all don't live, of at most 0", dead, set("ann", 2, 1, 0, 1), 0, none, api.ErrFull},
	}
	for _, c := range cases {
		c.check(t)
	}
}

// 8.1: by Beat; the op's other fields count for nothing, and neither does the most.
func TestWriteBeat(t *testing.T) {
	loud := api.Op{Kind: api.Beat, User: "ann", Id: 3, Status: 1, Prio: 9, Ttl: 20}
	cases := []writing{
		{"till later", both, loud, 0, entry(pres(6, 2, 2), ses(3, 6, 2, 30), five), api.OK},
		{"till one later", both, beat("ann", 5, 21), -1, entry(pres(6, 2, 2), three, ses(5, 7, 1, 31)), api.OK},
		{"till the same", both, beat("ann", 5, 20), 8, both, api.OK},
		{"till earlier", both, beat("ann", 5, 19), 8, both, api.OK},
		{"of no time", both, beat("ann", 3, 0), 8, both, api.OK},
		{"no such id", both, beat("ann", 4, 20), 8, both, api.ErrNone},
		{"no entry", none, beat("ann", 3, 20), 8, none, api.ErrNone},
		{"some don't live", stale, beat("ann", 5, 50), 8, entry(pres(6, 2, 2), three, ses(5, 7, 1, 60)), api.OK},
		{"one that doesn't live", stale, beat("ann", 4, 50), 8, entry(pres(6, 2, 2), three, five), api.ErrNone},
		{"one that doesn't live from now on", stale, beat("ann", 2, 50), 8, entry(pres(6, 2, 2), three, five), api.ErrNone},
		{"all don't live", dead, beat("ann", 2, 50), 8, none, api.ErrNone},
	}
	for _, c := range cases {
		c.check(t)
	}
}

// 8.1: by Clear; the last session that goes takes the entry with it.
func TestWriteClear(t *testing.T) {
	loud := api.Op{Kind: api.Clear, User: "ann", Id: 3, Status: 1, Prio: 9, Ttl: 20}
	cases := []writing{
		{"the one that counts most", both, loud, 0, entry(pres(7, 1, 1), five), api.OK},
		{"the one that counts less", both, unset("ann", 5), -1, entry(pres(6, 2, 1), three), api.OK},
		{"the last one", entry(pres(6, 2, 1), three), unset("ann", 3), 8, none, api.OK},
		{"no such id", both, unset("ann", 4), 8, both, api.ErrNone},
		{"no entry", none, unset("ann", 3), 8, none, api.ErrNone},
		{"some don't live", stale, unset("ann", 3), 8, entry(pres(7, 1, 1), five), api.OK},
		{"one that doesn't live", stale, unset("ann", 4), 8, entry(pres(6, 2, 2), three, five), api.ErrNone},
		{"the last one that lives", entry(pres(9, 9, 3), late, three, gone), unset("ann", 3), 8, none, api.OK},
		{"all don't live", dead, unset("ann", 2), 8, none, api.ErrNone},
		{"all don't live, and no such id", dead, unset("ann", 3), 8, none, api.ErrNone},
	}
	for _, c := range cases {
		c.check(t)
	}
}

// 8.1: by another kind not at all: the sessions become those that live, and there is no error.
func TestWriteOtherKinds(t *testing.T) {
	kinds := []int{0, api.Query, api.Batch, api.Watch, api.Unwatch, api.Poll, api.Close, 10, -1, -api.Set, api.Set + 256, api.Clear + 1<<32, math.MaxInt, math.MinInt}
	for _, kind := range kinds {
		x := api.Op{Kind: kind, User: "ann", Id: 3, Status: 1, Prio: 9, Ttl: 50}
		cases := []writing{
			{"no entry", none, x, 8, none, api.OK},
			{"all live", both, x, 0, both, api.OK},
			{"some don't live", stale, x, 0, entry(pres(6, 2, 2), three, five), api.OK},
			{"all don't live", dead, x, 8, none, api.OK},
		}
		for _, c := range cases {
			c.check(t)
		}
	}
}

// 8.1: what is told hangs on what was told last and what is, on nothing between.
func TestWriteTellsWhatIsAnother(t *testing.T) {
	alike := ses(4, 6, 2, 9)
	cases := []writing{
		{"one went unseen, one came: as it was told", entry(pres(6, 2, 2), alike, five), set("ann", 9, 6, 2, 5), 8, entry(pres(6, 2, 2), five, ses(9, 6, 2, 15)), api.OK},
		{"one went unseen, and in its place: as it was told", entry(pres(6, 2, 1), alike), set("ann", 4, 6, 2, 5), 8, entry(pres(6, 2, 1), ses(4, 6, 2, 15)), api.OK},
		{"another Status alone", both, set("ann", 3, 1, 2, 10), 8, entry(pres(1, 2, 2), ses(3, 1, 2, 20), five), api.OK},
		{"another Prio alone", both, set("ann", 3, 6, 3, 10), 8, entry(pres(6, 3, 2), ses(3, 6, 3, 20), five), api.OK},
		{"another Live alone", both, unset("ann", 5), 8, entry(pres(6, 2, 1), three), api.OK},
		{"another one counts most, with the same Status and Prio", entry(pres(6, 2, 2), three, ses(5, 6, 2, 30)), set("ann", 3, 1, 0, 10), 8, entry(pres(6, 2, 2), ses(3, 1, 0, 20), ses(5, 6, 2, 30)), api.OK},
		{"of which something else was told", entry(pres(1, 1, 1), three, five), beat("ann", 3, 0), 8, both, api.OK},
		{"of which nothing was told", entry(nobody, three, five), unset("ann", 8), 8, both, api.ErrNone},
		{"no sessions, of which something was told", entry(pres(1, 1, 1)), unset("ann", 8), 8, none, api.ErrNone},
	}
	for _, c := range cases {
		c.check(t)
	}
}

// 8.1: an entry without sessions, of which nothing was told, is none behind a write.
func TestWriteOfAnEmptyEntry(t *testing.T) {
	for _, x := range []api.Op{beat("ann", 1, 5), unset("ann", 1), set("ann", 1, 1, 1, 1), {Kind: api.Query, User: "ann"}} {
		b, changes, _ := write(t, others().book().With("ann", none), x, 10, 0)
		checkChanges(t, "an empty entry", changes)
		checkBook(t, "an empty entry", b, beside(none))
	}
}

// 8.1: time ends at 2^64 - 1: what would live longer lives till then.
func TestWriteAtTheEndOfTime(t *testing.T) {
	cases := []struct {
		now, ttl, until uint64
	}{
		{10, top, top}, {10, top - 9, top}, {10, top - 10, top}, {10, top - 11, top - 1},
		{0, top, top}, {1, top, top}, {1 << 63, 1 << 63, top}, {1 << 63, 1<<63 - 1, top}, {1 << 63, 1<<63 - 2, top - 1},
		{top - 1, 1, top}, {top - 1, 2, top}, {top - 1, top, top},
	}
	for _, c := range cases {
		var none book.Book
		is := pres(3, 1, 1)
		b, changes, err := write(t, none, set("ann", 1, 3, 1, c.ttl), c.now, 1)
		want := entries{"ann": entry(is, ses(1, 3, 1, c.until))}
		checkBook(t, "Set", b, want)
		checkChanges(t, "Set", changes, book.Change{User: "ann", New: is})
		if err != api.OK {
			t.Errorf("Set = %d", err)
		}
		was := entries{"ann": entry(is, ses(1, 3, 1, c.now+1))}
		b, changes, err = write(t, was.book(), beat("ann", 1, c.ttl), c.now, 1)
		checkBook(t, "Beat", b, want)
		checkChanges(t, "Beat", changes)
		if err != api.OK {
			t.Errorf("Beat = %d", err)
		}
	}
}

// 8.1: a session that doesn't live when it is set is kept all the same, till the next write; the presence has nothing of it.
func TestWriteOfNoTime(t *testing.T) {
	cases := []struct{ now, ttl uint64 }{{0, 0}, {10, 0}, {top - 1, 0}, {top, 0}, {top, 1}, {top, top}}
	for _, c := range cases {
		var none book.Book
		b, changes, err := write(t, none, set("ann", 1, 3, 1, c.ttl), c.now, 1)
		kept := entries{"ann": entry(nobody, ses(1, 3, 1, c.now))}
		checkBook(t, "Set", b, kept)
		checkChanges(t, "Set", changes)
		checkStored(t, b, 1)
		checkPresence(t, b, "ann", c.now, nobody)
		if err != api.OK {
			t.Errorf("Set at %d = %d", c.now, err)
		}
		again, changes, err := write(t, b, set("ann", 2, 4, 2, c.ttl), c.now, 1)
		checkBook(t, "Set of another one", again, entries{"ann": entry(nobody, ses(2, 4, 2, c.now))})
		checkChanges(t, "Set of another one", changes)
		if err != api.OK {
			t.Errorf("Set of another one at %d = %d", c.now, err)
		}
		gone, changes, err := write(t, b, unset("ann", 1), c.now, 1)
		checkBook(t, "Clear", gone, nil)
		checkChanges(t, "Clear", changes)
		if err != api.ErrNone {
			t.Errorf("Clear at %d = %d", c.now, err)
		}
	}
}

// 8.1: in the place of one that lives, one that doesn't: the presence is another one, though there are as many sessions.
func TestWriteEndsASession(t *testing.T) {
	c := writing{"of no time", both, set("ann", 3, 6, 2, 0), 2, entry(pres(7, 1, 1), ses(3, 6, 2, 10), five), api.OK}
	c.check(t)
	c = writing{"of no time, the last one", entry(pres(7, 1, 1), five), set("ann", 5, 7, 1, 0), 2, entry(nobody, ses(5, 7, 1, 10)), api.OK}
	c.check(t)
}

// 8.1: whatever the user's name is, a name that may not be among them.
func TestWriteOfAnyName(t *testing.T) {
	names := []string{"", "a", "\x00", "\xff\xfe", "é", "a name far longer than sixteen bytes"}
	var b book.Book
	want := entries{}
	for i, name := range names {
		is := pres(1+i, 2, 1)
		var changes []book.Change
		var err api.Errno
		b, changes, err = write(t, b, set(name, 1, 1+i, 2, 5), 10, 1)
		want[name] = entry(is, ses(1, 1+i, 2, 15))
		checkChanges(t, name, changes, book.Change{User: name, New: is})
		checkBook(t, name, b, want)
		if err != api.OK {
			t.Errorf("%q: Write = %d", name, err)
		}
	}
}

// 8.1: a user whose last session goes, and who comes again, is told as one of whom nothing was.
func TestWriteGoneAndBack(t *testing.T) {
	var b book.Book
	var changes []book.Change
	is := pres(3, 1, 1)
	for range 3 {
		b, changes, _ = write(t, b, set("ann", 1, 3, 1, 5), 10, 1)
		checkChanges(t, "there", changes, book.Change{User: "ann", Old: nobody, New: is})
		b, changes, _ = write(t, b, unset("ann", 1), 14, 1)
		checkChanges(t, "gone", changes, book.Change{User: "ann", Old: is, New: nobody})
		checkBook(t, "gone", b, nil)
	}
}
