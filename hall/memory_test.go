package hall_test

import (
	"slices"
	"testing"

	"doorman/api"
	"doorman/book"
	"doorman/hall"
)

// 14.1: the acts that were handed out are nobody else's: they stay as they were, and may be written to.
func TestActsMemory(t *testing.T) {
	b := newTable(t, ordinary)
	var handed, were [][]api.Act
	for who := range 40 {
		b.do(look(who % 10))
		l := b.h.Acts()
		handed, were = append(handed, l), append(were, slices.Clone(l))
	}
	for i, l := range handed {
		if !slices.Equal(l, were[i]) {
			t.Errorf("the acts became %v, and were %v", l, were[i])
		}
		scribble(l, act(-7, -7, -7))
		b.see("behind a scribble")
	}
	b.do(look(3))
	for i, l := range handed {
		if slices.ContainsFunc(l, func(a api.Act) bool { return a.Who != -7 }) {
			t.Errorf("the acts that were handed out as the list %d are written to: %v", i, l)
		}
	}
}

// 14.3: events that were drained are nobody else's.
func TestEventsMemory(t *testing.T) {
	b := newTable(t, sizes(1, 1, 16, 0))
	for who := range 8 {
		b.do(watch(who, 0, "ann", true))
	}
	junk := api.Event{User: "scribbled"}
	var handed [][]api.Event
	for round := range 20 {
		for n := range 5 {
			b.do(writing(0, 0, set("ann", 1, 1+(5*round+n)%9, 5)))
		}
		for who := range 8 {
			l, _ := b.h.Drain(who, 0)
			want, _ := b.p.Drain(who, 0)
			if !slices.Equal(l, want) {
				t.Errorf("%d is told %v, not %v", who, l, want)
			}
			scribble(l, junk)
			handed = append(handed, l)
		}
	}
	for _, l := range handed {
		if slices.ContainsFunc(l, func(e api.Event) bool { return e != junk }) {
			t.Errorf("events that were handed out are written to: %v", l)
		}
	}
}

// 14.2, 14.3: books that were handed out stay as they were, whatever is written and published since.
func TestBooksStay(t *testing.T) {
	roll := roller(99)
	h, _ := hall.New(sizes(2, 4, 4, 100))
	var books []book.Book
	var were []string
	for range 2000 {
		rolledDeed(roll, 2).do(h)
		s := roll(2)
		for _, b := range []book.Book{h.Read(0, s), h.Snap(0, s)} {
			books, were = append(books, b), append(were, told(b))
		}
	}
	for i, b := range books {
		if now := told(b); now != were[i] {
			t.Fatalf("a book was %s, and became %s", were[i], now)
		}
	}
}

// 14.3: an op that is written is left as it was, spare room of its users included, and not kept.
func TestOpsAreNotKept(t *testing.T) {
	for kind := range 11 {
		b := newTable(t, ordinary)
		users := []string{"ann", "bob", "junk", "junk"}
		x := set("ann", 1, 2, 5)
		x.Kind, x.Users = kind, users[:2]
		d := write(0, 0, x, at(0, 1))
		b.do(d)
		if !slices.Equal(users, []string{"ann", "bob", "junk", "junk"}) {
			t.Errorf("%s: its users are %q", d.name, users)
		}
		was := b.do(read(0, 0))
		scribble(users, "scribbled")
		b.is(was, read(0, 0))
	}
}

// 14.1: the sizes that were told are a copy.
func TestConfigMemory(t *testing.T) {
	b := newTable(t, ordinary)
	c := b.h.Config()
	c.Sessions, c.Stripes = 1, 1
	b.see("behind another Config")
}
