package ocode_test

import (
	"slices"
	"testing"

	"doorman/api"
	"doorman/ocode"
)

// twins are bytes of which many lists are alike: eight clients with three Batches of three users each, and as many picks.
func twins() []byte {
	b := after(7)
	for range 8 {
		b = append(b, 3)
		for range 3 {
			b = append(b, 5, 1, 3, 1, 2, 3)
		}
	}
	return append(b, 13, 1, 13, 1, 13, 1)
}

// lists are bytes with lists of many lengths, so that some have spare room.
func lists() []byte {
	b := after(4)
	for _, many := range []byte{40, 0, 1, 5, 17} {
		b = append(b, many)
		for i := range many {
			b = append(b, 5, i, i%10)
			b = append(b, make([]byte, i%10)...)
		}
	}
	return append(b, make([]byte, 101)...)
}

// 12.1: each list of an answer is new memory, spare room included.
func TestReadSharesNothing(t *testing.T) {
	for _, b := range [][]byte{nil, twins(), lists()} {
		got := ocode.Read(b)
		want := copyOf(got)
		see := func(what string) {
			t.Helper()
			if !like(got, want) {
				t.Fatalf("%s: the script becomes another: %s", what, unlike(got, want))
			}
		}
		fill(got.Clients, []api.Op{junkOp})
		see("junk in the spare room of Clients")
		fill(got.Picks, junkPick)
		see("junk in the spare room of Picks")
		for c, asked := range got.Clients {
			fill(asked, junkOp)
			see("junk in the spare room of a client")
			for i := range asked {
				fill(asked[i].Users, "junk")
				see("junk in the spare room of Users")
				scribble(asked[i].Users, "scribbled")
				scribble(want.Clients[c][i].Users, "scribbled")
				see("junk in Users")
			}
			scribble(asked, junkOp)
			scribble(want.Clients[c], junkOp)
			see("junk in a client")
		}
		scribble(got.Picks, junkPick)
		scribble(want.Picks, junkPick)
		see("junk in Picks")
		scribble(got.Clients, nil)
		scribble(want.Clients, nil)
		see("junk in Clients")
	}
}

// 12.1: an answer stays as it is, whatever befalls a later one, and the bytes.
func TestReadKeepsNothing(t *testing.T) {
	b := twins()
	first := ocode.Read(b)
	want := copyOf(first)
	for range 3 {
		scribbleAll(ocode.Read(b))
		if got := ocode.Read(b); !like(got, want) {
			t.Errorf("a later Read: %s", unlike(got, want))
		}
	}
	for i := range b {
		b[i] = 77
	}
	ocode.Read(b)
	if !like(first, want) {
		t.Errorf("the first answer: %s", unlike(first, want))
	}
}

// 12.1: behind the end are zeros, not what a list has spare room for.
func TestReadSpareRoom(t *testing.T) {
	b := lists()
	for end := range b {
		alone := slices.Clip(slices.Clone(b[:end]))
		want := ocode.Read(alone)
		if got := ocode.Read(b[:end]); !like(got, want) {
			t.Errorf("Read of the first %d bytes: %s", end, unlike(got, want))
		}
	}
}
