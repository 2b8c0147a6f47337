package ocode_test

import (
	"fmt"
	"math"
	"slices"
	"strconv"
	"testing"

	"doorman/api"
	"doorman/ocode"
)

const top = math.MaxUint64

// What stands in spare room.
var (
	junkOp   = api.Op{Kind: 77, User: "junk", Id: -7, Users: []string{"junk"}}
	junkPick = api.Pick{Kind: 77, Who: 77, By: 77}
)

// longs are bytes, with the long numbers that they tell.
var longs = []struct {
	b    byte
	want uint64
}{
	{0, 0}, {1, 1}, {2, 2}, {99, 99}, {127, 127}, {128, 128}, {190, 190}, {191, 191},
	{192, 18446744073709551552}, {193, 18446744073709551553}, {200, 18446744073709551560},
	{253, 18446744073709551613}, {254, 18446744073709551614}, {255, 18446744073709551615},
}

// plainLong is the long number that a byte tells: those from 192 on are as far from 2^64 as the byte from 256.
func plainLong(b byte) uint64 {
	if b >= 192 {
		return uint64(b) - 256
	}
	return uint64(b)
}

// plainUser is the name that a byte tells.
func plainUser(b byte) string {
	digit := b % 10
	switch {
	case digit == 8:
		return ""
	case digit == 9:
		return "seventeen bytes.."
	}
	return "u" + strconv.Itoa(int(digit))
}

// plainPick is the pick that two bytes tell.
func plainPick(b, by byte) api.Pick {
	switch b & 15 {
	case 8, 9, 10, 11, 12:
		return api.Pick{Kind: 1}
	case 13, 14, 15:
		return api.Pick{Kind: 2, By: plainLong(by)}
	}
	return api.Pick{Who: int(b & 7)}
}

// roomy is a list like l, in memory of its own, with spare room behind it that holds junk, so that a call that looks at spare room is seen.
func roomy[T any](l []T, junk T) []T {
	all := slices.Repeat([]T{junk}, len(l)+3)
	copy(all, l)
	return all[:len(l)]
}

// fill writes junk into a list's spare room.
func fill[T any](l []T, junk T) {
	spare := l[len(l):cap(l)]
	for i := range spare {
		spare[i] = junk
	}
}

// scribble writes junk into all of a list's memory, spare room included.
func scribble[T any](l []T, junk T) { fill(l[:0], junk) }

// scribbleAll writes junk into all lists of a script.
func scribbleAll(s api.Script) {
	for _, ops := range s.Clients {
		for _, x := range ops {
			scribble(x.Users, "junk")
		}
		scribble(ops, junkOp)
	}
	scribble(s.Clients, []api.Op{junkOp})
	scribble(s.Picks, junkPick)
}

// copyOp is an op in memory of its own.
func copyOp(x api.Op) api.Op {
	x.Users = slices.Clone(x.Users)
	return x
}

// copyOf is a script in memory of its own.
func copyOf(s api.Script) api.Script {
	clients := s.Clients
	s.Clients = nil
	for _, ops := range clients {
		var mine []api.Op
		for _, x := range ops {
			mine = append(mine, copyOp(x))
		}
		s.Clients = append(s.Clients, mine)
	}
	s.Picks = slices.Clone(s.Picks)
	return s
}

// likeOp tells whether two ops are alike; lists without elements are.
func likeOp(a, b api.Op) bool {
	return a.Kind == b.Kind && a.User == b.User && a.Id == b.Id && a.Status == b.Status && a.Prio == b.Prio && a.Ttl == b.Ttl && slices.Equal(a.Users, b.Users)
}

func likeOps(a, b []api.Op) bool { return slices.EqualFunc(a, b, likeOp) }

// like tells whether two scripts are alike.
func like(a, b api.Script) bool {
	return a.Config == b.Config && slices.EqualFunc(a.Clients, b.Clients, likeOps) && slices.Equal(a.Picks, b.Picks)
}

// unlike tells in words where two scripts that are not alike are unlike first.
func unlike(got, want api.Script) string {
	if got.Config != want.Config {
		return fmt.Sprintf("the sizes are %#v, not %#v", got.Config, want.Config)
	}
	if len(got.Clients) != len(want.Clients) {
		return fmt.Sprintf("%d clients, not %d", len(got.Clients), len(want.Clients))
	}
	for c, ops := range got.Clients {
		if len(ops) != len(want.Clients[c]) {
			return fmt.Sprintf("the client %d asks %d ops, not %d", c, len(ops), len(want.Clients[c]))
		}
		for i, x := range ops {
			if !likeOp(x, want.Clients[c][i]) {
				return fmt.Sprintf("the op %d of the client %d is %#v, not %#v", i, c, x, want.Clients[c][i])
			}
		}
	}
	if len(got.Picks) != len(want.Picks) {
		return fmt.Sprintf("%d picks, not %d", len(got.Picks), len(want.Picks))
	}
	for i, p := range got.Picks {
		if p != want.Picks[i] {
			return fmt.Sprintf("the pick %d is %#v, not %#v", i, p, want.Picks[i])
		}
	}
	return "they are alike"
}

// read is Read, of bytes with spare room: it sees that they are left as they were, that a second call answers alike in memory of its own, and that what was answered stays when the bytes become others.
func read(t *testing.T, b []byte) api.Script {
	t.Helper()
	mine := roomy(b, 91)
	all := mine[:cap(mine)]
	before := slices.Clone(all)
	got := ocode.Read(mine)
	if !slices.Equal(all, before) {
		t.Errorf("Read(%.40v): the bytes are changed", b)
	}
	want := copyOf(got)
	again := ocode.Read(mine)
	if !like(again, want) {
		t.Errorf("Read(%.40v) answers otherwise the second time: %s", b, unlike(again, want))
	}
	scribbleAll(again)
	scribble(mine, 255)
	if !like(got, want) {
		t.Errorf("Read(%.40v): what was answered is changed behind the call: %s", b, unlike(got, want))
	}
	return got
}

// checkRead holds what bytes tell against what they should.
func checkRead(t *testing.T, b []byte, want api.Script) {
	t.Helper()
	if got := read(t, b); !like(got, want) {
		t.Errorf("Read of %d bytes %v..: %s", len(b), b[:min(len(b), 60)], unlike(got, want))
	}
}

// 12.1
func TestUser(t *testing.T) {
	for b, want := range []string{"u0", "u1", "u2", "u3", "u4", "u5", "u6", "u7", "", "seventeen bytes..", "u0", "u1"} {
		if got := ocode.User(byte(b)); got != want {
			t.Errorf("User(%d) = %q, not %q", b, got, want)
		}
	}
}

// 12.1: each byte.
func TestUserOfEachByte(t *testing.T) {
	for b := range 256 {
		if got, want := ocode.User(byte(b)), plainUser(byte(b)); got != want {
			t.Errorf("User(%d) = %q, not %q", b, got, want)
		}
	}
}

// 12.1: 0 to 7 are clients, 8 to 12 the sweeper, 13 to 15 Ticks.
func TestPick(t *testing.T) {
	cases := []struct {
		b, by byte
		want  api.Pick
	}{
		{0, 0, api.Pick{Kind: api.Client, Who: 0}},
		{1, 9, api.Pick{Kind: api.Client, Who: 1}},
		{7, 255, api.Pick{Kind: api.Client, Who: 7}},
		{8, 0, api.Pick{Kind: api.Sweeper}},
		{9, 1, api.Pick{Kind: api.Sweeper}},
		{12, 255, api.Pick{Kind: api.Sweeper}},
		{13, 0, api.Pick{Kind: api.Tick}},
		{13, 5, api.Pick{Kind: api.Tick, By: 5}},
		{14, 200, api.Pick{Kind: api.Tick, By: top - 55}},
		{15, 255, api.Pick{Kind: api.Tick, By: top}},
		{16, 3, api.Pick{Kind: api.Client, Who: 0}},
		{23, 3, api.Pick{Kind: api.Client, Who: 7}},
		{24, 3, api.Pick{Kind: api.Sweeper}},
		{29, 3, api.Pick{Kind: api.Tick, By: 3}},
		{247, 3, api.Pick{Kind: api.Client, Who: 7}},
		{252, 3, api.Pick{Kind: api.Sweeper}},
		{253, 3, api.Pick{Kind: api.Tick, By: 3}},
		{255, 3, api.Pick{Kind: api.Tick, By: 3}},
	}
	for _, c := range cases {
		if got := ocode.Pick(c.b, c.by); got != c.want {
			t.Errorf("Pick(%d, %d) = %v, not %v", c.b, c.by, got, c.want)
		}
	}
}

// 12.1: a Tick's second byte is a long number.
func TestPickOfLongNumber(t *testing.T) {
	for _, l := range longs {
		for _, b := range []byte{13, 14, 15, 45, 255} {
			want := api.Pick{Kind: api.Tick, By: l.want}
			if got := ocode.Pick(b, l.b); got != want {
				t.Errorf("Pick(%d, %d) = %v, not %v", b, l.b, got, want)
			}
		}
	}
}

// 12.1: each two bytes.
func TestPickOfEachTwoBytes(t *testing.T) {
	for b := range 256 {
		for by := range 256 {
			if got, want := ocode.Pick(byte(b), byte(by)), plainPick(byte(b), byte(by)); got != want {
				t.Errorf("Pick(%d, %d) = %v, not %v", b, by, got, want)
			}
		}
	}
}

// The long numbers above are held against the plain ones, so that tests may lean on either.
func TestLongs(t *testing.T) {
	for _, l := range longs {
		if got := plainLong(l.b); got != l.want {
			t.Errorf("%d tells %d, not %d", l.b, got, l.want)
		}
	}
}
