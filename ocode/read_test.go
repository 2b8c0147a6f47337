package ocode_test

import (
	"slices"
	"testing"

	"doorman/api"
	"doorman/ocode"
)

// least are the sizes that bytes of 0 tell.
var least = api.Config{Stripes: 1, Sessions: 1, Queue: 1, Watches: 1}

// script is one of the least sizes.
func script(clients ...[]api.Op) api.Script {
	return api.Script{Config: least, Clients: clients}
}

// after puts bytes behind those of the least sizes.
func after(b ...byte) []byte { return append(make([]byte, 7), b...) }

// asking puts bytes behind those of the least sizes and of one client that asks so many ops.
func asking(n byte, b ...byte) []byte { return append(after(0, n), b...) }

// told is an op, with the bytes that tell it.
type told struct {
	b []byte
	x api.Op
}

// ops are ops of each kind, with and without fields.
var ops = []told{
	{[]byte{0, 0}, api.Op{User: "u0"}},
	{[]byte{1, 2, 3, 4, 5, 6}, api.Op{Kind: api.Set, User: "u2", Id: 3, Status: 4, Prio: 5, Ttl: 6}},
	{[]byte{1, 9, 0, 0, 0, 0}, api.Op{Kind: api.Set, User: "seventeen bytes.."}},
	{[]byte{1, 0, 1, 10, 9, 255}, api.Op{Kind: api.Set, User: "u0", Id: 1, Status: 10, Prio: 9, Ttl: top}},
	{[]byte{2, 3, 1, 7}, api.Op{Kind: api.Beat, User: "u3", Id: 1, Ttl: 7}},
	{[]byte{2, 8, 0, 192}, api.Op{Kind: api.Beat, Ttl: top - 63}},
	{[]byte{3, 7, 2}, api.Op{Kind: api.Clear, User: "u7", Id: 2}},
	{[]byte{4, 5}, api.Op{Kind: api.Query, User: "u5"}},
	{[]byte{5, 6, 0}, api.Op{Kind: api.Batch, User: "u6"}},
	{[]byte{5, 1, 1, 2}, api.Op{Kind: api.Batch, User: "u1", Users: []string{"u2"}}},
	{[]byte{5, 0, 3, 0, 8, 9}, api.Op{Kind: api.Batch, User: "u0", Users: []string{"u0", "", "seventeen bytes.."}}},
	{[]byte{5, 8, 9, 1, 1, 7, 3, 4, 5, 6, 0, 2}, api.Op{Kind: api.Batch, Users: []string{"u1", "u1", "u7", "u3", "u4", "u5", "u6", "u0", "u2"}}},
	{[]byte{6, 4}, api.Op{Kind: api.Watch, User: "u4"}},
	{[]byte{7, 4}, api.Op{Kind: api.Unwatch, User: "u4"}},
	{[]byte{8, 1}, api.Op{Kind: api.Poll, User: "u1"}},
	{[]byte{9, 9}, api.Op{Kind: api.Close, User: "seventeen bytes.."}},
	{[]byte{10, 2}, api.Op{Kind: 10, User: "u2"}},
}

// 12.1: no bytes tell the least of everything.
func TestReadNothing(t *testing.T) {
	checkRead(t, nil, script(nil))
	checkRead(t, []byte{}, script(nil))
	if got := ocode.Read(nil); !like(got, script(nil)) {
		t.Errorf("Read(nil): %s", unlike(got, script(nil)))
	}
}

// 12.1: sizes, clients, ops of each, picks, in this order.
func TestReadInOrder(t *testing.T) {
	b := []byte{5, 6, 14, 3, 2, 77, 10, 2} // the sizes, and three clients
	b = append(b, 2, 1, 3, 2, 10, 9, 8, 6, 5)
	b = append(b, 0)
	b = append(b, 3, 5, 8, 2, 4, 3, 9, 2, 3, 2, 1)
	b = append(b, 2, 50, 12, 51, 13, 5, 0, 52)
	checkRead(t, b, api.Script{
		Config: api.Config{Stripes: 6, Sessions: 7, Queue: 15, Watches: 4, Retries: 2, Epochs: 77, Start: 10},
		Clients: [][]api.Op{
			{
				{Kind: api.Set, User: "u3", Id: 2, Status: 10, Prio: 9, Ttl: 8},
				{Kind: api.Watch, User: "u5"},
			},
			nil,
			{
				{Kind: api.Batch, Users: []string{"u4", "u3"}},
				{Kind: api.Close, User: "u2"},
				{Kind: api.Clear, User: "u2", Id: 1},
			},
		},
		Picks: []api.Pick{{Who: 2}, {Kind: api.Sweeper}, {Kind: api.Tick, By: 5}, {Who: 0}},
	})
}

// 12.1: each of the sizes, by each byte; the others stay the least ones.
func TestReadSizes(t *testing.T) {
	fields := []func(b byte, c *api.Config){
		func(b byte, c *api.Config) { c.Stripes = 1 + int(b)%8 },
		func(b byte, c *api.Config) { c.Sessions = 1 + int(b)%8 },
		func(b byte, c *api.Config) { c.Queue = 1 + int(b)%16 },
		func(b byte, c *api.Config) { c.Watches = 1 + int(b)%8 },
		func(b byte, c *api.Config) { c.Retries = int(b) % 5 },
		func(b byte, c *api.Config) { c.Epochs = uint64(b) },
		func(b byte, c *api.Config) { c.Start = plainLong(b) },
	}
	for place, set := range fields {
		for n := range 256 {
			b := make([]byte, place+1)
			b[place] = byte(n)
			want := script(nil)
			set(byte(n), &want.Config)
			checkRead(t, b, want)
			checkRead(t, append(b, make([]byte, 9-len(b))...), want)
		}
	}
}

// 12.1: all sizes at the most, and beyond it at the least.
func TestReadSizesAtEnds(t *testing.T) {
	most := api.Config{Stripes: 8, Sessions: 8, Queue: 16, Watches: 8, Retries: 4, Epochs: 255, Start: top}
	checkRead(t, []byte{7, 7, 15, 7, 4, 255, 255}, api.Script{Config: most, Clients: [][]api.Op{nil}})
	beyond := least
	beyond.Epochs, beyond.Start = 192, top-63
	checkRead(t, []byte{8, 8, 16, 8, 5, 192, 192}, api.Script{Config: beyond, Clients: [][]api.Op{nil}})
	last := api.Config{Stripes: 8, Sessions: 8, Queue: 16, Watches: 8, Retries: 0, Epochs: 191, Start: 191}
	checkRead(t, []byte{255, 255, 255, 255, 255, 191, 191}, api.Script{Config: last, Clients: [][]api.Op{nil}})
}

// 12.1: how many clients there are, by each byte.
func TestReadClients(t *testing.T) {
	for n := range 256 {
		many := 1 + n%8
		want := script(make([][]api.Op, many)...)
		checkRead(t, after(byte(n)), want)
		checkRead(t, append(after(byte(n)), make([]byte, many)...), want)
	}
}

// 12.1: how many ops a client asks, by each byte; ops behind the end are all alike.
func TestReadHowManyOps(t *testing.T) {
	for n := range 256 {
		none := slices.Repeat([]api.Op{{User: "u0"}}, n%41)
		checkRead(t, asking(byte(n)), script(none))
		checkRead(t, after(1, 0, byte(n)), script(nil, none))
		checkRead(t, after(1, byte(n)), script(none, nil))
	}
}

// 12.1: of each client how many ops stands ahead of its own ops, behind those of the client ahead of it.
func TestReadOpsOfEachClient(t *testing.T) {
	b := after(7)
	var clients [][]api.Op
	for c := range 8 {
		b = append(b, byte(5-c%3*2))
		var mine []api.Op
		for i := range 5 - c%3*2 {
			x := ops[(3*c+5*i)%len(ops)]
			b = append(b, x.b...)
			mine = append(mine, x.x)
		}
		clients = append(clients, mine)
	}
	b = append(b, 3, 0)
	want := script(clients...)
	want.Picks = []api.Pick{{Who: 3}}
	checkRead(t, b, want)
}

// 12.1: each op by itself, and behind each other one.
func TestReadOps(t *testing.T) {
	for _, x := range ops {
		checkRead(t, asking(1, x.b...), script([]api.Op{x.x}))
		for _, y := range ops {
			want := script([]api.Op{x.x, y.x})
			want.Picks = []api.Pick{{Who: 5}, {Kind: api.Tick, By: 9}}
			checkRead(t, slices.Concat(asking(2, x.b...), y.b, []byte{5, 66, 15, 9}), want)
		}
	}
}

// 12.1: what is left of an op's Kind by 11; the user stands behind it, of each kind.
func TestReadKinds(t *testing.T) {
	for n := range 256 {
		for user := range 256 {
			x := api.Op{Kind: n % 11, User: plainUser(byte(user))}
			checkRead(t, asking(1, byte(n), byte(user)), script([]api.Op{x}))
		}
	}
}

// fieldsOf tells an op's fields by the bytes behind its kind and its user.
func fieldsOf(x *api.Op, b []byte) {
	switch x.Kind {
	case api.Set:
		x.Id, x.Status, x.Prio, x.Ttl = int(b[0])%4, int(b[1])%11, int(b[2])%10, plainLong(b[3])
	case api.Beat:
		x.Id, x.Ttl = int(b[0])%4, plainLong(b[1])
	case api.Clear:
		x.Id = int(b[0]) % 4
	case api.Batch:
		for i := range int(b[0]) % 10 {
			x.Users = append(x.Users, plainUser(b[1+i]))
		}
	}
}

// lengths are how many bytes tell an op's fields, of the kinds that have some; of a Batch, how many users alone.
var lengths = []struct{ kind, n int }{{api.Set, 4}, {api.Beat, 2}, {api.Clear, 1}, {api.Batch, 1}}

// 12.1: each of an op's fields, by each byte.
func TestReadFields(t *testing.T) {
	for _, l := range lengths {
		for place := range l.n {
			for n := range 256 {
				fields := []byte{3, 7, 9, 100, 4, 8, 9, 1, 2, 5}
				fields[place] = byte(n)
				x := api.Op{Kind: l.kind, User: "u6"}
				fieldsOf(&x, fields)
				b := asking(1, byte(l.kind), 6)
				checkRead(t, append(b, fields[:l.n+len(x.Users)]...), script([]api.Op{x}))
			}
		}
	}
}

// 12.1: each of a Batch's users, by each byte.
func TestReadUsers(t *testing.T) {
	for many := 1; many <= 9; many++ {
		for place := range many {
			for n := range 256 {
				fields := []byte{byte(many), 7, 6, 5, 4, 3, 2, 1, 0, 9}
				fields[1+place] = byte(n)
				x := api.Op{Kind: api.Batch, User: "u1"}
				fieldsOf(&x, fields)
				checkRead(t, append(asking(1, 5, 1), fields[:1+many]...), script([]api.Op{x}))
			}
		}
	}
}

// 12.1: behind the end each byte is 0, wherever the bytes end.
func TestReadBehindTheEnd(t *testing.T) {
	b := []byte{5, 6, 14, 3, 2, 77, 210, 2}
	for c := range 3 {
		b = append(b, byte(len(ops)))
		for i := range ops {
			b = append(b, ops[(i+c)%len(ops)].b...)
		}
	}
	whole := read(t, b)
	if len(whole.Clients) != 3 || len(whole.Picks) != 0 {
		t.Fatalf("Read: %d clients, %d picks", len(whole.Clients), len(whole.Picks))
	}
	for end := range b {
		ended := slices.Clone(b)
		for i := end; i < len(ended); i++ {
			ended[i] = 0
		}
		want := read(t, ended)
		want.Picks = nil
		checkRead(t, b[:end], want)
	}
}

// 12.1: an op that the end is in the midst of.
func TestReadCutOps(t *testing.T) {
	checkRead(t, asking(1, 1, 2, 3), script([]api.Op{{Kind: api.Set, User: "u2", Id: 3}}))
	checkRead(t, asking(1, 5, 8, 3, 4), script([]api.Op{{Kind: api.Batch, Users: []string{"u4", "u0", "u0"}}}))
	checkRead(t, asking(3, 8, 1, 4), script([]api.Op{{Kind: api.Poll, User: "u1"}, {Kind: api.Query, User: "u0"}, {User: "u0"}}))
	checkRead(t, asking(2, 2, 1, 7), script([]api.Op{{Kind: api.Beat, User: "u1", Id: 3}, {User: "u0"}}))
}

// 12.1: picks are of two bytes; the second one of the last pick may be behind the end.
func TestReadPicks(t *testing.T) {
	cases := []struct {
		b    []byte
		want []api.Pick
	}{
		{nil, nil},
		{[]byte{0}, []api.Pick{{}}},
		{[]byte{0, 0}, []api.Pick{{}}},
		{[]byte{7}, []api.Pick{{Who: 7}}},
		{[]byte{8}, []api.Pick{{Kind: api.Sweeper}}},
		{[]byte{13}, []api.Pick{{Kind: api.Tick}}},
		{[]byte{13, 9}, []api.Pick{{Kind: api.Tick, By: 9}}},
		{[]byte{13, 9, 13}, []api.Pick{{Kind: api.Tick, By: 9}, {Kind: api.Tick}}},
		{[]byte{1, 2, 3}, []api.Pick{{Who: 1}, {Who: 3}}},
		{[]byte{1, 2, 3, 4}, []api.Pick{{Who: 1}, {Who: 3}}},
		{[]byte{8, 13, 13, 8, 0, 255}, []api.Pick{{Kind: api.Sweeper}, {Kind: api.Tick, By: 8}, {}}},
		{[]byte{0, 0, 0, 0, 0}, []api.Pick{{}, {}, {}}},
	}
	for _, c := range cases {
		want := script(nil)
		want.Picks = c.want
		checkRead(t, asking(0, c.b...), want)
	}
}

// 12.1: each two bytes of a pick, and each alone.
func TestReadPickOfEachByte(t *testing.T) {
	for b := range 256 {
		want := script(nil)
		want.Picks = []api.Pick{plainPick(byte(b), 0)}
		checkRead(t, asking(0, byte(b)), want)
		for by := range 256 {
			want.Picks[0] = plainPick(byte(b), byte(by))
			if got := ocode.Read(asking(0, byte(b), byte(by))); !like(got, want) {
				t.Errorf("Read of the pick %d, %d: %s", b, by, unlike(got, want))
			}
		}
	}
}

// 12.1: there are as many picks as two bytes each tell, but not more than 20000.
func TestReadManyPicks(t *testing.T) {
	for _, n := range []int{1, 2, 3, 1000, 1001, 39996, 39997, 39998, 39999, 40000, 40001, 40002, 40003, 80000, 1 << 20} {
		b := asking(0)
		var picks []api.Pick
		for i := range n {
			b = append(b, byte(7*i+i/256))
		}
		for i := 9; i < len(b) && len(picks) < 20000; i += 2 {
			by := byte(0)
			if i+1 < len(b) {
				by = b[i+1]
			}
			picks = append(picks, plainPick(b[i], by))
		}
		want := script(nil)
		want.Picks = picks
		if many := min((n+1)/2, 20000); len(picks) != many {
			t.Fatalf("%d bytes should tell %d picks, not %d", n, many, len(picks))
		}
		checkRead(t, b, want)
	}
}

// 12.1: as much of everything as there may be.
func TestReadMost(t *testing.T) {
	b := []byte{7, 7, 15, 7, 4, 255, 255, 7}
	batch := api.Op{Kind: api.Batch, Users: slices.Repeat([]string{"seventeen bytes.."}, 9)}
	for range 8 {
		b = append(b, 40)
		for range 40 {
			b = append(b, 5, 8, 9, 9, 9, 9, 9, 9, 9, 9, 9, 9)
		}
	}
	for range 20000 {
		b = append(b, 15, 255)
	}
	want := api.Script{
		Config:  api.Config{Stripes: 8, Sessions: 8, Queue: 16, Watches: 8, Retries: 4, Epochs: 255, Start: top},
		Clients: slices.Repeat([][]api.Op{slices.Repeat([]api.Op{batch}, 40)}, 8),
		Picks:   slices.Repeat([]api.Pick{{Kind: api.Tick, By: top}}, 20000),
	}
	checkRead(t, b, want)
	checkRead(t, append(b, 1, 2, 3), want)
}

// 12.1: bytes that nobody wrote as a script tell one all the same.
func TestReadText(t *testing.T) {
	checkRead(t, []byte("hello, world"), api.Script{
		// h 104, e 101, l 108, l 108, o 111, comma 44, blank 32, w 119: eight clients; o 111: 29 ops; r 114: kind 4, l 108: no user; d 100: kind 1
		Config: api.Config{Stripes: 1, Sessions: 6, Queue: 13, Watches: 5, Retries: 1, Epochs: 44, Start: 32},
		Clients: [][]api.Op{
			slices.Concat([]api.Op{{Kind: api.Query}, {Kind: api.Set, User: "u0"}}, slices.Repeat([]api.Op{{User: "u0"}}, 27)),
			nil, nil, nil, nil, nil, nil, nil,
		},
	})
}
