package ocode_test

import (
	"fmt"
	"math"
	"slices"
	"testing"

	"doorman/api"
	"doorman/ocode"
)

// spacious is a script like s, in memory of its own, with spare room behind each list that holds junk; behind its clients stands one that asks too much.
func spacious(s api.Script) api.Script {
	s = copyOf(s)
	for c := range s.Clients {
		s.Clients[c] = roomy(s.Clients[c], junkOp)
	}
	s.Clients = roomy(s.Clients, slices.Repeat([]api.Op{junkOp}, 41))
	s.Picks = roomy(s.Picks, junkPick)
	return s
}

// opened is a look at a script that sees the spare room of its lists too.
func opened(s api.Script) api.Script {
	clients := s.Clients[:cap(s.Clients)]
	s.Clients = nil
	for _, asked := range clients {
		s.Clients = append(s.Clients, asked[:cap(asked)])
	}
	s.Picks = s.Picks[:cap(s.Picks)]
	return s
}

// checkCheck holds what Check answers against what it should; it sees that the script, spare room included, is left as it was, and that a second call answers alike.
func checkCheck(t *testing.T, what string, s api.Script, want api.Errno) {
	t.Helper()
	if got := ocode.Check(s); got != want {
		t.Errorf("Check of %s is %d, not %d", what, got, want)
	}
	given := spacious(s)
	before := copyOf(opened(given))
	if got := ocode.Check(given); got != want {
		t.Errorf("Check of %s with spare room is %d, not %d", what, got, want)
	}
	if !like(given, s) || !like(opened(given), before) {
		t.Errorf("Check of %s changes it: %s; %s", what, unlike(given, s), unlike(opened(given), before))
	}
	if got := ocode.Check(given); got != want {
		t.Errorf("Check of %s the second time is %d, not %d", what, got, want)
	}
}

// asked are so many ops.
func asked(n int) []api.Op { return slices.Repeat([]api.Op{{Kind: api.Poll}}, n) }

// picks are so many picks.
func picks(n int) []api.Pick { return slices.Repeat([]api.Pick{{Kind: api.Sweeper}}, n) }

// clients are so many clients, each of which asks so many ops.
func clients(n, each int) [][]api.Op {
	var all [][]api.Op
	for range n {
		all = append(all, asked(each))
	}
	return all
}

// sizes are sizes, with one of them as it is handed in; the others are neither the least nor the most.
func sizes(field, n int) api.Config {
	c := api.Config{Stripes: 4, Sessions: 3, Queue: 9, Watches: 2, Retries: 1, Epochs: 100}
	*[]*int{&c.Stripes, &c.Sessions, &c.Queue, &c.Watches, &c.Retries}[field] = n
	return c
}

// bounds are of each size the least, and the most.
var bounds = [5][2]int{{1, 8}, {1, 8}, {1, 16}, {1, 8}, {0, 4}}

// wrongSizes are sizes that may not be, each because of one field alone, but for the last ones.
func wrongSizes() []api.Config {
	all := []api.Config{{}, {Stripes: 9, Sessions: 9, Queue: 17, Watches: 9, Retries: 5}, {Stripes: -1, Sessions: -1, Queue: -1, Watches: -1, Retries: -1}}
	for field, b := range bounds {
		for _, n := range []int{b[0] - 1, b[1] + 1, -9, 255, 256 + b[0], 1<<32 + b[0], math.MinInt, math.MinInt + b[0], math.MaxInt} {
			all = append(all, sizes(field, n))
		}
	}
	return all
}

// wrongLengths are clients and picks of which some are more than there may be.
func wrongLengths() []api.Script {
	all := []api.Script{
		{Clients: clients(9, 0)},
		{Clients: clients(9, 40)},
		{Clients: clients(10, 1)},
		{Clients: clients(16, 0)},
		{Clients: clients(257, 1)},
		{Clients: clients(70000, 0)},
		{Clients: clients(1, 41)},
		{Clients: clients(1, 42)},
		{Clients: clients(1, 256)},
		{Clients: clients(1, 257)},
		{Clients: clients(1, 70000)},
		{Clients: clients(8, 41)},
		{Clients: clients(9, 41)},
		{Clients: clients(1, 0), Picks: picks(20001)},
		{Clients: clients(8, 40), Picks: picks(20001)},
		{Clients: clients(1, 1), Picks: picks(65536)},
		{Clients: clients(1, 1), Picks: picks(1 << 20)},
		{Clients: clients(9, 1), Picks: picks(20001)},
		{Clients: clients(8, 41), Picks: picks(20001)},
		{Clients: clients(9, 41), Picks: picks(20001)},
	}
	for many := 1; many <= 8; many++ {
		for c := range many {
			s := api.Script{Clients: clients(many, 40)}
			s.Clients[c] = asked(41)
			all = append(all, s)
			s = api.Script{Clients: clients(many, 0)}
			s.Clients[c] = asked(41)
			all = append(all, s)
		}
	}
	return all
}

// shape tells a script's lengths.
func shape(s api.Script) string {
	most := 0
	for _, l := range s.Clients {
		most = max(most, len(l))
	}
	return fmt.Sprintf("%d clients of up to %d ops, and %d picks, at %+v", len(s.Clients), most, len(s.Picks), s.Config)
}

// 12.2: scripts that may be, from the least to the most.
func TestCheck(t *testing.T) {
	for many := 1; many <= 8; many++ {
		for _, each := range []int{0, 1, 2, 39, 40} {
			for _, n := range []int{0, 1, 2, 19999, 20000} {
				s := api.Script{Config: least, Clients: clients(many, each), Picks: picks(n)}
				checkCheck(t, shape(s), s, api.OK)
			}
		}
	}
}

// 12.2: sizes may be as chapter 10 tells.
func TestCheckSizes(t *testing.T) {
	for field, b := range bounds {
		for n := b[0]; n <= b[1]; n++ {
			s := api.Script{Config: sizes(field, n), Clients: clients(2, 3), Picks: picks(4)}
			checkCheck(t, shape(s), s, api.OK)
		}
	}
	for _, c := range wrongSizes() {
		s := api.Script{Config: c, Clients: clients(2, 3), Picks: picks(4)}
		checkCheck(t, shape(s), s, api.ErrArg)
	}
}

// 12.2: the bound of an epoch and the time at first may be any number.
func TestCheckAnyEpochs(t *testing.T) {
	for _, n := range []uint64{0, 1, 2, 255, 256, 1 << 32, 1<<63 - 1, 1 << 63, top - 1, top} {
		for _, start := range []uint64{0, 1, 191, 1 << 63, top - 1, top} {
			s := api.Script{Config: least, Clients: clients(1, 1)}
			s.Config.Epochs, s.Config.Start = n, start
			checkCheck(t, shape(s), s, api.OK)
		}
	}
}

// 12.2: no clients, however many picks.
func TestCheckNoClients(t *testing.T) {
	for _, none := range [][][]api.Op{nil, {}, make([][]api.Op, 0, 9)} {
		for _, n := range []int{0, 1, 20000, 20001, 40000} {
			s := api.Script{Config: least, Clients: none, Picks: picks(n)}
			checkCheck(t, shape(s), s, api.ErrArg)
		}
	}
	checkCheck(t, "nothing", api.Script{}, api.ErrArg)
}

// 12.2: a client that asks nothing is one all the same, its list nil or empty.
func TestCheckIdleClients(t *testing.T) {
	checkCheck(t, "a nil list", script(nil), api.OK)
	checkCheck(t, "an empty list", script([]api.Op{}), api.OK)
	checkCheck(t, "eight of them", script(nil, nil, []api.Op{}, nil, nil, []api.Op{}, nil, nil), api.OK)
	checkCheck(t, "nine of them", script(nil, nil, []api.Op{}, nil, nil, []api.Op{}, nil, nil, nil), api.ErrLong)
}

// 12.2: more clients, picks, or ops of one.
func TestCheckLong(t *testing.T) {
	for _, s := range wrongLengths() {
		s.Config = least
		checkCheck(t, shape(s), s, api.ErrLong)
	}
}

// 12.2: many ops of all clients together are not too many, if each one has at most 40.
func TestCheckOpsOfOne(t *testing.T) {
	for _, many := range [][]int{{40, 40, 40}, {40, 1}, {21, 20}, {0, 40, 0, 40}, {40, 39, 38, 37, 36, 35, 34, 33}} {
		s := script()
		for _, n := range many {
			s.Clients = append(s.Clients, asked(n))
		}
		checkCheck(t, shape(s), s, api.OK)
	}
}

// 12.2: where both are wrong, sizes come ahead of lengths.
func TestCheckArgAheadOfLong(t *testing.T) {
	for _, s := range wrongLengths() {
		for field, b := range bounds {
			for _, n := range []int{b[0] - 1, b[1] + 1} {
				s.Config = sizes(field, n)
				if got := ocode.Check(s); got != api.ErrArg {
					t.Errorf("Check of %s is %d, not %d", shape(s), got, api.ErrArg)
				}
			}
		}
	}
	for _, c := range wrongSizes() {
		s := api.Script{Config: c, Clients: clients(9, 41), Picks: picks(20001)}
		checkCheck(t, shape(s), s, api.ErrArg)
		s = api.Script{Config: c}
		checkCheck(t, shape(s), s, api.ErrArg)
	}
}

// 12.2: ops that are bad, and picks of nobody, may be in a script.
func TestCheckAsksNothingElse(t *testing.T) {
	bad := []api.Op{
		{},
		{Kind: -1},
		{Kind: 10},
		{Kind: math.MaxInt},
		{Kind: api.Set, User: "", Id: -1, Status: 10, Prio: 10, Ttl: top},
		{Kind: api.Query, User: "seventeen bytes.."},
		{Kind: api.Batch},
		{Kind: api.Batch, Users: make([]string, 9)},
		{Kind: api.Batch, Users: make([]string, 1000)},
		{Kind: api.Beat, User: "u1", Id: math.MinInt},
	}
	strange := []api.Pick{
		{Kind: -1}, {Kind: 3}, {Kind: math.MaxInt}, {Kind: math.MinInt},
		{Who: -1}, {Who: 8}, {Who: math.MinInt}, {Who: math.MaxInt}, {Kind: api.Client, Who: 5, By: top},
		{Kind: api.Sweeper, Who: 9, By: 9}, {Kind: api.Tick, Who: -5, By: top},
	}
	s := script(bad, nil, bad)
	s.Picks = strange
	checkCheck(t, "what is bad and strange", s, api.OK)
	for _, x := range bad {
		checkCheck(t, "a bad op", script([]api.Op{x}), api.OK)
	}
	for _, p := range strange {
		s := script(asked(1))
		s.Picks = []api.Pick{p}
		checkCheck(t, "a strange pick", s, api.OK)
	}
}
