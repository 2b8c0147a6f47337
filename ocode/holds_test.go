package ocode_test

import (
	"bytes"
	"strings"
	"testing"

	"doorman/api"
	"doorman/model"
	"doorman/ocode"
)

// roller answers numbers below others, the same ones each time.
func roller(n uint32) func(below int) int {
	return func(below int) int {
		n = n*1664525 + 1013904223
		return int(n>>8) % below
	}
}

// rolledBytes are so many bytes; some rolls are of small bytes, or of the same few ones, so that scripts are of many shapes.
func rolledBytes(roll func(int) int, n int) []byte {
	below, from := []int{256, 256, 256, 64, 12, 3}[roll(6)], roll(256)
	b := make([]byte, n)
	for i := range b {
		b[i] = byte(from + roll(below))
	}
	if roll(2) == 0 && n > 8 {
		b[7] = byte(roll(2)) // few clients, so that some bytes are left for picks
		b[8] = byte(roll(10))
	}
	return b
}

// plainRead reads a script a byte's place at a time, with the chapter's numbers.
func plainRead(b []byte) api.Script {
	place := 0
	take := func() byte {
		place++
		if place > len(b) {
			return 0
		}
		return b[place-1]
	}
	by := func(n byte) int { return int(take() % n) }
	var s api.Script
	for _, size := range []struct {
		n     *int
		by    byte
		least int
	}{{&s.Config.Stripes, 8, 1}, {&s.Config.Sessions, 8, 1}, {&s.Config.Queue, 16, 1}, {&s.Config.Watches, 8, 1}, {&s.Config.Retries, 5, 0}} {
		*size.n = size.least + by(size.by)
	}
	s.Config.Epochs = uint64(take())
	s.Config.Start = plainLong(take())
	s.Clients = make([][]api.Op, 1+by(8))
	for c := range s.Clients {
		s.Clients[c] = make([]api.Op, by(41))
		for i := range s.Clients[c] {
			x := &s.Clients[c][i]
			x.Kind = by(11)
			x.User = plainUser(take())
			if x.Kind == 1 || x.Kind == 2 || x.Kind == 3 {
				x.Id = by(4)
			}
			if x.Kind == 1 {
				x.Status = by(11)
				x.Prio = by(10)
			}
			if x.Kind == 1 || x.Kind == 2 {
				x.Ttl = plainLong(take())
			}
			if x.Kind == 5 {
				x.Users = make([]string, by(10))
				for u := range x.Users {
					x.Users[u] = plainUser(take())
				}
			}
		}
	}
	for place < len(b) && len(s.Picks) < 20000 {
		turn := take()
		s.Picks = append(s.Picks, plainPick(turn, take()))
	}
	return s
}

// bytesOf are bytes that tell a script: of each number one that tells it, not always the least.
func bytesOf(roll func(int) int, s api.Script) []byte {
	var b []byte
	put := func(n, by int) {
		many := (255-n)/by + 1
		b = append(b, byte(n+by*roll(many)))
	}
	user := func(name string) {
		switch name {
		case "":
			put(8, 10)
		case "seventeen bytes..":
			put(9, 10)
		default:
			put(int(name[1]-'0'), 10)
		}
	}
	long := func(n uint64) { b = append(b, byte(n)) }
	put(s.Config.Stripes-1, 8)
	put(s.Config.Sessions-1, 8)
	put(s.Config.Queue-1, 16)
	put(s.Config.Watches-1, 8)
	put(s.Config.Retries, 5)
	b = append(b, byte(s.Config.Epochs))
	long(s.Config.Start)
	put(len(s.Clients)-1, 8)
	for _, asked := range s.Clients {
		put(len(asked), 41)
		for _, x := range asked {
			put(x.Kind, 11)
			user(x.User)
			switch x.Kind {
			case api.Set:
				put(x.Id, 4)
				put(x.Status, 11)
				put(x.Prio, 10)
				long(x.Ttl)
			case api.Beat:
				put(x.Id, 4)
				long(x.Ttl)
			case api.Clear:
				put(x.Id, 4)
			case api.Batch:
				put(len(x.Users), 10)
				for _, name := range x.Users {
					user(name)
				}
			}
		}
	}
	for _, p := range s.Picks {
		switch p.Kind {
		case api.Client:
			put(p.Who, 16)
			b = append(b, byte(roll(256)))
		case api.Sweeper:
			put(8+roll(5), 16)
			b = append(b, byte(roll(256)))
		case api.Tick:
			put(13+roll(3), 16)
			long(p.By)
		}
	}
	return b
}

// rolledLong is a long number that a byte tells.
func rolledLong(roll func(int) int) uint64 { return plainLong(byte(roll(256))) }

// rolledUser is a name that a byte tells.
func rolledUser(roll func(int) int) string { return plainUser(byte(roll(10))) }

// rolledOp is an op that bytes tell.
func rolledOp(roll func(int) int) api.Op {
	x := api.Op{Kind: roll(11), User: rolledUser(roll)}
	switch x.Kind {
	case api.Set:
		x.Id, x.Status, x.Prio, x.Ttl = roll(4), roll(11), roll(10), rolledLong(roll)
	case api.Beat:
		x.Id, x.Ttl = roll(4), rolledLong(roll)
	case api.Clear:
		x.Id = roll(4)
	case api.Batch:
		for range roll(10) {
			x.Users = append(x.Users, rolledUser(roll))
		}
	}
	return x
}

// rolledScript is a script that bytes tell.
func rolledScript(roll func(int) int) api.Script {
	var s api.Script
	s.Config = api.Config{Stripes: 1 + roll(8), Sessions: 1 + roll(8), Queue: 1 + roll(16), Watches: 1 + roll(8), Retries: roll(5), Epochs: uint64(roll(256)), Start: rolledLong(roll)}
	for range 1 + roll(8) {
		var mine []api.Op
		for range roll(41) {
			mine = append(mine, rolledOp(roll))
		}
		s.Clients = append(s.Clients, mine)
	}
	for range roll(100) {
		s.Picks = append(s.Picks, []api.Pick{{Who: roll(8)}, {Kind: api.Sweeper}, {Kind: api.Tick, By: rolledLong(roll)}}[roll(3)])
	}
	return s
}

// wrong tells what of a script may not be, by the chapter's numbers; no word if all may.
func wrong(s api.Script) string {
	c := s.Config
	switch {
	case c.Stripes < 1 || c.Stripes > 8 || c.Sessions < 1 || c.Sessions > 8 || c.Queue < 1 || c.Queue > 16 || c.Watches < 1 || c.Watches > 8 || c.Retries < 0 || c.Retries > 4:
		return "its sizes"
	case len(s.Clients) < 1 || len(s.Clients) > 8:
		return "how many clients"
	case len(s.Picks) > 20000:
		return "how many picks"
	}
	for _, asked := range s.Clients {
		if len(asked) > 40 {
			return "how many ops"
		}
	}
	return ""
}

// checkMayBe sees that what bytes tell is what plain reading tells, and that it may be.
func checkMayBe(t *testing.T, b []byte) {
	t.Helper()
	s := ocode.Read(b)
	if want := plainRead(b); !like(s, want) {
		t.Errorf("Read of %d bytes %v..: %s", len(b), b[:min(len(b), 60)], unlike(s, want))
	}
	if what := wrong(s); what != "" || !model.Right(s.Config) {
		t.Errorf("what %d bytes %v.. tell may not be: %s: %s", len(b), b[:min(len(b), 60)], what, shape(s))
	}
	if err := ocode.Check(s); err != api.OK {
		t.Errorf("Check of what %d bytes %v.. tell is %d", len(b), b[:min(len(b), 60)], err)
	}
}

// 12.3: all of no byte, of one, and of two.
func TestFewBytesMayBe(t *testing.T) {
	checkMayBe(t, nil)
	for a := range 256 {
		checkMayBe(t, []byte{byte(a)})
		for b := range 256 {
			checkMayBe(t, []byte{byte(a), byte(b)})
		}
	}
}

// 12.3: each byte again and again, up to more of them than any script needs.
func TestSameBytesMayBe(t *testing.T) {
	for n := range 256 {
		for _, many := range []int{3, 7, 8, 9, 10, 50, 400, 5000, 45000} {
			checkMayBe(t, bytes.Repeat([]byte{byte(n)}, many))
		}
	}
}

// 12.3: each byte in each place.
func TestEachByteMayBe(t *testing.T) {
	for _, fill := range []byte{0, 1, 2, 5, 40, 255} {
		for place := range 60 {
			b := bytes.Repeat([]byte{fill}, 60)
			for n := range 256 {
				b[place] = byte(n)
				checkMayBe(t, b)
			}
		}
	}
}

// 12.3: rolled bytes of many lengths.
func TestRolledBytesMayBe(t *testing.T) {
	roll := roller(12)
	for range 20000 {
		checkMayBe(t, rolledBytes(roll, roll(200)))
	}
	for range 2000 {
		checkMayBe(t, rolledBytes(roll, roll(4000)))
	}
	for range 50 {
		checkMayBe(t, rolledBytes(roll, 39000+roll(5000)))
	}
}

// 12.3: texts.
func TestTextsMayBe(t *testing.T) {
	for _, text := range []string{"", " ", "\n", "hello, world", "set \"ann\" 1 2 0 5", "\x00\xff", "\xc3(", "日本", strings.Repeat("doorman ", 6000), strings.Repeat("\x00", 100000)} {
		checkMayBe(t, []byte(text))
	}
}

// 12.1: whatever bytes of its numbers tell a script, they tell that one.
func TestReadBack(t *testing.T) {
	roll := roller(5)
	for range 3000 {
		want := rolledScript(roll)
		checkRead(t, bytesOf(roll, want), want)
	}
}

// 12.1, 12.3: what is read is told by bytes of its own, that are read to the same.
func TestReadAgain(t *testing.T) {
	roll := roller(7)
	for range 3000 {
		s := ocode.Read(rolledBytes(roll, roll(1000)))
		checkRead(t, bytesOf(roll, s), s)
	}
}
