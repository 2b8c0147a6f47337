package hall_test

import (
	"fmt"
	"testing"

	"doorman/api"
)

// roller answers numbers below others, the same ones each time.
func roller(n uint64) func(below int) int {
	return func(below int) int {
		n = n*6364136223846793005 + 1442695040888963407
		return int(n>>33) % below
	}
}

// writing counts a writing, and writes by the time that was taken.
func writing(who, s int, x api.Op) deed {
	return deed{fmt.Sprintf("Write(%d, %d, %v) behind Take", who, s, x), func(f face) string { return fmt.Sprint(f.Write(who, s, x, f.Take(who))) }}
}

// sweeping counts a writing, and sweeps by the time that was taken.
func sweeping(s int) deed {
	return deed{fmt.Sprintf("Sweep(8, %d) behind Take", s), func(f face) string { f.Sweep(8, s, f.Take(8)); return "" }}
}

// 14.2, 14.3: all scripts of four out of all deeds at one stripe, held against the plain table step by step.
func TestAllSmallScripts(t *testing.T) {
	deeds := []deed{
		look(1), shut(0), pass(9, 2), lock(0, 0), lock(1, 0), unlock(0, 0), unlock(1, 0),
		epoch(1, 0), begin(0, 0), end(0, 0), snap(1, 0), publish(0, 0), read(1, 0),
		writing(0, 0, set("ann", 1, 1, 2)), writing(0, 0, set("ann", 2, 2, 4)), writing(1, 0, op(api.Clear, "ann", 1, 0)), sweeping(0),
		count(1, 0, "ann"), watch(1, 0, "ann", true), watch(1, 0, "ann", false), drain(1, 0),
	}
	const length = 4
	scripts := 1
	for range length {
		scripts *= len(deeds)
	}
	for script := range scripts {
		b := newTable(t, sizes(1, 1, 1, 2))
		for rest, i := script, 0; i < length; rest, i = rest/len(deeds), i+1 {
			d := deeds[rest%len(deeds)]
			if got, want := d.do(b.h), d.do(b.p); got != want {
				t.Fatalf("the script is %d, at %d: %s = %s, not %s", script, i, d.name, got, want)
			}
		}
		b.see("at the end")
		if t.Failed() {
			t.Fatalf("the script is %d", script)
		}
	}
}

// rolledOp is mostly a writing that may be.
func rolledOp(roll func(int) int, user string) api.Op {
	x := api.Op{Kind: 1 + roll(3), User: user, Id: roll(4), Status: 1 + roll(9), Prio: roll(3), Ttl: uint64(roll(20))}
	if roll(30) == 0 {
		x.Kind, x.Ttl = roll(12)-1, top-uint64(roll(30))
	}
	return x
}

// rolledTime is one that was not taken from the table.
func rolledTime(roll func(int) int) api.Time {
	return api.Time{Now: uint64(roll(60)), Seq: uint64(roll(9)), Closed: roll(5) == 0}
}

// rolledDeed is any deed of any process, a Shut seldom.
func rolledDeed(roll func(int) int, stripes int) deed {
	if roll(1200) == 0 {
		return shut(roll(10))
	}
	who, s := roll(10), roll(stripes)
	user := []string{"ann", "bob", "zoe", "an"}[roll(4)]
	x := rolledOp(roll, user)
	l := []deed{
		look(who), take(who), pass(who, uint64(roll(8))), lock(who, s), unlock(who, s),
		epoch(who, s), begin(who, s), end(who, s), snap(who, s), publish(who, s), read(who, s),
		count(who, s, user), watch(who, s, user, true), watch(who, s, user, roll(2) > 0), drain(who, s),
		sweeping(s), sweep(who, s, rolledTime(roll)), write(who, s, x, rolledTime(roll)),
		writing(who, s, x), writing(who, s, x), writing(who, s, x), writing(who, s, x),
	}
	return l[roll(len(l))]
}

// rolledSizes are sizes that may be.
func rolledSizes(roll func(int) int) api.Config {
	return api.Config{
		Stripes: 1 + roll(8), Sessions: 1 + roll(8), Queue: 1 + roll(16), Watches: 1 + roll(8), Retries: roll(5),
		Epochs: []uint64{0, 1, 2, 7, 100, top}[roll(6)], Start: []uint64{0, 1, 20, top - 100, top}[roll(5)],
	}
}

// 14.1 to 14.3: long scripts at many sizes, held against the plain table at each step.
func TestLongScripts(t *testing.T) {
	for seed := range uint64(150) {
		roll := roller(seed * 7919)
		b := newTable(t, rolledSizes(roll))
		for range 300 {
			b.do(rolledDeed(roll, b.p.c.Stripes))
			if t.Failed() {
				t.Fatalf("the seed is %d, the sizes are %v", seed, b.p.c)
			}
		}
	}
}
