package hall_test

import (
	"testing"
)

// stripeDeeds are all that is done to a stripe.
func stripeDeeds(who, s int) []deed {
	return []deed{
		lock(who, s), unlock(who, s), epoch(who, s), begin(who, s), end(who, s), snap(who, s), publish(who, s),
		write(who, s, set("ann", 1, 2, 5), at(0, 1)), write(who, s, set("ann", 1, 2, 5), closedAt(0, 1)),
		sweep(who, s, at(9, 2)), read(who, s), count(who, s, "ann"), watch(who, s, "ann", true), watch(who, s, "ann", false), drain(who, s),
	}
}

// 14.1 to 14.3: where there is no stripe nothing is done, and no act; nobody can have its lock, and it is neither free nor quiet.
func TestNoStripe(t *testing.T) {
	for stripes := 1; stripes <= 8; stripes++ {
		b := newTable(t, sizes(stripes, 2, 2, 4))
		for s := range stripes {
			b.do(watch(0, s, "ann", true))
			b.do(write(0, s, set("ann", 1, 1, 5), at(0, 1)))
		}
		for _, s := range append(noStripes, stripes, stripes+1) {
			for _, d := range stripeDeeds(0, s) {
				d.do(b.h)
				b.see(d.name)
			}
			if b.h.Lock(0, s) || b.h.Unlock(0, s) || b.h.Free(s) || b.h.Quiet(s) {
				t.Errorf("of %d stripes, %d: it is taken, given back, free, or quiet", stripes, s)
			}
			if n, watches := b.h.Count(0, s, "ann"); n != 0 || watches || b.h.Epoch(0, s) != 0 || b.h.Read(0, s).Len() != 0 || b.h.Snap(0, s).Len() != 0 {
				t.Errorf("of %d stripes, %d: something is in it", stripes, s)
			}
		}
		for s := range stripes {
			b.is("[ann [{1 1 0 5}] {1 0 1}]", read(0, s))
			b.is("1 true", count(0, s, "ann"))
			b.is("0", epoch(0, s))
			b.is("[{ann {0 0 0} {1 0 1} 1}] false", drain(0, s))
		}
	}
}
