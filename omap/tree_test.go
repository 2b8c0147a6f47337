package omap

import "testing"

// faults counts the nodes of a tree whose size is wrong, or of whose sides one is too heavy.
func faults(n *node[int, int]) int {
	if n == nil {
		return 0
	}
	sum := faults(n.left) + faults(n.right)
	if n.size != n.left.count()+n.right.count()+1 || heavy(n.left, n.right) || heavy(n.right, n.left) {
		sum++
	}
	return sum
}

// depth is how many nodes stand one below the other at most.
func depth(n *node[int, int]) int {
	if n == nil {
		return 0
	}
	return 1 + max(depth(n.left), depth(n.right))
}

// keyOrders are ways to go through 0 to n - 1, each key once: rising, falling, from the ends inwards, from the middle outwards, mixed.
func keyOrders(n int) [][]int {
	orders := make([][]int, 5)
	for i := range n {
		ends := i / 2
		if i%2 == 1 {
			ends = n - 1 - i/2
		}
		orders[0] = append(orders[0], i)
		orders[1] = append(orders[1], n-1-i)
		orders[2] = append(orders[2], ends)
		orders[4] = append(orders[4], i*7919%n)
	}
	for i := range n {
		orders[3] = append(orders[3], orders[2][n-1-i])
	}
	return orders
}

// 4.1: each map is in balance, in whatever order keys come and go: so calls end soon, however many there are.
func TestBalance(t *testing.T) {
	const n = 600
	for put, putOrder := range keyOrders(n) {
		var full Map[int, int]
		for _, k := range putOrder {
			full = full.With(k, k)
			if faults(full.root) > 0 {
				t.Fatalf("order %d: out of balance behind With(%d)", put, k)
			}
		}
		if full.Len() != n {
			t.Fatalf("order %d: %d keys, not %d", put, full.Len(), n)
		}
		for take, takeOrder := range keyOrders(n) {
			m := full
			for i, k := range takeOrder {
				m = m.Without(k)
				if faults(m.root) > 0 || m.Len() != n-1-i {
					t.Fatalf("orders %d, %d: out of balance behind Without(%d)", put, take, k)
				}
			}
		}
	}
}

// 4.1: keys that come and go by turns.
func TestBalanceMixed(t *testing.T) {
	dice := uint32(7)
	var m Map[int, int]
	for step := range 60000 {
		dice = dice*1664525 + 1013904223
		k := int(dice>>8) % 300
		// Now the map grows, now it shrinks.
		if dice>>28 < uint32(4+8*(step/2000%2)) {
			m = m.With(k, step)
		} else {
			m = m.Without(k)
		}
		if faults(m.root) > 0 {
			t.Fatalf("out of balance behind step %d", step)
		}
	}
}

// 4.1: the depth grows by some steps only while the keys double.
func TestDepth(t *testing.T) {
	const n = 100000
	var rising, falling Map[int, int]
	for i := range n {
		rising = rising.With(i, i)
		falling = falling.With(-i, i)
	}
	for _, m := range []Map[int, int]{rising, falling} {
		// (4/3)^41 > 100001: each step down leaves at most 3/4 of the weight.
		if d := depth(m.root); d > 41 {
			t.Errorf("%d keys stand %d deep", n, d)
		}
	}
}
