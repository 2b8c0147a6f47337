package omap

// node is the root of a tree that is in balance: lesser keys on the left, greater ones on the right.
// It is never changed once it is made: so maps can share it, and each stays as it was. A nil one is a tree without keys.
type node[K Key, V any] struct {
	key         K
	value       V
	left, right *node[K, V]
	size        int
}

func (n *node[K, V]) count() int {
	if n == nil {
		return 0
	}
	return n.size
}

// weight is one more than the keys, so that a tree without keys can be held against others by factors.
func (n *node[K, V]) weight() int { return n.count() + 1 }

func (n *node[K, V]) find(k K) *node[K, V] {
	for n != nil && n.key != k {
		if k < n.key {
			n = n.left
		} else {
			n = n.right
		}
	}
	return n
}

// walk tells whether it came to the end: if not, nobody above may hand out more.
func (n *node[K, V]) walk(yield func(K, V) bool) bool {
	return n == nil || n.left.walk(yield) && yield(n.key, n.value) && n.right.walk(yield)
}

func (n *node[K, V]) least() *node[K, V] {
	for n.left != nil {
		n = n.left
	}
	return n
}

// above is another node with n's key and value, above other trees than n is.
func (n *node[K, V]) above(left, right *node[K, V]) *node[K, V] {
	return &node[K, V]{n.key, n.value, left, right, left.count() + right.count() + 1}
}

// A side may weigh 3 times the other one; beyond that the tree is turned, about the inner tree below the heavy side if that has 2 times the outer one's weight.
// With this pair of factors one turning restores the balance behind each key more or less; with others it may not.
const (
	mostOfOther = 3
	mostOfOuter = 2
)

func heavy[K Key, V any](side, other *node[K, V]) bool {
	return side.weight() > mostOfOther*other.weight()
}

func narrow[K Key, V any](inner, outer *node[K, V]) bool {
	return inner.weight() < mostOfOuter*outer.weight()
}

// balanced is n above trees of which one has a key more or less than it had in balance.
func (n *node[K, V]) balanced(left, right *node[K, V]) *node[K, V] {
	switch {
	case heavy(right, left):
		return n.turnedLeft(left, right)
	case heavy(left, right):
		return n.turnedRight(left, right)
	}
	return n.above(left, right)
}

func (n *node[K, V]) turnedLeft(left, right *node[K, V]) *node[K, V] {
	inner, outer := right.left, right.right
	if narrow(inner, outer) {
		return right.above(n.above(left, inner), outer)
	}
	return inner.above(n.above(left, inner.left), right.above(inner.right, outer))
}

func (n *node[K, V]) turnedRight(left, right *node[K, V]) *node[K, V] {
	outer, inner := left.left, left.right
	if narrow(inner, outer) {
		return left.above(outer, n.above(inner, right))
	}
	return inner.above(left.above(outer, inner.left), n.above(inner.right, right))
}

func (n *node[K, V]) with(k K, v V) *node[K, V] {
	switch {
	case n == nil:
		return &node[K, V]{key: k, value: v, size: 1}
	case k < n.key:
		return n.balanced(n.left.with(k, v), n.right)
	case k > n.key:
		return n.balanced(n.left, n.right.with(k, v))
	}
	return &node[K, V]{k, v, n.left, n.right, n.size}
}

func (n *node[K, V]) without(k K) *node[K, V] {
	switch {
	case n == nil:
		return nil
	case k < n.key:
		return n.balanced(n.left.without(k), n.right)
	case k > n.key:
		return n.balanced(n.left, n.right.without(k))
	case n.left == nil:
		return n.right
	case n.right == nil:
		return n.left
	}
	next := n.right.least()
	return next.balanced(n.left, n.right.without(next.key))
}
