package tree_test

import (
	"math"
	"testing"

	"ogive/api"
	"ogive/tree"
)

// node is what there is to tell of one, read from the pictures of a tree: no number is reckoned from another one but those below.
type node struct {
	v         int
	above     []int // from the one above all, without itself
	beside    int
	low, high int64
	told      int // how many are told ahead of it
}

// grown is a tree gone through from above: nodes by their numbers, the first one empty.
func grown(depth int) []node {
	nodes := make([]node, 1<<(depth+1))
	told := 0
	var grow func(v, beside int, above []int, low, high int64)
	grow = func(v, beside int, above []int, low, high int64) {
		if low < high {
			under := append(append([]int{}, above...), v)
			half := low + (high-low+1)/2
			grow(2*v, 2*v+1, under, low, half-1)
			grow(2*v+1, 2*v, under, half, high)
		}
		// All nodes below one are told ahead of it, and those below its lower half ahead of those below its upper one.
		nodes[v] = node{v, above, beside, low, high, told}
		told++
	}
	grow(1, 0, nil, 0, 1<<depth-1)
	return nodes
}

// walked is one node of a tree that is too great to grow, by the value that its path goes to; steps: how far.
func walked(depth int, x int64, steps int) node {
	n := node{v: 1, low: 0, high: 1<<depth - 1}
	for range steps {
		n.above = append(n.above, n.v)
		half := n.low + (n.high-n.low+1)/2
		if x < half {
			n.v, n.beside, n.high = 2*n.v, 2*n.v+1, half-1
		} else {
			n.v, n.beside, n.low = 2*n.v+1, 2*n.v, half
		}
	}
	return n
}

// ahead: whether one is told ahead of another one, by the chapter's words.
func (n node) ahead(o node) bool {
	return n.high < o.high || n.high == o.high && len(n.above) > len(o.above)
}

// over: whether one lies above another one, or is it.
func (n node) over(o node) bool {
	for _, v := range o.above {
		if v == n.v {
			return true
		}
	}
	return n.v == o.v
}

// up: the last one above; 0: there is none.
func (n node) up() int {
	if len(n.above) == 0 {
		return 0
	}
	return n.above[len(n.above)-1]
}

func made(t *testing.T, depth int) tree.Tree {
	t.Helper()
	it, err := tree.New(depth)
	if err != api.OK {
		t.Fatalf("depth %d: %d", depth, err)
	}
	return it
}

// mustBe holds all calls of one node against what there is to tell of it.
func mustBe(t *testing.T, it tree.Tree, n node) {
	t.Helper()
	low, high := it.Range(n.v)
	if !it.Good(n.v) || it.Up(n.v) != n.up() || it.Beside(n.v) != n.beside || it.Level(n.v) != len(n.above) || low != n.low || high != n.high {
		t.Fatalf("depth %d, node %v: %t, up %d, beside %d, level %d, from %d to %d", it.Depth(), n, it.Good(n.v), it.Up(n.v), it.Beside(n.v), it.Level(n.v), low, high)
	}
	if v, ok := it.Leaf(low); low == high && (v != n.v || !ok) {
		t.Fatalf("depth %d, value %d: %d, %t", it.Depth(), low, v, ok)
	}
}

// mustStand holds two nodes against one another.
func mustStand(t *testing.T, it tree.Tree, n, o node) {
	t.Helper()
	if got, want := it.Before(n.v, o.v), n.ahead(o); got != want {
		t.Fatalf("depth %d, %v before %v: %t", it.Depth(), n, o, got)
	}
	if got, want := it.Above(n.v, o.v), n.over(o); got != want {
		t.Fatalf("depth %d, %v above %v: %t", it.Depth(), n, o, got)
	}
}

// mustNot holds that a number is no node: alone, and beside others that are, or are not.
func mustNot(t *testing.T, it tree.Tree, v int, others []int) {
	t.Helper()
	low, high := it.Range(v)
	if it.Good(v) || it.Up(v) != 0 || it.Beside(v) != 0 || it.Level(v) != -1 || low != 0 || high != 0 {
		t.Errorf("depth %d, no node %d: %t, up %d, beside %d, level %d, from %d to %d", it.Depth(), v, it.Good(v), it.Up(v), it.Beside(v), it.Level(v), low, high)
	}
	for _, w := range append([]int{v}, others...) {
		if it.Before(v, w) || it.Before(w, v) || it.Above(v, w) || it.Above(w, v) {
			t.Errorf("depth %d, no node %d, and %d: before %t, %t, above %t, %t", it.Depth(), v, w, it.Before(v, w), it.Before(w, v), it.Above(v, w), it.Above(w, v))
		}
	}
}

// strange are numbers that are no nodes of any tree.
func strange() []int {
	return []int{0, -1, -2, -3, -1 << 24, -1 << 25, -1<<25 - 1, 1 << 25, 1<<25 + 1, 1<<26 - 1, 1 << 31, 1<<32 + 1, 1<<32 + 2, 1 << 62, math.MaxInt, math.MaxInt - 1, math.MinInt, math.MinInt + 1, math.MinInt + 2}
}

// outside are values that have no node of any tree.
func outside() []int64 {
	return []int64{-1, -2, -5, -1 << 24, -1 << 31, -1 << 32, 1 << 24, 1<<24 + 1, 1 << 25, 1 << 31, 1 << 32, 1<<32 + 1, 1 << 62, math.MaxInt64, math.MinInt64, math.MinInt64 + 1}
}
