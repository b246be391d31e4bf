package tree_test

import (
	"math"
	"math/rand"
	"slices"
	"testing"

	"ogive/api"
	"ogive/tree"
)

// P16.1: the chapter's example: of depth 3, the value 5 has the node 13; above it lie 6, 3 and 1.
func TestExample(t *testing.T) {
	it := made(t, 3)
	v, ok := it.Leaf(5)
	if v != 13 || !ok {
		t.Fatalf("the value 5: %d, %t", v, ok)
	}
	var above []int
	for v = it.Up(v); v != 0; v = it.Up(v) {
		above = append(above, v)
	}
	if !slices.Equal(above, []int{6, 3, 1}) {
		t.Errorf("above 13: %v", above)
	}
	for v := 1; v < 16; v++ {
		if it.Above(v, 13) != slices.Contains([]int{13, 6, 3, 1}, v) {
			t.Errorf("%d above 13: %t", v, it.Above(v, 13))
		}
	}
}

// P16.1: New of each depth that can be: a tree over so many values.
func TestNew(t *testing.T) {
	for depth := 1; depth <= api.MaxDepth; depth++ {
		it := made(t, depth)
		if it.Depth() != depth || it.Leaves() != int(math.Pow(2, float64(depth))) {
			t.Errorf("depth %d: %d, %d values", depth, it.Depth(), it.Leaves())
		}
	}
}

// P16.1: New of a depth that can't be is ErrArg, and nothing beside it.
func TestNewBad(t *testing.T) {
	for _, depth := range []int{0, -1, -3, -24, 25, 26, 32, 63, 64, 65, 128, 256, 1 << 16, 1<<32 + 1, 1<<32 + 24, math.MaxInt, math.MinInt, math.MinInt + 1, math.MinInt + 24} {
		if it, err := tree.New(depth); it != (tree.Tree{}) || err != api.ErrArg {
			t.Errorf("depth %d: %v, %d", depth, it, err)
		}
	}
}

// P16.1: all nodes of a tree, by all calls of one.
func TestNodes(t *testing.T) {
	for depth := 1; depth <= 12; depth++ {
		it := made(t, depth)
		for _, n := range grown(depth)[1:] {
			mustBe(t, it, n)
		}
	}
}

// P16.1, P16.2: all nodes of a tree, each by each.
func TestTwo(t *testing.T) {
	for depth := 1; depth <= 8; depth++ {
		it := made(t, depth)
		nodes := grown(depth)[1:]
		for _, n := range nodes {
			for _, o := range nodes {
				mustStand(t, it, n, o)
			}
		}
	}
}

// P16.1, P16.2: nodes of all depths, those too that are too great to be gone through: the ones at the ends, and many others.
func TestDeep(t *testing.T) {
	random := rand.New(rand.NewSource(16))
	for depth := 1; depth <= api.MaxDepth; depth++ {
		it := made(t, depth)
		last := int64(1)<<depth - 1
		var nodes []node
		for _, x := range []int64{0, 1, last / 2, last/2 + 1, last - 1, last} {
			for steps := range depth + 1 {
				nodes = append(nodes, walked(depth, x, steps))
			}
		}
		for range 50 {
			nodes = append(nodes, walked(depth, random.Int63n(last+1), depth-random.Intn(min(depth, 4)+1)))
		}
		for _, n := range nodes {
			mustBe(t, it, n)
			for _, o := range nodes {
				mustStand(t, it, n, o)
			}
		}
	}
}

// P16.1: each value has a node, which goes back to it; those outside have none.
func TestLeaf(t *testing.T) {
	for depth := 1; depth <= api.MaxDepth; depth++ {
		it := made(t, depth)
		last := int64(it.Leaves()) - 1
		for x := int64(0); x <= last; x += 1 + last/1000 {
			mustLeaf(t, it, x)
		}
		mustLeaf(t, it, last)
		for _, x := range append(outside(), last+1, last+2, 2*last+1, 2*last+2, -last, -last-1, -last-2) {
			if v, ok := it.Leaf(x); v != 0 || ok {
				t.Errorf("depth %d, value %d: %d, %t", depth, x, v, ok)
			}
		}
	}
}

func mustLeaf(t *testing.T, it tree.Tree, x int64) {
	t.Helper()
	v, ok := it.Leaf(x)
	low, high := it.Range(v)
	if v != it.Leaves()+int(x) || !ok || low != x || high != x || it.Level(v) != it.Depth() {
		t.Fatalf("depth %d, value %d: %d, %t, from %d to %d, level %d", it.Depth(), x, v, ok, low, high, it.Level(v))
	}
}

// P16.1: what is no node has nothing, and lies neither ahead of another one nor above it.
func TestNoNode(t *testing.T) {
	for depth := 1; depth <= api.MaxDepth; depth++ {
		it := made(t, depth)
		past := 2 * it.Leaves()
		none := append(strange(), past, past+1, past+it.Leaves(), 2*past-1, 2*past, -past, 1-past)
		good := []int{1, 2, 3, it.Leaves() - 1, it.Leaves(), past - 2, past - 1}
		for _, v := range none {
			mustNot(t, it, v, append(good, none...))
		}
		for _, v := range []int{1, past - 1} {
			if !it.Good(v) {
				t.Errorf("depth %d: %d can't be", depth, v)
			}
		}
	}
}

// P16.1: a tree that New didn't make has no node, and nothing panics.
func TestEmpty(t *testing.T) {
	var it tree.Tree
	if it.Depth() != 0 || it.Leaves() != 0 {
		t.Errorf("depth %d, %d values", it.Depth(), it.Leaves())
	}
	for _, v := range append(strange(), 1, 2, 3) {
		mustNot(t, it, v, []int{1, 2})
	}
	for _, x := range append(outside(), 0, 1) {
		if v, ok := it.Leaf(x); v != 0 || ok {
			t.Errorf("value %d: %d, %t", x, v, ok)
		}
	}
}

// P16.1: a copy of a tree is as good, and of one depth all are the same.
func TestCopy(t *testing.T) {
	it := made(t, 5)
	other := it
	it = made(t, 6)
	if other != made(t, 5) || other == it {
		t.Errorf("copies: %v, %v", other, it)
	}
	for _, n := range grown(5)[1:] {
		mustBe(t, other, n)
	}
	for _, n := range grown(6)[1:] {
		mustBe(t, it, n)
	}
}

// P16.2: told by Before, nodes of all kinds are in order, whatever order they came in.
func TestOrder(t *testing.T) {
	random := rand.New(rand.NewSource(17))
	for depth := 1; depth <= 11; depth++ {
		it := made(t, depth)
		nodes := grown(depth)[1:]
		random.Shuffle(len(nodes), func(i, j int) { nodes[i], nodes[j] = nodes[j], nodes[i] })
		slices.SortFunc(nodes, func(n, o node) int {
			switch {
			case it.Before(n.v, o.v):
				return -1
			case it.Before(o.v, n.v):
				return 1
			}
			return 0
		})
		for i, n := range nodes {
			if n.told != i {
				t.Fatalf("depth %d: %v told as number %d", depth, n, i)
			}
		}
	}
}

// P16.2: of two nodes just one is told ahead, and none ahead of itself.
func TestOneAhead(t *testing.T) {
	it := made(t, 7)
	for v := 1; v < 256; v++ {
		for w := 1; w < 256; w++ {
			if first, second := it.Before(v, w), it.Before(w, v); first == second && v != w || first && v == w {
				t.Fatalf("%d, %d: %t, %t", v, w, first, second)
			}
		}
	}
}

// P16.2: of two nodes one lies above the other one, or no value lies below both.
func TestApart(t *testing.T) {
	it := made(t, 7)
	for v := 1; v < 256; v++ {
		for w := 1; w < 256; w++ {
			low, high := it.Range(v)
			otherLow, otherHigh := it.Range(w)
			apart := high < otherLow || otherHigh < low
			if apart == (it.Above(v, w) || it.Above(w, v)) {
				t.Fatalf("%d, %d: from %d to %d, and from %d to %d", v, w, low, high, otherLow, otherHigh)
			}
		}
	}
}
