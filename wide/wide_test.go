package wide_test

import (
	"math"
	"math/big"
	"math/rand"
	"slices"
	"testing"

	"ogive/api"
	"ogive/wide"
)

const top = math.MaxUint64

// edges are the numbers at which something changes: powers of two, and their neighbours.
func edges() []uint64 {
	list := []uint64{0, 1, 2, 3, 5, 7, 10, 1000, 1<<31 - 1, 1 << 31, 1<<32 - 1, 1 << 32, 1<<32 + 1}
	return append(list, 1<<62-1, 1<<62, 1<<62+1, 1<<63-1, 1<<63, 1<<63+1, top-2, top-1, top)
}

// mixed are the edges and numbers of all lengths, the same in every run.
func mixed() []uint64 {
	random := rand.New(rand.NewSource(1))
	list := edges()
	for len(list) < 48 {
		list = append(list, random.Uint64()>>random.Intn(64))
	}
	return list
}

// wides are all pairs of edges.
func wides() []api.Wide {
	var list []api.Wide
	for _, hi := range edges() {
		for _, lo := range edges() {
			list = append(list, api.Wide{Hi: hi, Lo: lo})
		}
	}
	return list
}

func small(a uint64) *big.Int {
	return new(big.Int).SetUint64(a)
}

func long(a api.Wide) *big.Int {
	n := new(big.Int).Lsh(small(a.Hi), 64)
	return n.Add(n, small(a.Lo))
}

// short is a number modulo 2^128.
func short(n *big.Int) api.Wide {
	size := new(big.Int).Lsh(big.NewInt(1), 128)
	low := new(big.Int).Mod(n, size)
	high := new(big.Int).Rsh(low, 64)
	low.And(low, small(top))
	return api.Wide{Hi: high.Uint64(), Lo: low.Uint64()}
}

// P1.1: Times.
func TestTimes(t *testing.T) {
	if got := wide.Times(top, top); got != (api.Wide{Hi: top - 1, Lo: 1}) {
		t.Errorf("the greatest numbers: %v", got)
	}
	for _, a := range mixed() {
		for _, b := range mixed() {
			want := short(new(big.Int).Mul(small(a), small(b)))
			if got := wide.Times(a, b); got != want {
				t.Fatalf("Times(%d, %d): %v, not %v", a, b, got, want)
			}
		}
	}
}

// P1.1: Compare.
func TestCompare(t *testing.T) {
	list := wides()
	for _, a := range list {
		for _, b := range list {
			if got, want := wide.Compare(a, b), long(a).Cmp(long(b)); got != want {
				t.Fatalf("Compare(%v, %v): %d, not %d", a, b, got, want)
			}
		}
	}
}

// P1.1: Add, of two.
func TestAddTwo(t *testing.T) {
	list := wides()
	for _, a := range list {
		for _, b := range list {
			sum := new(big.Int).Add(long(a), long(b))
			got, above := wide.Add(a, b)
			if got != short(sum) || above != (sum.BitLen() > 128) {
				t.Fatalf("Add(%v, %v): %v, %t", a, b, got, above)
			}
		}
	}
}

// P1.1: Add, of lists of any length; what was above the greatest number on the way stays told.
func TestAddLists(t *testing.T) {
	most := api.Wide{Hi: top, Lo: top}
	one := api.Wide{Lo: 1}
	cases := []struct {
		list  []api.Wide
		sum   api.Wide
		above bool
	}{
		{nil, api.Wide{}, false},
		{[]api.Wide{}, api.Wide{}, false},
		{[]api.Wide{most}, most, false},
		{[]api.Wide{one, one, one}, api.Wide{Lo: 3}, false},
		{[]api.Wide{{Lo: top}, one}, api.Wide{Hi: 1}, false},
		{[]api.Wide{{Hi: top}, {Lo: top}}, most, false},
		{[]api.Wide{{Hi: top, Lo: top - 1}, one}, most, false},
		{[]api.Wide{most, one}, api.Wide{}, true},
		{[]api.Wide{one, most}, api.Wide{}, true},
		{[]api.Wide{{Hi: 1 << 63}, {Hi: 1 << 63}}, api.Wide{}, true},
		{[]api.Wide{most, one, one}, one, true},
		{[]api.Wide{most, one, {}}, api.Wide{}, true},
		{[]api.Wide{most, most, most}, api.Wide{Hi: top, Lo: top - 2}, true},
	}
	for _, c := range cases {
		if sum, above := wide.Add(c.list...); sum != c.sum || above != c.above {
			t.Errorf("Add(%v): %v, %t, not %v, %t", c.list, sum, above, c.sum, c.above)
		}
	}
}

// P1.1: Sub.
func TestSub(t *testing.T) {
	if got, below := wide.Sub(api.Wide{}, api.Wide{Lo: 1}); got != (api.Wide{Hi: top, Lo: top}) || !below {
		t.Errorf("below 0: %v, %t", got, below)
	}
	list := wides()
	for _, a := range list {
		for _, b := range list {
			left := new(big.Int).Sub(long(a), long(b))
			got, below := wide.Sub(a, b)
			if got != short(left) || below != (left.Sign() < 0) {
				t.Fatalf("Sub(%v, %v): %v, %t", a, b, got, below)
			}
		}
	}
}

// divided is a quotient with no limit: rounded down, rounded up, and what is left.
func divided(a *big.Int, by uint64) (down, up, left *big.Int) {
	down, left = new(big.Int).QuoRem(a, small(by), new(big.Int))
	up = new(big.Int).Set(down)
	if left.Sign() > 0 {
		up.Add(up, big.NewInt(1))
	}
	return down, up, left
}

// whole is a number, and true; 0 and false, if it has more than 64 bits.
func whole(n *big.Int) (uint64, bool) {
	if !n.IsUint64() {
		return 0, false
	}
	return n.Uint64(), true
}

// P1.1: Over; by 0, and of more than 64 bits, it answers noughts and false.
func TestOver(t *testing.T) {
	for _, a := range wides() {
		if n, left, ok := wide.Over(a, 0); n != 0 || left != 0 || ok {
			t.Fatalf("Over(%v, 0): %d, %d, %t", a, n, left, ok)
		}
		for _, by := range mixed()[1:] {
			down, _, rest := divided(long(a), by)
			want, can := whole(down)
			if !can {
				rest = new(big.Int)
			}
			n, left, ok := wide.Over(a, by)
			if n != want || left != rest.Uint64() || ok != can {
				t.Fatalf("Over(%v, %d): %d, %d, %t", a, by, n, left, ok)
			}
		}
	}
}

// P1.1: Over, just where 64 bits are too few.
func TestOverEdge(t *testing.T) {
	for _, by := range mixed()[1:] {
		if n, left, ok := wide.Over(api.Wide{Hi: by - 1, Lo: top}, by); n != top || left != by-1 || !ok {
			t.Errorf("the greatest one by %d: %d, %d, %t", by, n, left, ok)
		}
		if n, left, ok := wide.Over(api.Wide{Hi: by}, by); n != 0 || left != 0 || ok {
			t.Errorf("one more by %d: %d, %d, %t", by, n, left, ok)
		}
	}
}

// P1.1: Floor and Ceil; by 0, and of more than 64 bits, they answer 0 and false.
func TestFloorCeil(t *testing.T) {
	list := mixed()
	for _, a := range list {
		for _, b := range list {
			for _, by := range list {
				var down, up uint64
				var lets, letsUp bool
				if by != 0 {
					low, high, _ := divided(new(big.Int).Mul(small(a), small(b)), by)
					down, lets = whole(low)
					up, letsUp = whole(high)
				}
				if n, ok := wide.Floor(a, b, by); n != down || ok != lets {
					t.Fatalf("Floor(%d, %d, %d): %d, %t, not %d, %t", a, b, by, n, ok, down, lets)
				}
				if n, ok := wide.Ceil(a, b, by); n != up || ok != letsUp {
					t.Fatalf("Ceil(%d, %d, %d): %d, %t, not %d, %t", a, b, by, n, ok, up, letsUp)
				}
			}
		}
	}
}

// P1.1: Ceil, at its example, and where Floor just has room, and 1 more hasn't.
func TestCeilEdge(t *testing.T) {
	if n, ok := wide.Ceil(7, 1, 2); n != 4 || !ok {
		t.Errorf("Ceil(7, 1, 2): %d, %t", n, ok)
	}
	if n, ok := wide.Floor(top-1, top-1, top-2); n != top || !ok {
		t.Errorf("Floor: %d, %t", n, ok)
	}
	if n, ok := wide.Ceil(top-1, top-1, top-2); n != 0 || ok {
		t.Errorf("Ceil: %d, %t", n, ok)
	}
	if n, ok := wide.Ceil(top, top, top); n != top || !ok {
		t.Errorf("Ceil, nothing left: %d, %t", n, ok)
	}
}

// lessBig is Less, by numbers without a limit.
func lessBig(a, b api.Ratio) bool {
	if a.Den == 0 {
		return false
	}
	if b.Den == 0 {
		return true
	}
	x := new(big.Int).Mul(small(a.Num), small(b.Den))
	y := new(big.Int).Mul(small(b.Num), small(a.Den))
	return x.Cmp(y) < 0
}

// P1.1: Less, of all pairs of fractions of edges, noughts too.
func TestLess(t *testing.T) {
	var list []api.Ratio
	for _, num := range edges() {
		for _, den := range edges() {
			list = append(list, api.Ratio{Num: num, Den: den})
		}
	}
	for _, a := range list {
		for _, b := range list {
			if got, want := wide.Less(a, b), lessBig(a, b); got != want {
				t.Fatalf("Less(%v, %v): %t, not %t", a, b, got, want)
			}
		}
	}
}

// P1.1: Less, at the edges by name.
func TestLessEdge(t *testing.T) {
	cases := []struct {
		a, b api.Ratio
		less bool
	}{
		{api.Ratio{Num: 1, Den: 3}, api.Ratio{Num: 2, Den: 5}, true},
		{api.Ratio{Num: 2, Den: 5}, api.Ratio{Num: 1, Den: 3}, false},
		{api.Ratio{Num: 1, Den: 2}, api.Ratio{Num: 2, Den: 4}, false},
		{api.Ratio{Den: 1}, api.Ratio{Den: 2}, false},
		{api.Ratio{Num: top - 1, Den: top}, api.Ratio{Num: top, Den: top}, true},
		{api.Ratio{Num: top - 2, Den: top - 1}, api.Ratio{Num: top - 1, Den: top}, true},
		{api.Ratio{Num: top, Den: 1}, api.Ratio{Num: 1}, true},
		{api.Ratio{Num: top, Den: 1}, api.Ratio{}, true},
		{api.Ratio{Den: 1}, api.Ratio{}, true},
		{api.Ratio{}, api.Ratio{Num: top, Den: 1}, false},
		{api.Ratio{Num: 1}, api.Ratio{Num: top, Den: 1}, false},
		{api.Ratio{Num: 1}, api.Ratio{Num: 2}, false},
		{api.Ratio{}, api.Ratio{Num: 1}, false},
		{api.Ratio{}, api.Ratio{}, false},
	}
	for _, c := range cases {
		if got := wide.Less(c.a, c.b); got != c.less {
			t.Errorf("Less(%v, %v): %t", c.a, c.b, got)
		}
	}
}

// P1.1: Log; of 0 it answers -1 and false.
func TestLog(t *testing.T) {
	if n, ok := wide.Log(0); n != -1 || ok {
		t.Errorf("Log(0): %d, %t", n, ok)
	}
	for power := range 64 {
		least := uint64(1) << power
		greatest := least - 1 + least
		for _, a := range []uint64{least, greatest, least + (greatest-least)/2} {
			if n, ok := wide.Log(a); n != power || !ok {
				t.Errorf("Log(%d): %d, %t, not %d", a, n, ok, power)
			}
		}
	}
}

// P1.1: Plus, of no, one and many counts, up to MaxCount, and beyond it.
func TestPlus(t *testing.T) {
	cases := []struct {
		list []uint64
		sum  uint64
		ok   bool
	}{
		{nil, 0, true},
		{[]uint64{}, 0, true},
		{[]uint64{0, 0}, 0, true},
		{[]uint64{1, 2, 3, 4}, 10, true},
		{[]uint64{api.MaxCount}, api.MaxCount, true},
		{[]uint64{api.MaxCount, 0}, api.MaxCount, true},
		{[]uint64{1, api.MaxCount - 1}, api.MaxCount, true},
		{[]uint64{1 << 62, 1<<62 - 1}, api.MaxCount, true},
		{[]uint64{api.MaxCount, 1}, 0, false},
		{[]uint64{1, api.MaxCount}, 0, false},
		{[]uint64{1 << 62, 1 << 62}, 0, false},
		{[]uint64{api.MaxCount + 1}, 0, false},
		{[]uint64{top}, 0, false},
		{[]uint64{1, top}, 0, false},
		{[]uint64{5, top - 3}, 0, false},
		{[]uint64{api.MaxCount, api.MaxCount, 2}, 0, false},
		{[]uint64{api.MaxCount, 1, top}, 0, false},
		{[]uint64{1 << 63, 1 << 63, 7}, 0, false},
	}
	for _, c := range cases {
		if sum, ok := wide.Plus(c.list...); sum != c.sum || ok != c.ok {
			t.Errorf("Plus(%v): %d, %t, not %d, %t", c.list, sum, ok, c.sum, c.ok)
		}
	}
}

// P1.1: Plus, of three of all numbers.
func TestPlusAll(t *testing.T) {
	list := mixed()
	for _, a := range list {
		for _, b := range list {
			for _, c := range list {
				n := new(big.Int).Add(small(a), small(b))
				n.Add(n, small(c))
				want, can := n.Uint64(), n.IsUint64() && n.Uint64() <= api.MaxCount
				if !can {
					want = 0
				}
				if sum, ok := wide.Plus(a, b, c); sum != want || ok != can {
					t.Fatalf("Plus(%d, %d, %d): %d, %t, not %d, %t", a, b, c, sum, ok, want, can)
				}
			}
		}
	}
}

// P1.1: lists that are handed in stay as they were, spare room included.
func TestListsStay(t *testing.T) {
	room := []api.Wide{{Hi: top, Lo: top}, {Lo: 1}, {Hi: 7, Lo: 7}}
	was := slices.Clone(room)
	wide.Add(room[:2]...)
	if !slices.Equal(room, was) {
		t.Errorf("Add changed its list: %v", room)
	}
	counts := []uint64{api.MaxCount, 1, 7}
	had := slices.Clone(counts)
	wide.Plus(counts[:2]...)
	if !slices.Equal(counts, had) {
		t.Errorf("Plus changed its list: %v", counts)
	}
}

// P1.2: Ceil is Floor, or 1 more, just if something is left.
func TestCeilByFloor(t *testing.T) {
	list := mixed()
	for _, a := range list {
		for _, b := range list {
			for _, by := range list {
				down, ok := wide.Floor(a, b, by)
				up, okUp := wide.Ceil(a, b, by)
				if okUp && !ok || okUp && up != down && up != down+1 {
					t.Fatalf("Floor and Ceil of %d, %d, %d: %d, %t, %d, %t", a, b, by, down, ok, up, okUp)
				}
				if _, left, _ := wide.Over(wide.Times(a, b), by); okUp && (left != 0) != (up != down) {
					t.Fatalf("Floor and Ceil of %d, %d, %d: %d, %d, left %d", a, b, by, down, up, left)
				}
				if ok && !okUp && down != top {
					t.Fatalf("Ceil of %d, %d, %d: nothing, Floor %d", a, b, by, down)
				}
			}
		}
	}
}

// P1.2: what is divided, and multiplied again, with what is left, is as it was; less is left than was divided by.
func TestDividedAndBack(t *testing.T) {
	for _, a := range wides() {
		for _, by := range mixed() {
			n, left, ok := wide.Over(a, by)
			if ok != (a.Hi < by) {
				t.Fatalf("Over(%v, %d): %t", a, by, ok)
			}
			if !ok {
				continue
			}
			back, above := wide.Add(wide.Times(n, by), api.Wide{Lo: left})
			if back != a || above || left >= by {
				t.Fatalf("Over(%v, %d): %d, %d: back %v, %t", a, by, n, left, back, above)
			}
		}
	}
}
