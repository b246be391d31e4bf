package sign_test

import (
	"math"
	"math/big"
	"math/rand"
	"testing"

	"ogive/api"
	"ogive/sign"
)

const (
	top   = math.MaxUint64
	least = math.MinInt64
	great = math.MaxInt64
)

// values are those at which something changes, and others of all lengths, the same in every run.
func values() []int64 {
	list := []int64{0, 1, -1, 2, -2, 3, -3, 100, -100, 1<<31 - 1, 1 << 31, -1 << 31, 1<<32 + 1, -1<<32 - 1}
	list = append(list, 1<<62-1, 1<<62, 1<<62+1, -1<<62+1, -1<<62, -1<<62-1)
	list = append(list, great-1, great, least, least+1, least+2)
	random := rand.New(rand.NewSource(2))
	for len(list) < 80 {
		list = append(list, int64(random.Uint64())>>random.Intn(64))
	}
	return list
}

// numbers are those without a sign at which something changes, and others of all lengths, the same in every run.
func numbers() []uint64 {
	list := []uint64{0, 1, 2, 3, 4, 5, 100, 1<<32 - 1, 1 << 32, 1<<32 + 1, 1<<62 - 1, 1 << 62, 1<<62 + 1}
	list = append(list, 1<<63-2, 1<<63-1, 1<<63, 1<<63+1, 1<<63+2, top-2, top-1, top)
	random := rand.New(rand.NewSource(3))
	for len(list) < 80 {
		list = append(list, random.Uint64()>>random.Intn(64))
	}
	return list
}

func small(u uint64) *big.Int {
	return new(big.Int).SetUint64(u)
}

// gap is how far two values are from one another, by numbers without a limit.
func gap(a, b int64) *big.Int {
	n := new(big.Int).Sub(big.NewInt(a), big.NewInt(b))
	return n.Abs(n)
}

// P2.1: the greatest magnitude is that of the least value.
func TestMost(t *testing.T) {
	var most uint64 = sign.Most
	if most != 1<<63 {
		t.Errorf("Most: %d", most)
	}
	if m, below := sign.Of(least); m != sign.Most || !below {
		t.Errorf("Of the least value: %d, %t", m, below)
	}
}

// P2.1: Of.
func TestOf(t *testing.T) {
	if m, below := sign.Of(0); m != 0 || below {
		t.Errorf("Of(0): %d, %t", m, below)
	}
	for _, x := range values() {
		m, below := sign.Of(x)
		if small(m).Cmp(gap(x, 0)) != 0 || below != (x < 0) {
			t.Errorf("Of(%d): %d, %t", x, m, below)
		}
	}
}

// P2.1: Value, at the edges by name.
func TestValueEdge(t *testing.T) {
	cases := []struct {
		m     uint64
		below bool
		x     int64
		ok    bool
	}{
		{0, false, 0, true},
		{0, true, 0, true},
		{1, false, 1, true},
		{1, true, -1, true},
		{1<<63 - 1, false, great, true},
		{1<<63 - 1, true, least + 1, true},
		{1 << 63, false, 0, false},
		{1 << 63, true, least, true},
		{1<<63 + 1, false, 0, false},
		{1<<63 + 1, true, 0, false},
		{top, false, 0, false},
		{top, true, 0, false},
	}
	for _, c := range cases {
		if x, ok := sign.Value(c.m, c.below); x != c.x || ok != c.ok {
			t.Errorf("Value(%d, %t): %d, %t, not %d, %t", c.m, c.below, x, ok, c.x, c.ok)
		}
	}
}

// P2.1: Value, of all magnitudes; where there is none it answers 0 and false.
func TestValue(t *testing.T) {
	for _, m := range numbers() {
		for _, below := range []bool{false, true} {
			want := small(m)
			if below {
				want.Neg(want)
			}
			can := want.IsInt64()
			if !can {
				want.SetInt64(0)
			}
			if x, ok := sign.Value(m, below); x != want.Int64() || ok != can {
				t.Errorf("Value(%d, %t): %d, %t, not %v, %t", m, below, x, ok, want, can)
			}
		}
	}
}

// P2.1: Gap, at its example and at others of which the difference has no room with a sign.
func TestGapEdge(t *testing.T) {
	cases := []struct {
		a, b int64
		far  uint64
	}{
		{least, great, top},
		{least, 0, 1 << 63},
		{least, -1, 1<<63 - 1},
		{least, least, 0},
		{great, great, 0},
		{great, 0, 1<<63 - 1},
		{great, -1, 1 << 63},
		{great, -2, 1<<63 + 1},
		{-3, 4, 7},
		{3, 4, 1},
		{-3, -4, 1},
	}
	for _, c := range cases {
		if n := sign.Gap(c.a, c.b); n != c.far {
			t.Errorf("Gap(%d, %d): %d, not %d", c.a, c.b, n, c.far)
		}
		if n := sign.Gap(c.b, c.a); n != c.far {
			t.Errorf("Gap(%d, %d): %d, not %d", c.b, c.a, n, c.far)
		}
	}
}

// P2.1: Gap, of all pairs.
func TestGap(t *testing.T) {
	for _, a := range values() {
		for _, b := range values() {
			if n := sign.Gap(a, b); small(n).Cmp(gap(a, b)) != 0 {
				t.Fatalf("Gap(%d, %d): %d, not %v", a, b, n, gap(a, b))
			}
		}
	}
}

// P2.1: Zig and Zag, at the edges by name.
func TestZigEdge(t *testing.T) {
	cases := []struct {
		x int64
		u uint64
	}{
		{0, 0},
		{-1, 1},
		{1, 2},
		{-2, 3},
		{2, 4},
		{great, top - 1},
		{least, top},
		{least + 1, top - 2},
	}
	for _, c := range cases {
		if u := sign.Zig(c.x); u != c.u {
			t.Errorf("Zig(%d): %d, not %d", c.x, u, c.u)
		}
		if x := sign.Zag(c.u); x != c.x {
			t.Errorf("Zag(%d): %d, not %d", c.u, x, c.x)
		}
	}
}

// P2.1: Zig, of all values: 2 x from 0 on, -2 x - 1 below 0.
func TestZig(t *testing.T) {
	for _, x := range values() {
		want := new(big.Int).Mul(big.NewInt(x), big.NewInt(2))
		if x < 0 {
			want.Neg(want)
			want.Sub(want, big.NewInt(1))
		}
		if u := sign.Zig(x); small(u).Cmp(want) != 0 {
			t.Errorf("Zig(%d): %d, not %v", x, u, want)
		}
	}
}

// P2.1: Key and Back, at the edges by name.
func TestKeyEdge(t *testing.T) {
	cases := []struct {
		x int64
		u uint64
	}{
		{least, 0},
		{least + 1, 1},
		{-1, 1<<63 - 1},
		{0, 1 << 63},
		{1, 1<<63 + 1},
		{great, top},
	}
	for _, c := range cases {
		if u := sign.Key(c.x); u != c.u {
			t.Errorf("Key(%d): %d, not %d", c.x, u, c.u)
		}
		if x := sign.Back(c.u); x != c.x {
			t.Errorf("Back(%d): %d, not %d", c.u, x, c.x)
		}
	}
}

// P2.1: Key, of all values: 2^63 more.
func TestKey(t *testing.T) {
	for _, x := range values() {
		want := new(big.Int).Add(big.NewInt(x), small(sign.Most))
		if u := sign.Key(x); small(u).Cmp(want) != 0 {
			t.Errorf("Key(%d): %d, not %v", x, u, want)
		}
	}
}

// P2.1: Within, at the edges by name: the magnitude is that of the second value.
func TestWithinEdge(t *testing.T) {
	tenth := api.Ratio{Num: 1, Den: 10}
	cases := []struct {
		r, x int64
		a    api.Ratio
		in   bool
	}{
		{90, 100, tenth, true},
		{110, 100, tenth, true},
		{89, 100, tenth, false},
		{111, 100, tenth, false},
		{100, 90, tenth, false},
		{100, 110, tenth, true},
		{-90, -100, tenth, true},
		{-110, -100, tenth, true},
		{-89, -100, tenth, false},
		{-111, -100, tenth, false},
		{100, -100, tenth, false},
		{-100, 100, api.Ratio{Num: 2, Den: 1}, true},
		{-101, 100, api.Ratio{Num: 2, Den: 1}, false},
		{0, 0, tenth, true},
		{1, 0, api.Ratio{Num: top, Den: 1}, false},
		{5, 5, api.Ratio{Den: 1}, true},
		{5, 6, api.Ratio{Den: top}, false},
		{0, 7, api.Ratio{Num: 1, Den: 1}, true},
		{5, 0, api.Ratio{}, true},
		{least, great, api.Ratio{Num: 1}, true},
		{great, least, api.Ratio{Num: top, Den: 1 << 63}, true},
		{great, least, api.Ratio{Num: top - 1, Den: 1 << 63}, false},
		{great, least, api.Ratio{Num: top, Den: 1<<63 + 1}, false},
		{0, least, api.Ratio{Num: top, Den: top}, true},
		{0, least, api.Ratio{Num: top - 1, Den: top}, false},
		{least, great, api.Ratio{Num: top, Den: 1 << 63}, false},
	}
	for _, c := range cases {
		if in := sign.Within(c.r, c.x, c.a); in != c.in {
			t.Errorf("Within(%d, %d, %v): %t", c.r, c.x, c.a, in)
		}
	}
}

// fractions are those of edges, also such as no part of a whole can be.
func fractions() []api.Ratio {
	edges := []uint64{0, 1, 2, 3, 10, 1<<32 + 1, 1<<63 - 1, 1 << 63, top - 1, top}
	var list []api.Ratio
	for _, num := range edges {
		for _, den := range edges {
			list = append(list, api.Ratio{Num: num, Den: den})
		}
	}
	return list
}

// P2.1: Within, of all pairs and fractions.
func TestWithin(t *testing.T) {
	for _, r := range values() {
		for _, x := range values() {
			for _, a := range fractions() {
				far := new(big.Int).Mul(gap(r, x), small(a.Den))
				most := new(big.Int).Mul(gap(x, 0), small(a.Num))
				if in, want := sign.Within(r, x, a), far.Cmp(most) <= 0; in != want {
					t.Fatalf("Within(%d, %d, %v): %t, not %t", r, x, a, in, want)
				}
			}
		}
	}
}

// P2.2: of every value there is a way, and back.
func TestWaysOfValues(t *testing.T) {
	for _, x := range values() {
		if back, ok := sign.Value(sign.Of(x)); back != x || !ok {
			t.Errorf("Of and Value of %d: %d, %t", x, back, ok)
		}
		if back := sign.Zag(sign.Zig(x)); back != x {
			t.Errorf("Zig and Zag of %d: %d", x, back)
		}
		if back := sign.Back(sign.Key(x)); back != x {
			t.Errorf("Key and Back of %d: %d", x, back)
		}
	}
}

// P2.2: of every number without a sign, too; of a magnitude where it has a value.
func TestWaysOfNumbers(t *testing.T) {
	for _, u := range numbers() {
		if back := sign.Zig(sign.Zag(u)); back != u {
			t.Errorf("Zag and Zig of %d: %d", u, back)
		}
		if back := sign.Key(sign.Back(u)); back != u {
			t.Errorf("Back and Key of %d: %d", u, back)
		}
		for _, below := range []bool{false, true} {
			x, ok := sign.Value(u, below)
			if !ok {
				continue
			}
			// 0 is not below 0, however it is asked for.
			if m, under := sign.Of(x); m != u || under != (below && u != 0) {
				t.Errorf("Value and Of of %d, %t: %d, %t", u, below, m, under)
			}
		}
	}
}

// P2.2: Key keeps the order.
func TestKeyOrder(t *testing.T) {
	for _, a := range values() {
		for _, b := range values() {
			x, y := sign.Key(a), sign.Key(b)
			if (a < b) != (x < y) || (a == b) != (x == y) {
				t.Fatalf("Key of %d, %d: %d, %d", a, b, x, y)
			}
		}
	}
}
