package digest_test

import (
	"math"
	"math/rand"
	"slices"
	"testing"

	"ogive/api"
	"ogive/digest"
)

// P17.1: the chapter's example, put by put: squeezed at the fifth one, and then not again.
func TestExample(t *testing.T) {
	d := made(t, config(3, 1))
	for x, want := range [][]api.Pair{
		{{Index: 8, Count: 1}},
		{{Index: 8, Count: 1}, {Index: 9, Count: 1}},
		{{Index: 8, Count: 1}, {Index: 9, Count: 1}, {Index: 10, Count: 1}},
		{{Index: 8, Count: 1}, {Index: 9, Count: 1}, {Index: 10, Count: 1}, {Index: 11, Count: 1}},
		{{Index: 1, Count: 5}},
		{{Index: 1, Count: 5}, {Index: 13, Count: 1}},
		{{Index: 1, Count: 5}, {Index: 13, Count: 1}, {Index: 14, Count: 1}},
		{{Index: 1, Count: 5}, {Index: 13, Count: 1}, {Index: 14, Count: 1}, {Index: 15, Count: 1}},
	} {
		mustPut(t, d, often{int64(x), 1})
		if !slices.Equal(d.Nodes(), want) {
			t.Errorf("Nodes behind %d: %v, not %v", x, d.Nodes(), want)
		}
	}
	// 13, 14 and 15 are told ahead of 1, since they lie deeper or have lower values.
	for place, want := range []int64{5, 6, 7, 7, 7, 7, 7, 7} {
		if x, err := d.Quantile(api.Ratio{Num: uint64(place + 1), Den: 8}); x != want || err != api.OK {
			t.Errorf("place %d: %d, %d, not %d", place+1, x, err, want)
		}
	}
	for x, want := range map[int64][2]uint64{-1: {0, 0}, 0: {0, 5}, 4: {0, 5}, 5: {1, 6}, 6: {2, 7}, 7: {8, 8}, 8: {8, 8}} {
		if low, high := d.Rank(x); low != want[0] || high != want[1] {
			t.Errorf("Rank of %d: %d, %d, not %v", x, low, high, want)
		}
	}
	if low, high, some := d.Ends(); low != 0 || high != 7 || !some {
		t.Errorf("Ends: %d, %d, %t", low, high, some)
	}
}

// P17.2: the document's example: the half of 1 to 1000, by depth 10 and factor 64, is from 500 to 650, in whatever order they come.
func TestHalf(t *testing.T) {
	random := rand.New(rand.NewSource(171))
	for range 20 {
		d, m := made(t, config(10, 64)), modelOf(config(10, 64))
		for _, i := range random.Perm(1000) {
			mustPut(t, d, often{int64(i) + 1, 1})
			m.put(int64(i)+1, 1)
		}
		if x, err := d.Quantile(api.Ratio{Num: 1, Den: 2}); err != api.OK || x < 500 || x > 650 {
			t.Errorf("a half: %d, %d", x, err)
		}
		mustTell(t, d, m)
		mustRank(t, d, m)
	}
}

// P17.1: New of all configs that can be: an empty digest.
func TestNew(t *testing.T) {
	for depth := 1; depth <= api.MaxDepth; depth++ {
		for factor := 1; factor <= api.MaxFactor; factor++ {
			mustHold(t, made(t, config(depth, factor)), modelOf(config(depth, factor)))
		}
	}
}

// wrong are configs that can't be.
func wrong() []digest.Config {
	return []digest.Config{
		{}, config(0, 1), config(1, 0), config(-1, 1), config(1, -1), config(25, 1), config(24, 65), config(25, 65), config(3, 65), config(64, 24), config(3, 128),
		config(math.MaxInt, 1), config(math.MinInt, 1), config(3, math.MaxInt), config(3, math.MinInt), config(1<<32+3, 1), config(3, 1<<32+1), config(3, 1<<62), config(3, 1<<62+1), config(math.MinInt+3, 1), config(3, math.MinInt+1),
	}
}

// P17.1: New of what can't be is ErrArg, and nothing beside it; so is Load.
func TestNewBad(t *testing.T) {
	for _, c := range wrong() {
		if d, err := digest.New(c); d != nil || err != api.ErrArg {
			t.Errorf("New of %v: %v, %d", c, d, err)
		}
		for _, row := range [][]api.Pair{nil, {{Index: 8, Count: 1}}, {{Index: 1, Count: 0}}} {
			if d, err := digest.Load(c, row, 0, 0); d != nil || err != api.ErrArg {
				t.Errorf("Load of %v, %v: %v, %d", c, row, d, err)
			}
		}
	}
}

// P17.1: a nil digest has nothing, does nothing, and ErrNil stands ahead of all other errors.
func TestNil(t *testing.T) {
	var none *digest.Digest
	o := filled(t, config(3, 1), often{7, count})
	for _, x := range []int64{least, -1, 0, 1, 7, 8, greatest} {
		for _, n := range []uint64{0, 1, count, count + 1, math.MaxUint64} {
			if err := none.Put(x, n); err != api.ErrNil {
				t.Errorf("Put of %d, %d: %d", x, n, err)
			}
		}
		if low, high := none.Rank(x); low != 0 || high != 0 {
			t.Errorf("Rank of %d: %d, %d", x, low, high)
		}
	}
	for _, p := range []api.Ratio{{}, {Num: 1, Den: 2}, {Num: 3, Den: 2}, {Num: 1, Den: 1}} {
		if x, err := none.Quantile(p); x != 0 || err != api.ErrNil {
			t.Errorf("Quantile of %v: %d, %d", p, x, err)
		}
	}
	for _, err := range []api.Errno{none.Join(none), none.Join(nil), none.Join(o), o.Join(none), o.Join(nil)} {
		if err != api.ErrNil {
			t.Errorf("Join: %d", err)
		}
	}
	low, high, some := none.Ends()
	if none.Total() != 0 || none.Most() != 0 || len(none.Nodes()) != 0 || none.Config() != (digest.Config{}) || low != 0 || high != 0 || some {
		t.Error("a nil digest has something")
	}
	mustHold(t, o, modelOf(config(3, 1), often{7, count}))
}

// P17.1: by hand: nodes of all levels, told by their greatest values, of the same the deeper one first.
func TestByHand(t *testing.T) {
	c := config(3, 2)
	row := []api.Pair{{Index: 1, Count: 3}, {Index: 2, Count: 4}, {Index: 3, Count: 5}, {Index: 5, Count: 6}, {Index: 6, Count: 7}, {Index: 8, Count: 8}, {Index: 11, Count: 9}, {Index: 15, Count: 10}}
	d := loaded(t, c, row, 0, 7)
	place := uint64(0)
	for _, x := range []struct {
		n    uint64
		want int64
	}{{8, 0}, {9, 3}, {6, 3}, {4, 3}, {7, 5}, {10, 7}, {5, 7}, {3, 7}} {
		for range x.n {
			place++
			for _, p := range []api.Ratio{{Num: place, Den: 52}, {Num: place*10 - 9, Den: 520}, {Num: place * 3, Den: 156}} {
				if got, err := d.Quantile(p); got != x.want || err != api.OK {
					t.Errorf("place %d by %v: %d, %d, not %d", place, p, got, err, x.want)
				}
			}
		}
	}
	for x, want := range [][2]uint64{{8, 15}, {8, 15}, {8, 21}, {27, 30}, {27, 42}, {34, 42}, {34, 42}, {52, 52}} {
		if low, high := d.Rank(int64(x)); low != want[0] || high != want[1] {
			t.Errorf("Rank of %d: %d, %d, not %v", x, low, high, want)
		}
	}
	mustHold(t, d, modelOfRow(c, row, 0, 7))
}

// P17.1: squeezed by hand: what goes up, in which order, and what waits.
func TestSqueezeByHand(t *testing.T) {
	type rows = []api.Pair
	eight := func(root uint64) rows {
		return rows{{Index: 1, Count: root}, {Index: 8, Count: 1}, {Index: 9, Count: 1}, {Index: 10, Count: 1}, {Index: 11, Count: 1}, {Index: 12, Count: 1}, {Index: 13, Count: 1}, {Index: 14, Count: 1}}
	}
	for i, x := range []struct {
		row  rows
		last uint64
		want rows
	}{
		// Of 10 values 5 may go up together, of 11 too, of 15 just 7; all together are too many for the one above all.
		{eight(2), 1, rows{{Index: 1, Count: 2}, {Index: 2, Count: 4}, {Index: 3, Count: 4}}},
		{eight(2), 2, rows{{Index: 1, Count: 2}, {Index: 2, Count: 4}, {Index: 3, Count: 5}}},
		{eight(4), 4, rows{{Index: 1, Count: 4}, {Index: 2, Count: 4}, {Index: 3, Count: 7}}},
		// Of 17 values 8 may: 9 lie below 3, and stay there, and 8 go up to 1, counted with those that it has.
		{eight(4), 6, rows{{Index: 1, Count: 8}, {Index: 6, Count: 2}, {Index: 7, Count: 7}}},
		{eight(4), 8, rows{{Index: 1, Count: 8}, {Index: 6, Count: 2}, {Index: 7, Count: 9}}},
		// A value that has too many of its own stays, and the one beside it.
		{eight(7), 60, rows{{Index: 1, Count: 13}, {Index: 14, Count: 1}, {Index: 15, Count: 60}}},
		// 4 and 5 get their first counts on the way, and wait; so 2 goes up without them.
		{rows{{Index: 1, Count: 2}, {Index: 2, Count: 1}, {Index: 8, Count: 2}, {Index: 9, Count: 2}, {Index: 10, Count: 1}, {Index: 12, Count: 2}, {Index: 13, Count: 2}, {Index: 14, Count: 2}}, 2, rows{{Index: 1, Count: 3}, {Index: 2, Count: 5}, {Index: 3, Count: 8}}},
		// 4 has counts from the beginning on, and so goes up ahead of 2, with what 5 got on the way.
		{rows{{Index: 1, Count: 2}, {Index: 2, Count: 1}, {Index: 4, Count: 4}, {Index: 10, Count: 1}, {Index: 11, Count: 1}, {Index: 12, Count: 2}, {Index: 13, Count: 2}, {Index: 14, Count: 2}}, 2, rows{{Index: 1, Count: 2}, {Index: 2, Count: 7}, {Index: 3, Count: 8}}},
	} {
		d := loaded(t, config(3, 2), x.row, 0, 6)
		mustPut(t, d, often{7, x.last})
		if !slices.Equal(d.Nodes(), x.want) {
			t.Errorf("%d: %v, not %v", i, d.Nodes(), x.want)
		}
		m := modelOfRow(config(3, 2), x.row, 0, 6)
		m.put(7, x.last)
		mustHold(t, d, m)
	}
}

// P17.1: as many nodes as may be aren't squeezed, whatever could go up; 1 more is.
func TestMost(t *testing.T) {
	for _, factor := range []int{1, 2, 7, 63, 64} {
		c := config(12, factor)
		d, m := made(t, c), modelOf(c)
		for i := range 4 * factor {
			mustPut(t, d, often{int64(i), 1})
			m.put(int64(i), 1)
		}
		mustPut(t, d, often{0, 1000})
		m.put(0, 1000)
		if len(d.Nodes()) != d.Most() || d.Nodes()[0] != (api.Pair{Index: 4096, Count: 1001}) {
			t.Fatalf("%v: %v", c, d.Nodes())
		}
		mustHold(t, d, m)
		mustPut(t, d, often{4095, 1})
		m.put(4095, 1)
		if len(d.Nodes()) >= d.Most() {
			t.Fatalf("%v: %d nodes", c, len(d.Nodes()))
		}
		mustHold(t, d, m)
	}
}

// P17.1, P17.2: whatever is put, in whatever order, behind each Put.
func TestPuts(t *testing.T) {
	random := rand.New(rand.NewSource(172))
	for _, c := range configs() {
		for range 2 {
			d, m := made(t, c), modelOf(c)
			for i := range 6 + 12*c.Factor {
				o := often{value(random, c), 1 + random.Uint64()>>(12+random.Intn(52))}
				mustPut(t, d, o)
				m.put(o.x, o.n)
				mustTell(t, d, m)
				if i%(5*c.Factor) == 0 {
					mustHold(t, d, m)
				}
			}
			mustHold(t, d, m)
		}
	}
}

// P17.1: all digests of depth 3 and factor 1 that some puts come to.
func TestFew(t *testing.T) {
	c := config(3, 1)
	for code := range 8 * 8 * 8 * 8 * 8 * 8 {
		d, m := made(t, c), modelOf(c)
		for i := range 6 {
			o := often{int64(code >> (3 * i) & 7), uint64(1 + i%2)}
			mustPut(t, d, o)
			m.put(o.x, o.n)
		}
		low, high, _ := d.Ends()
		if !slices.Equal(d.Nodes(), m.row()) || low != m.low || high != m.high {
			t.Fatalf("%o: %v, %d to %d, not %v, %d to %d", code, d.Nodes(), low, high, m.row(), m.low, m.high)
		}
	}
}

// P17.1: nodes that lie anywhere, and a value more.
func TestSqueeze(t *testing.T) {
	random := rand.New(rand.NewSource(173))
	for range 20000 {
		c := config(3+random.Intn(3), 1+random.Intn(4))
		row := anyRow(random, c, 4*c.Factor)
		d, m := loaded(t, c, row, 0, 1), modelOfRow(c, row, 0, 1)
		o := often{value(random, c), 1 + uint64(random.Intn(6))}
		mustPut(t, d, o)
		m.put(o.x, o.n)
		mustTell(t, d, m)
	}
}

// anyRow is a row of so many nodes at most that Load takes.
func anyRow(random *rand.Rand, c digest.Config, most int) []api.Pair {
	leaves := 1 << c.Depth
	row := []api.Pair{}
	for _, v := range random.Perm(min(2*leaves-1, 64))[:min(most, 2*leaves-1, 64)] {
		row = append(row, api.Pair{Index: v + 1, Count: 1 + uint64(random.Intn(5))})
	}
	slices.SortFunc(row, func(a, b api.Pair) int { return a.Index - b.Index })
	for {
		sum := uint64(0)
		for _, p := range row {
			sum += p.Count
		}
		heavy := slices.IndexFunc(row, func(p api.Pair) bool { return p.Index < leaves && p.Count > sum/uint64(c.Factor) })
		if heavy < 0 {
			return row
		}
		row = slices.Delete(row, heavy, heavy+1)
	}
}

// P17.1: what isn't put is refused: no time ahead of no node, that ahead of too many; and nothing changes.
func TestPutBad(t *testing.T) {
	for _, c := range configs() {
		end := int64(1) << c.Depth
		for _, list := range [][]often{nil, {{0, 1}}, {{end - 1, 3}, {0, 2}}, {{1, count}}} {
			d, m := filled(t, c, list...), modelOf(c, list...)
			for _, x := range []int64{0, end - 1, -1, end, greatest, least} {
				mustRefuse(t, d, m, x, 0, api.ErrArg)
			}
			for _, x := range []int64{-1, -2, end, end + 1, 2*end - 1, 2 * end, -end, 1 << 24, 1 << 25, 1 << 32, 1<<32 + 1, 1 << 62, greatest, greatest - 1, least, least + 1} {
				for _, n := range []uint64{1, count, count + 1, math.MaxUint64} {
					if err := d.Put(x, n); err != api.ErrRange {
						t.Fatalf("Put of %d, %d by %v: %d", x, n, c, err)
					}
				}
			}
			mustHold(t, d, m)
		}
	}
}

// P17.1: there are at most MaxCount values: 1 more is ErrFull, and nothing changes, nor is anything squeezed.
func TestPutTooMany(t *testing.T) {
	c := config(3, 1)
	for _, list := range [][]often{
		{{5, count}}, {{0, 1}, {7, count - 1}}, {{0, 1 << 62}, {1, 1<<62 - 1}}, {{0, 1}, {1, 1}, {2, 1}, {3, count - 3}}, {{0, 1}, {1, 1}, {2, 1}, {3, 1}, {4, count - 4}},
	} {
		d, m := filled(t, c, list...), modelOf(c, list...)
		mustHold(t, d, m)
		for _, x := range []int64{0, 4, 5, 7} {
			for _, n := range []uint64{1, 2, count, count + 1, math.MaxUint64, math.MaxUint64 - count + 1} {
				mustRefuse(t, d, m, x, n, api.ErrFull)
			}
		}
	}
	d, m := filled(t, c, often{0, 1}, often{1, 1}, often{2, 1}, often{3, count - 5}), modelOf(c, often{0, 1}, often{1, 1}, often{2, 1}, often{3, count - 5})
	mustRefuse(t, d, m, 7, 3, api.ErrFull)
	mustPut(t, d, often{7, 2})
	m.put(7, 2)
	mustHold(t, d, m)
	mustRefuse(t, made(t, c), modelOf(c), 5, count+1, api.ErrFull)
	mustRefuse(t, made(t, c), modelOf(c), 5, math.MaxUint64, api.ErrFull)
}

// P17.1: the least and the greatest value stay as they were put, wherever their counts have gone.
func TestEnds(t *testing.T) {
	for _, list := range [][]often{
		{{0, 1}}, {{7, 1}}, {{3, 1}}, {{3, 1}, {2, 1}}, {{2, 1}, {3, 1}}, {{5, 1}, {0, 1}, {3, 1}}, {{0, 1}, {0, 1}}, {{1, 1}, {2, 1}, {3, 1}, {4, 1}, {5, 1}}, {{5, 1}, {4, 1}, {3, 1}, {2, 1}, {1, 1}}, {{6, 1}, {5, 1}, {4, 1}, {3, 1}, {2, 1}, {1, 1}},
	} {
		mustHold(t, filled(t, config(3, 1), list...), modelOf(config(3, 1), list...))
	}
}

// P17.1: what is answered is new memory: what is written into it isn't seen, nor what comes later.
func TestApart(t *testing.T) {
	c := config(3, 1)
	d, m := filled(t, c, often{1, 1}, often{6, 2}), modelOf(c, often{1, 1}, often{6, 2})
	first, second := d.Nodes(), d.Nodes()
	clear(first)
	_ = append(first, api.Pair{Index: 3, Count: 3})
	mustHold(t, d, m)
	mustPut(t, d, often{1, 5}, often{3, 1})
	if !slices.Equal(second, m.row()) {
		t.Errorf("an answer changed: %v", second)
	}
}

// P17.1: what asks changes nothing.
func TestAsked(t *testing.T) {
	c := config(4, 1)
	d, m := filled(t, c, often{1, 1}, often{6, 2}, often{9, 1}), modelOf(c, often{1, 1}, often{6, 2}, often{9, 1})
	for range 3 {
		mustHold(t, d, m)
		if x, err := d.Quantile(api.Ratio{Num: 3, Den: 2}); x != 0 || err != api.ErrArg {
			t.Errorf("Quantile of 3 / 2: %d, %d", x, err)
		}
	}
}
