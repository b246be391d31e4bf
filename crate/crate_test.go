package crate_test

import (
	"maps"
	"math"
	"math/big"
	"math/rand"
	"slices"
	"testing"

	"ogive/api"
	"ogive/crate"
	"ogive/runs"
)

const (
	most  = math.MaxUint64
	low   = math.MinInt
	high  = math.MaxInt
	count = api.MaxCount
	cells = api.MaxCells
)

// pair is one, told shortly.
func pair(index int, count uint64) api.Pair {
	return api.Pair{Index: index, Count: count}
}

// mustAdd tells, if one of some pairs, each of which has room, isn't added.
func mustAdd(t *testing.T, c *crate.Crate, list ...api.Pair) {
	t.Helper()
	for _, p := range list {
		if err := c.Add(p.Index, p.Count); err != api.OK {
			t.Fatalf("Add of %v to %v: %d", p, c.Pairs(), err)
		}
	}
}

// filled is a crate to which pairs were added, each of which has room.
func filled(t *testing.T, list ...api.Pair) *crate.Crate {
	t.Helper()
	c := crate.New()
	mustAdd(t, c, list...)
	return c
}

// listed is a row of counts by indexes.
func listed(counts map[int]uint64) []api.Pair {
	var row []api.Pair
	for _, index := range slices.Sorted(maps.Keys(counts)) {
		row = append(row, pair(index, counts[index]))
	}
	return row
}

// gone is what All goes over, as a row.
func gone(c *crate.Crate) []api.Pair {
	var row []api.Pair
	for index, n := range c.All() {
		row = append(row, pair(index, n))
	}
	return row
}

// around are indexes to ask a crate of a row for: the row's own, their neighbours, and those at the edges.
func around(row []api.Pair) []int {
	list := []int{low, low + 1, -cells, -1, 0, 1, cells, high - 1, high}
	for _, p := range row {
		list = append(list, p.Index-1, p.Index, p.Index+1, p.Index-cells, p.Index+cells)
	}
	return list
}

// mustHold tells, if a crate doesn't answer by every call what a row, whose indexes rise, asks for.
func mustHold(t *testing.T, c *crate.Crate, row []api.Pair) {
	t.Helper()
	if got := c.Pairs(); !slices.Equal(got, row) || !runs.Good(got, cells) {
		t.Fatalf("Pairs: %v, not %v", got, row)
	}
	if got := gone(c); !slices.Equal(got, row) {
		t.Fatalf("All: %v, not %v", got, row)
	}
	var sum uint64
	for _, p := range row {
		mustFind(t, c, sum+1, p.Index, true)
		mustFind(t, c, sum+(p.Count+1)/2, p.Index, true)
		sum += p.Count
		mustFind(t, c, sum, p.Index, true)
	}
	if got := c.Total(); got != sum {
		t.Fatalf("Total of %v: %d, not %d", row, got, sum)
	}
	for _, t0 := range []uint64{0, sum + 1, 1 << 63, most} {
		mustFind(t, c, t0, 0, false)
	}
	for _, index := range around(row) {
		mustTell(t, c, row, index)
	}
}

// mustFind tells, if Find doesn't answer an index, and whether there is one.
func mustFind(t *testing.T, c *crate.Crate, at uint64, index int, ok bool) {
	t.Helper()
	if got, is := c.Find(at); got != index || is != ok {
		t.Fatalf("Find of %d in %v: %d, %t, not %d, %t", at, c.Pairs(), got, is, index, ok)
	}
}

// mustTell tells, if At and Below of an index aren't what a row has there, and up to there.
func mustTell(t *testing.T, c *crate.Crate, row []api.Pair, index int) {
	t.Helper()
	var there, below uint64
	for _, p := range row {
		if p.Index <= index {
			below += p.Count
		}
		if p.Index == index {
			there = p.Count
		}
	}
	if got := c.At(index); got != there {
		t.Fatalf("At of %d in %v: %d, not %d", index, row, got, there)
	}
	if got := c.Below(index); got != below {
		t.Fatalf("Below of %d in %v: %d, not %d", index, row, got, below)
	}
}

// mustRefuse tells, if an Add isn't refused with an error, or changes what is there.
func mustRefuse(t *testing.T, c *crate.Crate, index int, n uint64, want api.Errno) {
	t.Helper()
	row := c.Pairs()
	if err := c.Add(index, n); err != want {
		t.Fatalf("Add of %d, %d to %v: %d, not %d", index, n, row, err, want)
	}
	mustHold(t, c, row)
}

// P7.1: the chapter's example.
func TestExample(t *testing.T) {
	c := filled(t, pair(5, 2), pair(3, 1))
	mustFind(t, c, 1, 3, true)
	mustFind(t, c, 2, 5, true)
	mustFind(t, c, 3, 5, true)
	mustFind(t, c, 4, 0, false)
	mustHold(t, c, []api.Pair{pair(3, 1), pair(5, 2)})
}

// P7.1: an empty crate has nothing of any index.
func TestEmpty(t *testing.T) {
	mustHold(t, crate.New(), nil)
	if crate.New() == crate.New() {
		t.Error("two empty crates are the same one")
	}
}

// P7.1: a nil crate has nothing, and ErrNil stands ahead of all other errors.
func TestNil(t *testing.T) {
	var c *crate.Crate
	for _, index := range []int{low, -1, 0, 1, high} {
		for _, n := range []uint64{0, 1, count, count + 1, most} {
			if err := c.Add(index, n); err != api.ErrNil {
				t.Errorf("Add of %d, %d: %d", index, n, err)
			}
		}
	}
	mustHold(t, c, nil)
}

// P7.1: Add of none is ErrArg, wherever it is, and the index isn't one that the crate ever had.
func TestAddNone(t *testing.T) {
	c := crate.New()
	for _, index := range []int{low, -1, 0, 1, high} {
		mustRefuse(t, c, index, 0, api.ErrArg)
	}
	mustAdd(t, c, pair(high, 1))
	mustHold(t, c, []api.Pair{pair(high, 1)})
	mustRefuse(t, filled(t, pair(7, count)), 7, 0, api.ErrArg)
	c = filled(t, pair(7, 1))
	for _, index := range []int{low, 7 - cells, 6, 7, 8, 7 + cells, high} {
		mustRefuse(t, c, index, 0, api.ErrArg)
	}
	mustAdd(t, c, pair(7+cells-1, 1), pair(7, 1))
	mustHold(t, c, []api.Pair{pair(7, 2), pair(7+cells-1, 1)})
}

// P7.1: together there are at most MaxCount, of one index and of many.
func TestAddTooMany(t *testing.T) {
	c := crate.New()
	for _, n := range []uint64{count + 1, most - 1, most} {
		mustRefuse(t, c, low, n, api.ErrFull)
	}
	mustAdd(t, c, pair(5, count))
	mustHold(t, c, []api.Pair{pair(5, count)})
	for _, index := range []int{low, 4, 5, 6, high} {
		for _, n := range []uint64{1, 2, count, count + 1, count + 2, most} {
			mustRefuse(t, c, index, n, api.ErrFull)
		}
	}
	c = filled(t, pair(5, count-3), pair(4, 1))
	mustRefuse(t, c, 5-cells+1, 3, api.ErrFull)
	mustRefuse(t, c, 5, 3, api.ErrFull)
	mustRefuse(t, c, 9, 3, api.ErrFull)
	mustRefuse(t, c, 9, most-count+3, api.ErrFull)
	// The index that was refused isn't one that the crate ever had, so there is room up to the other side.
	mustAdd(t, c, pair(4+cells-1, 1), pair(4, 1))
	mustHold(t, c, []api.Pair{pair(4, 2), pair(5, count-3), pair(4+cells-1, 1)})
	mustRefuse(t, c, 4, 1, api.ErrFull)
}

// P7.1: from the least index to the greatest one there are at most MaxCells, wherever they lie.
func TestAddTooFar(t *testing.T) {
	for _, at := range []int{low, low + 1, -cells, -1, 0, 1, high - cells - 1, high - cells} {
		c := filled(t, pair(at, 2))
		mustRefuse(t, c, at+cells, 1, api.ErrFull)
		mustAdd(t, c, pair(at+cells-1, 3))
		mustHold(t, c, []api.Pair{pair(at, 2), pair(at+cells-1, 3)})
		mustRefuse(t, c, at+cells, 1, api.ErrFull)
		if at > low {
			mustRefuse(t, c, at-1, 1, api.ErrFull)
		}
		// The same two the other way round.
		c = filled(t, pair(at+cells, 2))
		mustRefuse(t, c, at, 1, api.ErrFull)
		mustAdd(t, c, pair(at+1, 3))
		mustHold(t, c, []api.Pair{pair(at+1, 3), pair(at+cells, 2)})
		mustRefuse(t, c, at, 1, api.ErrFull)
	}
	c := filled(t, pair(high-cells+1, 2))
	mustRefuse(t, c, high-cells+1-cells, 1, api.ErrFull)
	mustHold(t, filled(t, pair(high-cells+1, 2), pair(high, 1)), []api.Pair{pair(high-cells+1, 2), pair(high, 1)})
}

// P7.1: indexes whose difference has no room with a sign are too far apart, too.
func TestAddAround(t *testing.T) {
	ends := []int{low, low + 1, low + cells, -cells, -1, 0, 1, cells, high - cells, high - 1, high}
	for _, a := range ends {
		for _, b := range ends {
			far := new(big.Int).Sub(big.NewInt(int64(a)), big.NewInt(int64(b)))
			if far.CmpAbs(big.NewInt(cells)) >= 0 {
				mustRefuse(t, filled(t, pair(a, 1)), b, 1, api.ErrFull)
				continue
			}
			mustHold(t, filled(t, pair(a, 1), pair(b, 2)), runs.Join([]api.Pair{pair(a, 1)}, []api.Pair{pair(b, 2)}))
		}
	}
}

// P7.1: crates that are quite full, at both ends of all indexes and amid them, filled from either side.
func TestFull(t *testing.T) {
	for _, first := range []int{low, -cells / 2, 0, high - cells + 1} {
		up, down := crate.New(), crate.New()
		var row []api.Pair
		for i := range cells {
			row = append(row, pair(first+i, uint64(i+1)))
		}
		for i := range cells {
			mustAdd(t, up, row[i])
			mustAdd(t, down, row[cells-1-i])
		}
		for _, c := range []*crate.Crate{up, down} {
			if got := c.Pairs(); !slices.Equal(got, row) {
				t.Fatalf("from %d on: %v", first, got)
			}
			if got := gone(c); !slices.Equal(got, row) {
				t.Fatalf("from %d on: %v", first, got)
			}
			var sum uint64
			for _, p := range row {
				mustFind(t, c, sum+1, p.Index, true)
				sum += p.Count
				mustFind(t, c, sum, p.Index, true)
				if at, below := c.At(p.Index), c.Below(p.Index); at != p.Count || below != sum {
					t.Fatalf("%d: %d, %d, not %d, %d", p.Index, at, below, p.Count, sum)
				}
			}
			mustFind(t, c, sum+1, 0, false)
			if c.Total() != sum {
				t.Fatalf("Total: %d, not %d", c.Total(), sum)
			}
		}
	}
}

// model is what a crate has, by a map, and without a limit.
type model struct {
	counts map[int]uint64
	total  *big.Int
}

// add answers what Add asks for, and has it.
func (m model) add(index int, n uint64) api.Errno {
	if n == 0 {
		return api.ErrArg
	}
	sum := new(big.Int).Add(m.total, new(big.Int).SetUint64(n))
	if !sum.IsInt64() {
		return api.ErrFull
	}
	for i := range m.counts {
		far := new(big.Int).Sub(big.NewInt(int64(i)), big.NewInt(int64(index)))
		if far.CmpAbs(big.NewInt(cells)) >= 0 {
			return api.ErrFull
		}
	}
	m.counts[index] += n
	m.total.Set(sum)
	return api.OK
}

// P7.1: many that are added in every order, against a map, with every call asked on the way.
func TestMany(t *testing.T) {
	random := rand.New(rand.NewSource(7))
	errs := map[api.Errno]int{}
	for range 400 {
		c, m := crate.New(), model{map[int]uint64{}, new(big.Int)}
		width := 1 + random.Intn(3*cells)>>random.Intn(13)
		first := []int{low, -width / 2, 0, high - width, int(random.Uint64())>>1 - width}[random.Intn(5)]
		shift := random.Intn(64)
		for range 1 + random.Intn(40) {
			index, n := first+random.Intn(width), random.Uint64()>>shift
			if random.Intn(50) == 0 {
				index = int(random.Uint64())
			}
			if random.Intn(20) == 0 {
				n = 0
			}
			want := m.add(index, n)
			errs[want]++
			if err := c.Add(index, n); err != want {
				t.Fatalf("Add of %d, %d to %v: %d, not %d", index, n, c.Pairs(), err, want)
			}
			mustHold(t, c, listed(m.counts))
		}
	}
	if errs[api.OK] < 1000 || errs[api.ErrArg] < 100 || errs[api.ErrFull] < 500 {
		t.Errorf("too few of a kind: %v", errs)
	}
}

// P7.1: Find, of each one there is; Below counts just those that it finds up to an index.
func TestFindEach(t *testing.T) {
	c := filled(t, pair(4, 3), pair(-2, 1), pair(9, 5), pair(4, 1), pair(0, 2))
	want := []int{-2, 0, 0, 4, 4, 4, 4, 9, 9, 9, 9, 9}
	for i, index := range want {
		mustFind(t, c, uint64(i+1), index, true)
	}
	mustFind(t, c, uint64(len(want)+1), 0, false)
	for index := -5; index < 15; index++ {
		below := 0
		for _, i := range want {
			if i <= index {
				below++
			}
		}
		if got := c.Below(index); got != uint64(below) {
			t.Errorf("Below of %d: %d, not %d", index, got, below)
		}
	}
}

// P7.1: what is gone over may be left at any time, and be gone over again; it is what the crate has by then.
func TestAll(t *testing.T) {
	row := []api.Pair{pair(high-7, 1), pair(high-4, 2), pair(high-3, 3), pair(high, 4)}
	c := filled(t, row[2], row[0], row[1], row[3])
	all := c.All()
	for size := range len(row) + 1 {
		var got []api.Pair
		for index, n := range all {
			if len(got) == size {
				break
			}
			got = append(got, pair(index, n))
		}
		if !slices.Equal(got, row[:size]) {
			t.Errorf("the first %d: %v", size, got)
		}
	}
	pairs := 0
	for range all {
		for range all {
			pairs++
		}
	}
	if pairs != len(row)*len(row) {
		t.Errorf("within one another: %d", pairs)
	}
	later := crate.New()
	all = later.All()
	mustAdd(t, later, pair(3, 5))
	for index, n := range all {
		if index != 3 || n != 5 {
			t.Errorf("later: %d, %d", index, n)
		}
		pairs = -1
	}
	if pairs != -1 {
		t.Error("later: nothing")
	}
}

// P7.1: while it is gone over, a crate may be asked, and what changes it then ends, too.
func TestAllAsked(t *testing.T) {
	c := filled(t, pair(-1, 2), pair(3, 1), pair(8, 6))
	row := c.Pairs()
	var sum uint64
	for index, n := range c.All() {
		sum += n
		if c.At(index) != n || c.Below(index) != sum {
			t.Errorf("%d: %d, %d, not %d, %d", index, c.At(index), c.Below(index), n, sum)
		}
		mustFind(t, c, sum, index, true)
		mustHold(t, c, row)
	}
	for index := range c.All() {
		c.Add(index+1, 1)
		c.Add(index-1, 1)
	}
	if !runs.Good(c.Pairs(), cells) {
		t.Errorf("%v can't be", c.Pairs())
	}
}

// P7.1: rows are new memory, each time: what is written into one is seen nowhere.
func TestPairsNew(t *testing.T) {
	row := []api.Pair{pair(1, 2), pair(2, 3), pair(6, 4)}
	c := filled(t, row...)
	a, b := c.Pairs(), c.Pairs()
	a[0], a[1], a[2] = pair(9, 9), pair(9, 9), pair(9, 9)
	if !slices.Equal(b, row) {
		t.Errorf("another row: %v", b)
	}
	mustHold(t, c, row)
	mustAdd(t, c, pair(1, 5))
	if !slices.Equal(b, row) {
		t.Errorf("a row of before: %v", b)
	}
}

// P7.1: two crates know nothing of one another.
func TestTwo(t *testing.T) {
	a, b := crate.New(), crate.New()
	for i := range 50 {
		mustAdd(t, a, pair(i, 1))
		mustAdd(t, b, pair(1000-i, 2))
	}
	if a.Total() != 50 || b.Total() != 100 || a.At(1000) != 0 || b.At(0) != 0 || a.Below(high) != 50 || b.Below(high) != 100 {
		t.Errorf("%v, %v", a.Pairs(), b.Pairs())
	}
}

// orders goes over all orders of a row.
func orders(row []api.Pair, yield func([]api.Pair)) {
	var place func(at int)
	place = func(at int) {
		if at == len(row) {
			yield(row)
			return
		}
		for i := at; i < len(row); i++ {
			row[at], row[i] = row[i], row[at]
			place(at + 1)
			row[at], row[i] = row[i], row[at]
		}
	}
	place(0)
}

// P7.2: all orders of a few that have room, at the edges too, and some of one index.
func TestOrders(t *testing.T) {
	lists := [][]api.Pair{
		{pair(0, 1), pair(0, 2), pair(3, 4), pair(-5, 8), pair(cells-6, 16), pair(2, 32)},
		{pair(low, 1), pair(low+cells-1, 2), pair(low+1, 3), pair(low, 4), pair(low+7, 5)},
		{pair(high, 1), pair(high-cells+1, 2), pair(high-1, 3), pair(high, 4), pair(high-7, 5)},
		{pair(5, count/2), pair(6, count/2), pair(5, 1)},
	}
	for _, list := range lists {
		var want []api.Pair
		for _, p := range list {
			want = runs.Join(want, []api.Pair{p})
		}
		orders(slices.Clone(list), func(some []api.Pair) {
			mustHold(t, filled(t, some...), want)
		})
	}
}

// P7.2: some orders of many that have room; the counts of one index may come in parts.
func TestOrderMany(t *testing.T) {
	random := rand.New(rand.NewSource(8))
	for range 100 {
		first, width := int(random.Uint64())>>1-cells, 1+random.Intn(cells)
		var list []api.Pair
		for range 1 + random.Intn(60) {
			list = append(list, pair(first+random.Intn(width), 1+random.Uint64()>>8))
		}
		var want []api.Pair
		for range 4 {
			random.Shuffle(len(list), func(i, j int) { list[i], list[j] = list[j], list[i] })
			c := filled(t, list...)
			if want == nil {
				want = c.Pairs()
			}
			mustHold(t, c, want)
		}
	}
}
