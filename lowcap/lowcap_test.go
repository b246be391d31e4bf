package lowcap_test

import (
	"maps"
	"math"
	"math/big"
	"math/rand"
	"slices"
	"testing"

	"ogive/api"
	"ogive/lowcap"
)

const (
	most  = math.MaxUint64
	low   = math.MinInt
	high  = math.MaxInt
	count = api.MaxCount
	cells = api.MaxCells
)

// pair is one, told shortly.
func pair(index int, count uint64) api.Pair {
	return api.Pair{Index: index, Count: count}
}

// model is all that was added, by indexes, lost or not: what is kept is told from it alone.
type model struct {
	room int
	all  map[int]uint64
}

// modelOf is a model to which some were added.
func modelOf(room int, list ...api.Pair) model {
	m := model{room, map[int]uint64{}}
	for _, p := range list {
		m.all[p.Index] += p.Count
	}
	return m
}

// joined is a model of all that two have.
func joined(a, b model) model {
	m := model{a.room, maps.Clone(a.all)}
	for index, n := range b.all {
		m.all[index] += n
	}
	return m
}

// total is how many there are, without a limit.
func (m model) total() *big.Int {
	sum := new(big.Int)
	for _, n := range m.all {
		sum.Add(sum, new(big.Int).SetUint64(n))
	}
	return sum
}

// has answers whether there is room for so many more.
func (m model) has(n *big.Int) bool {
	return n.Add(n, m.total()).IsInt64()
}

// add answers what Add asks for, and has it.
func (m model) add(index int, n uint64) api.Errno {
	if n == 0 {
		return api.ErrArg
	}
	if !m.has(new(big.Int).SetUint64(n)) {
		return api.ErrFull
	}
	m.all[index] += n
	return api.OK
}

// under is how far an index lies below the end, without a limit; 0, if there is none.
func (m model) under(index int) *big.Int {
	if len(m.all) == 0 {
		return new(big.Int)
	}
	end := low
	for i := range m.all {
		end = max(end, i)
	}
	return new(big.Int).Sub(big.NewInt(int64(end)), big.NewInt(int64(index)))
}

// keeps answers whether an index is one of those that are kept.
func (m model) keeps(index int) bool {
	return m.under(index).Cmp(big.NewInt(int64(m.room))) < 0
}

// parts are the row that is kept, and how many are lost.
func (m model) parts() ([]api.Pair, uint64) {
	var row []api.Pair
	var lost uint64
	for _, index := range slices.Sorted(maps.Keys(m.all)) {
		if m.keeps(index) {
			row = append(row, pair(index, m.all[index]))
		} else {
			lost += m.all[index]
		}
	}
	return row, lost
}

// upTo is how many there are up to an index, of all that were added.
func (m model) upTo(index int) uint64 {
	var sum uint64
	for i, n := range m.all {
		if i <= index {
			sum += n
		}
	}
	return sum
}

// around are indexes to ask for: the model's own, those at both edges of what it keeps, their neighbours, and the ends of all.
func (m model) around() []int {
	list := []int{low, low + 1, low + cells, -cells, -1, 0, 1, cells, high - cells, high - 1, high}
	for index := range m.all {
		for by := -1; by <= 1; by++ {
			// What goes round is an index like others.
			list = append(list, index+by, index-m.room+by, index+m.room+by)
		}
	}
	slices.Sort(list)
	return slices.Compact(list)
}

// made is one that has nothing, and keeps so many indexes.
func made(t *testing.T, room int) *lowcap.Low {
	t.Helper()
	c, err := lowcap.New(room)
	if c == nil || err != api.OK {
		t.Fatalf("New of %d: %v, %d", room, c, err)
	}
	return c
}

// mustAdd tells, if one of some pairs, each of which has room, isn't added.
func mustAdd(t *testing.T, c *lowcap.Low, list ...api.Pair) {
	t.Helper()
	for _, p := range list {
		if err := c.Add(p.Index, p.Count); err != api.OK {
			t.Fatalf("Add of %v to %v, %d: %d", p, c.Pairs(), c.Lost(), err)
		}
	}
}

// filled is one to which some were added, all of which have room.
func filled(t *testing.T, room int, list ...api.Pair) *lowcap.Low {
	t.Helper()
	c := made(t, room)
	mustAdd(t, c, list...)
	return c
}

// mustMerge tells, if one isn't merged into another one, where it has room.
func mustMerge(t *testing.T, c, o *lowcap.Low) {
	t.Helper()
	if err := c.Merge(o); err != api.OK {
		t.Fatalf("Merge of %v, %d to %v, %d: %d", o.Pairs(), o.Lost(), c.Pairs(), c.Lost(), err)
	}
}

// mustHave tells, if one hasn't a row, and so many lost, and doesn't keep so many indexes.
func mustHave(t *testing.T, c *lowcap.Low, room int, row []api.Pair, lost uint64) {
	t.Helper()
	if got := c.Pairs(); !slices.Equal(got, row) {
		t.Fatalf("Pairs: %v, not %v", got, row)
	}
	if got := c.Lost(); got != lost {
		t.Fatalf("Lost beside %v: %d, not %d", row, got, lost)
	}
	if got := c.Most(); got != room {
		t.Fatalf("Most: %d, not %d", got, room)
	}
	sum := lost
	for _, p := range row {
		mustFind(t, c, sum+1, p.Index, true)
		mustFind(t, c, sum+(p.Count+1)/2, p.Index, true)
		sum += p.Count
		mustFind(t, c, sum, p.Index, true)
	}
	if got := c.Total(); got != sum {
		t.Fatalf("Total of %v, %d: %d, not %d", row, lost, got, sum)
	}
	for _, at := range []uint64{0, min(1, lost), lost / 2, lost, sum + 1, 1 << 63, most} {
		mustFind(t, c, at, 0, false)
	}
}

// mustFind tells, if Find doesn't answer an index, and whether there is one.
func mustFind(t *testing.T, c *lowcap.Low, at uint64, index int, ok bool) {
	t.Helper()
	if got, is := c.Find(at); got != index || is != ok {
		t.Fatalf("Find of %d in %v, %d: %d, %t, not %d, %t", at, c.Pairs(), c.Lost(), got, is, index, ok)
	}
}

// mustHold tells, if one doesn't answer by every call what all that was added asks for.
func mustHold(t *testing.T, c *lowcap.Low, m model) {
	t.Helper()
	row, lost := m.parts()
	mustHave(t, c, m.room, row, lost)
	for _, index := range m.around() {
		mustTell(t, c, m, lost, index)
	}
}

// mustTell tells, if At and Below of an index aren't what all that was added, of which so many are lost, asks for.
func mustTell(t *testing.T, c *lowcap.Low, m model, lost uint64, index int) {
	t.Helper()
	var there uint64
	if m.keeps(index) {
		there = m.all[index]
	}
	if got := c.At(index); got != there {
		t.Fatalf("At of %d in %v: %d, not %d", index, c.Pairs(), got, there)
	}
	least, greatest := m.upTo(index), m.upTo(index)
	if m.under(index).Cmp(big.NewInt(int64(m.room))) > 0 {
		least, greatest = 0, lost
	}
	if a, b := c.Below(index); a != least || b != greatest {
		t.Fatalf("Below of %d in %v, %d: %d, %d, not %d, %d", index, c.Pairs(), c.Lost(), a, b, least, greatest)
	}
}

// mustRefuse tells, if an Add isn't refused with an error, or changes what is there.
func mustRefuse(t *testing.T, c *lowcap.Low, m model, index int, n uint64, want api.Errno) {
	t.Helper()
	if err := c.Add(index, n); err != want {
		t.Fatalf("Add of %d, %d to %v, %d: %d, not %d", index, n, c.Pairs(), c.Lost(), err, want)
	}
	mustHold(t, c, m)
}

// mustNotMerge tells, if a Merge isn't refused with an error, or changes one of both.
func mustNotMerge(t *testing.T, c, o *lowcap.Low, cm, om model, want api.Errno) {
	t.Helper()
	if err := c.Merge(o); err != want {
		t.Fatalf("Merge of %v, %d to %v, %d: %d, not %d", o.Pairs(), o.Lost(), c.Pairs(), c.Lost(), err, want)
	}
	mustHold(t, c, cm)
	mustHold(t, o, om)
}

// P9.1: the chapter's example.
func TestExample(t *testing.T) {
	c := filled(t, 2, pair(5, 1), pair(3, 1))
	mustHave(t, c, 2, []api.Pair{pair(5, 1)}, 1)
	mustHold(t, c, modelOf(2, pair(5, 1), pair(3, 1)))
}

// P9.1: New keeps 1 to MaxCells indexes.
func TestNew(t *testing.T) {
	for _, room := range []int{low, low + 1, -cells, -1, 0, cells + 1, cells + 2, high - 1, high} {
		if c, err := lowcap.New(room); c != nil || err != api.ErrArg {
			t.Errorf("New of %d: %v, %d", room, c, err)
		}
	}
	for room := 1; room <= cells; room++ {
		mustHave(t, made(t, room), room, nil, 0)
	}
}

// P9.1: one that has nothing has nothing of any index, and nothing is lost until there is an end.
func TestEmpty(t *testing.T) {
	for _, room := range []int{1, 2, cells} {
		mustHold(t, made(t, room), modelOf(room))
		for _, index := range []int{low, low + room, -1, 0, 1, high - room, high} {
			c := filled(t, room, pair(index, 3))
			mustHave(t, c, room, []api.Pair{pair(index, 3)}, 0)
			mustHold(t, c, modelOf(room, pair(index, 3)))
		}
	}
}

// P9.1: a nil one has nothing, and ErrNil stands ahead of all other errors.
func TestNil(t *testing.T) {
	var c *lowcap.Low
	for _, index := range []int{low, -1, 0, 1, high} {
		for _, n := range []uint64{0, 1, count, count + 1, most} {
			if err := c.Add(index, n); err != api.ErrNil {
				t.Errorf("Add of %d, %d: %d", index, n, err)
			}
		}
		if a, b := c.Below(index); c.At(index) != 0 || a != 0 || b != 0 {
			t.Errorf("%d: %d, %d, %d", index, c.At(index), a, b)
		}
	}
	mustHave(t, c, 0, nil, 0)
	o := filled(t, 3, pair(1, count))
	for _, err := range []api.Errno{c.Merge(nil), c.Merge(c), c.Merge(o), o.Merge(nil), o.Merge(c), made(t, 1).Merge(nil)} {
		if err != api.ErrNil {
			t.Errorf("Merge: %d", err)
		}
	}
	mustHold(t, o, modelOf(3, pair(1, count)))
}

// P9.1: Add of none is ErrArg, whether there is room or not, and makes no end.
func TestAddNone(t *testing.T) {
	for _, list := range [][]api.Pair{
		nil,
		{pair(7, 1)},
		{pair(7, count)},
		{pair(7, count-1), pair(-7, 1)},
		{pair(7, 1), pair(6, 2), pair(1, 5)},
	} {
		c, m := filled(t, 2, list...), modelOf(2, list...)
		for _, index := range []int{low, -1, 0, 1, 5, 6, 7, 8, 9, 100, high} {
			mustRefuse(t, c, m, index, 0, api.ErrArg)
		}
	}
}

// P9.1: together there are at most MaxCount, lost ones too; what is refused is neither kept nor lost, and makes no new end.
func TestAddTooMany(t *testing.T) {
	c := made(t, 3)
	for _, n := range []uint64{count + 1, count + 2, most - 1, most} {
		mustRefuse(t, c, modelOf(3), low, n, api.ErrFull)
	}
	for _, list := range [][]api.Pair{
		{pair(5, count)},
		{pair(5, 1), pair(1, count-1)},
		{pair(5, count-1), pair(2, 1)},
		{pair(5, count-6), pair(4, 2), pair(2, 1), pair(-9, 3)},
	} {
		c, m := filled(t, 3, list...), modelOf(3, list...)
		mustHold(t, c, m)
		for _, index := range []int{low, -9, 1, 2, 3, 4, 5, 6, 7, 8, high} {
			for _, n := range []uint64{1, 2, count, count + 1, count + 2, most} {
				mustRefuse(t, c, m, index, n, api.ErrFull)
			}
		}
	}
}

// P9.1: just MaxCount have room, and not 1 more, of an index that is kept, or lost, or the new end.
func TestAddJust(t *testing.T) {
	list := []api.Pair{pair(5, count-30), pair(3, 4), pair(1, 16)}
	for _, index := range []int{low, 1, 2, 3, 4, 5, 6, 8, high} {
		c, m := filled(t, 3, list...), modelOf(3, list...)
		mustRefuse(t, c, m, index, 11, api.ErrFull)
		mustAdd(t, c, pair(index, 10))
		m = joined(m, modelOf(3, pair(index, 10)))
		mustHold(t, c, m)
		mustRefuse(t, c, m, index, 1, api.ErrFull)
	}
}

// P9.1: what lies less than most below the end is kept, what lies most below it is lost; room by room, at all ends.
func TestKept(t *testing.T) {
	for _, room := range []int{1, 2, 3, 100, cells - 1, cells} {
		for _, end := range []int{low + room, low + room + 1, -1, 0, 1, room, high - 1, high} {
			list := []api.Pair{pair(end, 1), pair(end-room+1, 2), pair(end-room, 4)}
			c := filled(t, room, list[:2]...)
			mustHold(t, c, modelOf(room, list[:2]...))
			if c.Lost() != 0 {
				t.Errorf("%d below %d, of %d: %d are lost", room-1, end, room, c.Lost())
			}
			mustAdd(t, c, list[2])
			mustHold(t, c, modelOf(room, list...))
			if c.Lost() != 4 || c.At(end-room) != 0 {
				t.Errorf("%d below %d, of %d: %d are lost", room, end, room, c.Lost())
			}
		}
	}
}

// P9.1: a new end loses what is too far from it, and no more, however far it lies.
func TestNewEnd(t *testing.T) {
	list := []api.Pair{pair(10, 1), pair(11, 2), pair(13, 4), pair(14, 8)}
	for _, x := range []struct {
		end  int
		row  []api.Pair
		lost uint64
	}{
		{9, []api.Pair{pair(9, 16), pair(10, 1), pair(11, 2), pair(13, 4), pair(14, 8)}, 0},
		{12, []api.Pair{pair(10, 1), pair(11, 2), pair(12, 16), pair(13, 4), pair(14, 8)}, 0},
		{14, []api.Pair{pair(10, 1), pair(11, 2), pair(13, 4), pair(14, 24)}, 0},
		{15, []api.Pair{pair(10, 1), pair(11, 2), pair(13, 4), pair(14, 8), pair(15, 16)}, 0},
		{16, []api.Pair{pair(11, 2), pair(13, 4), pair(14, 8), pair(16, 16)}, 1},
		{17, []api.Pair{pair(13, 4), pair(14, 8), pair(17, 16)}, 3},
		{18, []api.Pair{pair(13, 4), pair(14, 8), pair(18, 16)}, 3},
		{19, []api.Pair{pair(14, 8), pair(19, 16)}, 7},
		{20, []api.Pair{pair(20, 16)}, 15},
		{high, []api.Pair{pair(high, 16)}, 15},
		{8, list, 16},
		{low, list, 16},
	} {
		c := filled(t, 6, list...)
		mustAdd(t, c, pair(x.end, 16))
		mustHave(t, c, 6, x.row, x.lost)
		mustHold(t, c, joined(modelOf(6, list...), modelOf(6, pair(x.end, 16))))
	}
}

// P9.1: what is lost stays lost: it isn't at its index any more, though the same index was asked for before.
func TestStaysLost(t *testing.T) {
	c := filled(t, 2, pair(1, 1), pair(2, 2), pair(3, 4))
	mustHave(t, c, 2, []api.Pair{pair(2, 2), pair(3, 4)}, 1)
	mustAdd(t, c, pair(1, 8), pair(2, 16))
	mustHave(t, c, 2, []api.Pair{pair(2, 18), pair(3, 4)}, 9)
	mustAdd(t, c, pair(9, 32), pair(3, 64), pair(8, 128))
	mustHave(t, c, 2, []api.Pair{pair(8, 128), pair(9, 32)}, 95)
}

// P9.1: the ends of all indexes: what lies farther apart than a number with a sign tells.
func TestFarEnds(t *testing.T) {
	for _, room := range []int{1, 2, cells} {
		for _, list := range [][]api.Pair{
			{pair(low, 1), pair(high, 2)},
			{pair(high, 2), pair(low, 1)},
			{pair(low, 1), pair(0, 2), pair(high, 4), pair(-1, 8)},
			{pair(low, 1), pair(low+room-1, 2), pair(low+1, 4), pair(low, 8)},
			{pair(low, 1), pair(low+room, 2), pair(low, 4)},
			{pair(high, 1), pair(high-room, 2), pair(high-room+1, 4)},
			{pair(-2, 1), pair(high-1, 2), pair(high, 4)},
		} {
			c := made(t, room)
			for i, p := range list {
				mustAdd(t, c, p)
				mustHold(t, c, modelOf(room, list[:i+1]...))
			}
		}
	}
}

// P9.1: Below, up to where the lost ones are known to lie: exactly most below the end, and no more.
func TestBelow(t *testing.T) {
	c := filled(t, 3, pair(10, 1), pair(8, 2), pair(7, 4), pair(5, 8))
	for _, x := range []struct {
		index           int
		least, greatest uint64
	}{{low, 0, 12}, {0, 0, 12}, {5, 0, 12}, {6, 0, 12}, {7, 12, 12}, {8, 14, 14}, {9, 14, 14}, {10, 15, 15}, {11, 15, 15}, {high, 15, 15}} {
		if a, b := c.Below(x.index); a != x.least || b != x.greatest {
			t.Errorf("Below of %d: %d, %d, not %d, %d", x.index, a, b, x.least, x.greatest)
		}
	}
}

// P9.1: Find, of each one there is: the lost ones stand ahead of all others.
func TestFindEach(t *testing.T) {
	c := filled(t, 4, pair(4, 3), pair(-2, 1), pair(1, 2), pair(4, 1), pair(0, 2), pair(3, 1))
	for i, index := range []int{0, 0, 0, 1, 1, 3, 4, 4, 4, 4} {
		mustFind(t, c, uint64(i+1), index, i >= 3)
	}
	mustFind(t, c, 0, 0, false)
	mustFind(t, c, 11, 0, false)
}

// P9.1: one that is quite full, filled from either side, and one end that loses some of it, half of it, or all.
func TestFull(t *testing.T) {
	for _, first := range []int{low, -cells / 2, high - 2*cells + 1} {
		var up []api.Pair
		for i := range cells {
			up = append(up, pair(first+i, uint64(i+1)))
		}
		down := slices.Clone(up)
		slices.Reverse(down)
		for i, list := range [][]api.Pair{up, down} {
			c := filled(t, cells, list...)
			mustHave(t, c, cells, up, 0)
			by := []int{cells / 2, 1}[i]
			mustAdd(t, c, pair(first+cells-1+by, 7))
			mustHave(t, c, cells, append(slices.Clone(up[by:]), pair(first+cells-1+by, 7)), uint64(by*(by+1)/2))
			mustAdd(t, c, pair(first+2*cells-1, 1))
			if by == 1 {
				mustHave(t, c, cells, []api.Pair{pair(first+cells, 7), pair(first+2*cells-1, 1)}, cells*(cells+1)/2)
			}
		}
	}
}

// P9.1: many calls in every order, against all that was added, with every call asked on the way.
func TestMany(t *testing.T) {
	random := rand.New(rand.NewSource(9))
	errs := map[api.Errno]int{}
	lost := 0
	for range 400 {
		m := modelOf(1 + random.Intn(12))
		c := made(t, m.room)
		center, width, shift := int(random.Uint64()), 1+random.Intn(40), random.Intn(64)
		for range 1 + random.Intn(60) {
			index, n := center+random.Intn(width), random.Uint64()>>shift
			if random.Intn(30) == 0 {
				index = []int{low, low + 1, -1, 0, high - 1, high}[random.Intn(6)]
			}
			if random.Intn(20) == 0 {
				n = 0
			}
			want := m.add(index, n)
			errs[want]++
			if err := c.Add(index, n); err != want {
				t.Fatalf("Add of %d, %d to %v, %d: %d, not %d", index, n, c.Pairs(), c.Lost(), err, want)
			}
			mustHold(t, c, m)
		}
		if c.Lost() != 0 {
			lost++
		}
	}
	if errs[api.OK] < 1000 || errs[api.ErrArg] < 100 || errs[api.ErrFull] < 500 || lost < 100 {
		t.Errorf("too few of a kind: %v, %d", errs, lost)
	}
}

// P9.1: a row is new memory, each time: what is written into one, or behind it, is seen nowhere.
func TestPairsNew(t *testing.T) {
	list := []api.Pair{pair(1, 2), pair(2, 3), pair(6, 4), pair(8, 5)}
	c := filled(t, 9, list...)
	a, b := c.Pairs(), c.Pairs()
	for i := range a {
		a[i] = pair(9, 9)
	}
	_ = append(a, pair(77, 78))
	mustHold(t, c, modelOf(9, list...))
	mustAdd(t, c, pair(1, 5), pair(7, 1), pair(8, 1), pair(11, 1))
	if !slices.Equal(b, list) {
		t.Errorf("a row of before: %v", b)
	}
	_ = append(c.Pairs(), pair(77, 78))
	mustHold(t, c, joined(modelOf(9, list...), modelOf(9, pair(1, 5), pair(7, 1), pair(8, 1), pair(11, 1))))
}
