package highcap_test

import (
	"maps"
	"math"
	"math/big"
	"math/rand"
	"slices"
	"testing"

	"ogive/api"
	"ogive/highcap"
)

const (
	most  = math.MaxUint64
	low   = math.MinInt
	high  = math.MaxInt
	count = api.MaxCount
	cells = api.MaxCells
)

// pair is one, told shortly.
func pair(index int, count uint64) api.Pair {
	return api.Pair{Index: index, Count: count}
}

// model is all that was added, by indexes, lost or not: what is kept is told from it alone.
type model struct {
	room int
	all  map[int]uint64
}

// modelOf is a model to which some were added.
func modelOf(room int, list ...api.Pair) model {
	m := model{room, map[int]uint64{}}
	for _, p := range list {
		m.all[p.Index] += p.Count
	}
	return m
}

// joined is a model of all that two have.
func joined(a, b model) model {
	m := model{a.room, maps.Clone(a.all)}
	for index, n := range b.all {
		m.all[index] += n
	}
	return m
}

// total is how many there are, without a limit.
func (m model) total() *big.Int {
	sum := new(big.Int)
	for _, n := range m.all {
		sum.Add(sum, new(big.Int).SetUint64(n))
	}
	return sum
}

// has answers whether there is room for so many more.
func (m model) has(n *big.Int) bool {
	return n.Add(n, m.total()).IsInt64()
}

// add answers what Add asks for, and has it.
func (m model) add(index int, n uint64) api.Errno {
	if n == 0 {
		return api.ErrArg
	}
	if !m.has(new(big.Int).SetUint64(n)) {
		return api.ErrFull
	}
	m.all[index] += n
	return api.OK
}

// over is how far an index lies above the end, without a limit; 0, if there is none.
func (m model) over(index int) *big.Int {
	if len(m.all) == 0 {
		return new(big.Int)
	}
	end := high
	for i := range m.all {
		end = min(end, i)
	}
	return new(big.Int).Sub(big.NewInt(int64(index)), big.NewInt(int64(end)))
}

// keeps answers whether an index is one of those that are kept, or would be.
func (m model) keeps(index int) bool {
	return m.over(index).Cmp(big.NewInt(int64(m.room))) < 0
}

// parts are the row that is kept, and how many are lost.
func (m model) parts() ([]api.Pair, uint64) {
	var row []api.Pair
	var lost uint64
	for _, index := range slices.Sorted(maps.Keys(m.all)) {
		if m.keeps(index) {
			row = append(row, pair(index, m.all[index]))
		} else {
			lost += m.all[index]
		}
	}
	return row, lost
}

// around are indexes to ask for: the model's own, those at both edges of what it keeps, their neighbours, and the ends of all.
func (m model) around() []int {
	list := []int{low, low + 1, low + cells, -cells, -1, 0, 1, cells, high - cells, high - 1, high}
	for index := range m.all {
		for by := -1; by <= 1; by++ {
			// What goes round is an index like others.
			list = append(list, index+by, index-m.room+by, index+m.room+by)
		}
	}
	slices.Sort(list)
	return slices.Compact(list)
}

// made is one that has nothing, and keeps so many indexes.
func made(t *testing.T, room int) *highcap.High {
	t.Helper()
	c, err := highcap.New(room)
	if c == nil || err != api.OK {
		t.Fatalf("New of %d: %v, %d", room, c, err)
	}
	return c
}

// mustAdd tells, if one of some pairs, each of which has room, isn't added.
func mustAdd(t *testing.T, c *highcap.High, list ...api.Pair) {
	t.Helper()
	for _, p := range list {
		if err := c.Add(p.Index, p.Count); err != api.OK {
			t.Fatalf("Add of %v to %v, %d: %d", p, c.Pairs(), c.Lost(), err)
		}
	}
}

// filled is one to which some were added, all of which have room.
func filled(t *testing.T, room int, list ...api.Pair) *highcap.High {
	t.Helper()
	c := made(t, room)
	mustAdd(t, c, list...)
	return c
}

// mustMerge tells, if one isn't merged into another one, where it has room.
func mustMerge(t *testing.T, c, o *highcap.High) {
	t.Helper()
	if err := c.Merge(o); err != api.OK {
		t.Fatalf("Merge of %v, %d to %v, %d: %d", o.Pairs(), o.Lost(), c.Pairs(), c.Lost(), err)
	}
}

// mustHave tells, if one hasn't a row, and so many lost, and doesn't keep so many indexes.
func mustHave(t *testing.T, c *highcap.High, room int, row []api.Pair, lost uint64) {
	t.Helper()
	if got := c.Pairs(); !slices.Equal(got, row) {
		t.Fatalf("Pairs: %v, not %v", got, row)
	}
	if got := c.Lost(); got != lost {
		t.Fatalf("Lost beside %v: %d, not %d", row, got, lost)
	}
	if got := c.Most(); got != room {
		t.Fatalf("Most: %d, not %d", got, room)
	}
	var sum uint64
	for _, p := range row {
		mustFind(t, c, sum+1, p.Index, true)
		mustFind(t, c, sum+(p.Count+1)/2, p.Index, true)
		sum += p.Count
		mustFind(t, c, sum, p.Index, true)
	}
	if got := c.Total(); got != sum+lost {
		t.Fatalf("Total of %v, %d: %d, not %d", row, lost, got, sum+lost)
	}
	for _, at := range []uint64{0, sum + 1, sum + 1 + lost/2, sum + max(1, lost), sum + lost + 1, 1 << 63, most} {
		mustFind(t, c, at, 0, false)
	}
}

// mustFind tells, if Find doesn't answer an index, and whether there is one.
func mustFind(t *testing.T, c *highcap.High, at uint64, index int, ok bool) {
	t.Helper()
	if got, is := c.Find(at); got != index || is != ok {
		t.Fatalf("Find of %d in %v, %d: %d, %t, not %d, %t", at, c.Pairs(), c.Lost(), got, is, index, ok)
	}
}

// mustHold tells, if one doesn't answer by every call what all that was added asks for.
func mustHold(t *testing.T, c *highcap.High, m model) {
	t.Helper()
	row, lost := m.parts()
	mustHave(t, c, m.room, row, lost)
	for _, index := range m.around() {
		mustTell(t, c, m, row, lost, index)
	}
}

// mustTell tells, if At and Below of an index aren't what all that was added, of which a row is kept and so many are lost, asks for.
func mustTell(t *testing.T, c *highcap.High, m model, row []api.Pair, lost uint64, index int) {
	t.Helper()
	var there, least uint64
	for _, p := range row {
		if p.Index == index {
			there = p.Count
		}
		if p.Index <= index {
			least += p.Count
		}
	}
	greatest := least
	if !m.keeps(index) {
		greatest += lost
	}
	if got := c.At(index); got != there {
		t.Fatalf("At of %d in %v: %d, not %d", index, c.Pairs(), got, there)
	}
	if a, b := c.Below(index); a != least || b != greatest {
		t.Fatalf("Below of %d in %v, %d: %d, %d, not %d, %d", index, c.Pairs(), c.Lost(), a, b, least, greatest)
	}
}

// mustRefuse tells, if an Add isn't refused with an error, or changes what is there.
func mustRefuse(t *testing.T, c *highcap.High, m model, index int, n uint64, want api.Errno) {
	t.Helper()
	if err := c.Add(index, n); err != want {
		t.Fatalf("Add of %d, %d to %v, %d: %d, not %d", index, n, c.Pairs(), c.Lost(), err, want)
	}
	mustHold(t, c, m)
}

// mustNotMerge tells, if a Merge isn't refused with an error, or changes one of both.
func mustNotMerge(t *testing.T, c, o *highcap.High, cm, om model, want api.Errno) {
	t.Helper()
	if err := c.Merge(o); err != want {
		t.Fatalf("Merge of %v, %d to %v, %d: %d, not %d", o.Pairs(), o.Lost(), c.Pairs(), c.Lost(), err, want)
	}
	mustHold(t, c, cm)
	mustHold(t, o, om)
}

// P10.1: the chapter's example.
func TestExample(t *testing.T) {
	c := filled(t, 2, pair(5, 1), pair(7, 1))
	mustHave(t, c, 2, []api.Pair{pair(5, 1)}, 1)
	mustHold(t, c, modelOf(2, pair(5, 1), pair(7, 1)))
}

// P10.1: New keeps 1 to MaxCells indexes.
func TestNew(t *testing.T) {
	for _, room := range []int{low, low + 1, -cells, -1, 0, cells + 1, cells + 2, high - 1, high} {
		if c, err := highcap.New(room); c != nil || err != api.ErrArg {
			t.Errorf("New of %d: %v, %d", room, c, err)
		}
	}
	for room := 1; room <= cells; room++ {
		mustHave(t, made(t, room), room, nil, 0)
	}
}

// P10.1: one that has nothing has nothing of any index, and nothing is lost until there is an end.
func TestEmpty(t *testing.T) {
	for _, room := range []int{1, 2, cells} {
		mustHold(t, made(t, room), modelOf(room))
		for _, index := range []int{low, low + room, -1, 0, 1, high - room, high} {
			c := filled(t, room, pair(index, 3))
			mustHave(t, c, room, []api.Pair{pair(index, 3)}, 0)
			mustHold(t, c, modelOf(room, pair(index, 3)))
		}
	}
}

// P10.1: a nil one has nothing, and ErrNil stands ahead of all other errors.
func TestNil(t *testing.T) {
	var c *highcap.High
	for _, index := range []int{low, -1, 0, 1, high} {
		for _, n := range []uint64{0, 1, count, count + 1, most} {
			if err := c.Add(index, n); err != api.ErrNil {
				t.Errorf("Add of %d, %d: %d", index, n, err)
			}
		}
		if a, b := c.Below(index); c.At(index) != 0 || a != 0 || b != 0 {
			t.Errorf("%d: %d, %d, %d", index, c.At(index), a, b)
		}
	}
	mustHave(t, c, 0, nil, 0)
	o := filled(t, 3, pair(1, count))
	for _, err := range []api.Errno{c.Merge(nil), c.Merge(c), c.Merge(o), o.Merge(nil), o.Merge(c), made(t, 1).Merge(nil)} {
		if err != api.ErrNil {
			t.Errorf("Merge: %d", err)
		}
	}
	mustHold(t, o, modelOf(3, pair(1, count)))
}

// P10.1: Add of none is ErrArg, whether there is room or not, and makes no end.
func TestAddNone(t *testing.T) {
	for _, list := range [][]api.Pair{
		nil,
		{pair(7, 1)},
		{pair(7, count)},
		{pair(7, count-1), pair(77, 1)},
		{pair(7, 1), pair(8, 2), pair(13, 5)},
	} {
		c, m := filled(t, 2, list...), modelOf(2, list...)
		for _, index := range []int{low, -1, 0, 5, 6, 7, 8, 9, 10, 100, high} {
			mustRefuse(t, c, m, index, 0, api.ErrArg)
		}
	}
}

// P10.1: together there are at most MaxCount, lost ones too; what is refused is neither kept nor lost, and makes no new end.
func TestAddTooMany(t *testing.T) {
	c := made(t, 3)
	for _, n := range []uint64{count + 1, count + 2, most - 1, most} {
		mustRefuse(t, c, modelOf(3), high, n, api.ErrFull)
	}
	for _, list := range [][]api.Pair{
		{pair(5, count)},
		{pair(5, 1), pair(9, count-1)},
		{pair(5, count-1), pair(8, 1)},
		{pair(5, count-6), pair(6, 2), pair(8, 1), pair(19, 3)},
	} {
		c, m := filled(t, 3, list...), modelOf(3, list...)
		mustHold(t, c, m)
		for _, index := range []int{low, 2, 3, 4, 5, 6, 7, 8, 9, 19, high} {
			for _, n := range []uint64{1, 2, count, count + 1, count + 2, most} {
				mustRefuse(t, c, m, index, n, api.ErrFull)
			}
		}
	}
}

// P10.1: just MaxCount have room, and not 1 more, of an index that is kept, or lost, or the new end.
func TestAddJust(t *testing.T) {
	list := []api.Pair{pair(5, count-30), pair(7, 4), pair(9, 16)}
	for _, index := range []int{low, 2, 4, 5, 6, 7, 8, 9, high} {
		c, m := filled(t, 3, list...), modelOf(3, list...)
		mustRefuse(t, c, m, index, 11, api.ErrFull)
		mustAdd(t, c, pair(index, 10))
		m = joined(m, modelOf(3, pair(index, 10)))
		mustHold(t, c, m)
		mustRefuse(t, c, m, index, 1, api.ErrFull)
	}
}

// P10.1: what lies less than most above the end is kept, what lies most above it is lost; room by room, at all ends.
func TestKept(t *testing.T) {
	for _, room := range []int{1, 2, 3, 100, cells - 1, cells} {
		for _, end := range []int{low, low + 1, -room, -1, 0, 1, high - room - 1, high - room} {
			list := []api.Pair{pair(end, 1), pair(end+room-1, 2), pair(end+room, 4)}
			c := filled(t, room, list[:2]...)
			mustHold(t, c, modelOf(room, list[:2]...))
			if c.Lost() != 0 {
				t.Errorf("%d above %d, of %d: %d are lost", room-1, end, room, c.Lost())
			}
			mustAdd(t, c, list[2])
			mustHold(t, c, modelOf(room, list...))
			if c.Lost() != 4 || c.At(end+room) != 0 {
				t.Errorf("%d above %d, of %d: %d are lost", room, end, room, c.Lost())
			}
		}
	}
}

// P10.1: a new end loses what is too far from it, and no more, however far it lies.
func TestNewEnd(t *testing.T) {
	list := []api.Pair{pair(10, 1), pair(11, 2), pair(13, 4), pair(14, 8)}
	for _, x := range []struct {
		end  int
		row  []api.Pair
		lost uint64
	}{
		{15, []api.Pair{pair(10, 1), pair(11, 2), pair(13, 4), pair(14, 8), pair(15, 16)}, 0},
		{12, []api.Pair{pair(10, 1), pair(11, 2), pair(12, 16), pair(13, 4), pair(14, 8)}, 0},
		{10, []api.Pair{pair(10, 17), pair(11, 2), pair(13, 4), pair(14, 8)}, 0},
		{9, []api.Pair{pair(9, 16), pair(10, 1), pair(11, 2), pair(13, 4), pair(14, 8)}, 0},
		{8, []api.Pair{pair(8, 16), pair(10, 1), pair(11, 2), pair(13, 4)}, 8},
		{7, []api.Pair{pair(7, 16), pair(10, 1), pair(11, 2)}, 12},
		{6, []api.Pair{pair(6, 16), pair(10, 1), pair(11, 2)}, 12},
		{5, []api.Pair{pair(5, 16), pair(10, 1)}, 14},
		{4, []api.Pair{pair(4, 16)}, 15},
		{low, []api.Pair{pair(low, 16)}, 15},
		{16, list, 16},
		{high, list, 16},
	} {
		c := filled(t, 6, list...)
		mustAdd(t, c, pair(x.end, 16))
		mustHave(t, c, 6, x.row, x.lost)
		mustHold(t, c, joined(modelOf(6, list...), modelOf(6, pair(x.end, 16))))
	}
}

// P10.1: what is lost stays lost: it isn't at its index any more, though the same index was asked for before.
func TestStaysLost(t *testing.T) {
	c := filled(t, 2, pair(9, 1), pair(8, 2), pair(7, 4))
	mustHave(t, c, 2, []api.Pair{pair(7, 4), pair(8, 2)}, 1)
	mustAdd(t, c, pair(9, 8), pair(8, 16))
	mustHave(t, c, 2, []api.Pair{pair(7, 4), pair(8, 18)}, 9)
	mustAdd(t, c, pair(1, 32), pair(7, 64), pair(2, 128))
	mustHave(t, c, 2, []api.Pair{pair(1, 32), pair(2, 128)}, 95)
}

// P10.1: the ends of all indexes: what lies farther apart than a number with a sign tells.
func TestFarEnds(t *testing.T) {
	for _, room := range []int{1, 2, cells} {
		for _, list := range [][]api.Pair{
			{pair(high, 1), pair(low, 2)},
			{pair(low, 2), pair(high, 1)},
			{pair(high, 1), pair(0, 2), pair(low, 4), pair(-1, 8)},
			{pair(high, 1), pair(high-room+1, 2), pair(high-1, 4), pair(high, 8)},
			{pair(high, 1), pair(high-room, 2), pair(high, 4)},
			{pair(low, 1), pair(low+room, 2), pair(low+room-1, 4)},
			{pair(1, 1), pair(low+1, 2), pair(low, 4)},
		} {
			c := made(t, room)
			for i, p := range list {
				mustAdd(t, c, p)
				mustHold(t, c, modelOf(room, list[:i+1]...))
			}
		}
	}
}

// P10.1: Below: from most above the end on the lost ones might lie there, wherever the last kept one stands, and the first lost one stood.
func TestBelow(t *testing.T) {
	c := filled(t, 4, pair(5, 1), pair(7, 2), pair(10, 4), pair(12, 8))
	for _, x := range []struct {
		index           int
		least, greatest uint64
	}{{low, 0, 0}, {4, 0, 0}, {5, 1, 1}, {6, 1, 1}, {7, 3, 3}, {8, 3, 3}, {9, 3, 15}, {10, 3, 15}, {11, 3, 15}, {12, 3, 15}, {13, 3, 15}, {high, 3, 15}} {
		if a, b := c.Below(x.index); a != x.least || b != x.greatest {
			t.Errorf("Below of %d: %d, %d, not %d, %d", x.index, a, b, x.least, x.greatest)
		}
	}
}

// P10.1: Find, of each one there is: the lost ones stand behind all others.
func TestFindEach(t *testing.T) {
	c := filled(t, 4, pair(4, 3), pair(11, 1), pair(7, 2), pair(4, 1), pair(8, 2), pair(5, 1))
	for i, index := range []int{4, 4, 4, 4, 5, 7, 7, 0, 0, 0} {
		mustFind(t, c, uint64(i+1), index, i < 7)
	}
	mustFind(t, c, 0, 0, false)
	mustFind(t, c, 11, 0, false)
}

// P10.1: one that is quite full, filled from either side, and one end that loses some of it, half of it, or all.
func TestFull(t *testing.T) {
	for _, first := range []int{low + cells, -cells / 2, high - cells + 1} {
		// The greatest index counts 1, the one below it 2, and so on.
		var up []api.Pair
		for i := range cells {
			up = append(up, pair(first+i, uint64(cells-i)))
		}
		down := slices.Clone(up)
		slices.Reverse(down)
		for i, list := range [][]api.Pair{up, down} {
			c := filled(t, cells, list...)
			mustHave(t, c, cells, up, 0)
			by := []int{cells / 2, 1}[i]
			mustAdd(t, c, pair(first-by, 7))
			mustHave(t, c, cells, append([]api.Pair{pair(first-by, 7)}, up[:cells-by]...), uint64(by*(by+1)/2))
			mustAdd(t, c, pair(first-cells, 1))
			mustHave(t, c, cells, []api.Pair{pair(first-cells, 1), pair(first-by, 7)}, cells*(cells+1)/2)
		}
	}
}

// P10.1: many calls in every order, against all that was added, with every call asked on the way.
func TestMany(t *testing.T) {
	random := rand.New(rand.NewSource(10))
	errs := map[api.Errno]int{}
	lost := 0
	for range 400 {
		m := modelOf(1 + random.Intn(12))
		c := made(t, m.room)
		center, width, shift := int(random.Uint64()), 1+random.Intn(40), random.Intn(64)
		for range 1 + random.Intn(60) {
			index, n := center+random.Intn(width), random.Uint64()>>shift
			if random.Intn(30) == 0 {
				index = []int{low, low + 1, -1, 0, high - 1, high}[random.Intn(6)]
			}
			if random.Intn(20) == 0 {
				n = 0
			}
			want := m.add(index, n)
			errs[want]++
			if err := c.Add(index, n); err != want {
				t.Fatalf("Add of %d, %d to %v, %d: %d, not %d", index, n, c.Pairs(), c.Lost(), err, want)
			}
			mustHold(t, c, m)
		}
		if c.Lost() != 0 {
			lost++
		}
	}
	if errs[api.OK] < 1000 || errs[api.ErrArg] < 100 || errs[api.ErrFull] < 500 || lost < 100 {
		t.Errorf("too few of a kind: %v, %d", errs, lost)
	}
}

// P10.1: a row is new memory, each time: what is written into one, or behind it, is seen nowhere.
func TestPairsNew(t *testing.T) {
	list := []api.Pair{pair(1, 2), pair(3, 3), pair(7, 4), pair(8, 5)}
	c := filled(t, 9, list...)
	a, b := c.Pairs(), c.Pairs()
	for i := range a {
		a[i] = pair(9, 9)
	}
	_ = append(a, pair(77, 78))
	mustHold(t, c, modelOf(9, list...))
	mustAdd(t, c, pair(1, 5), pair(2, 1), pair(8, 1), pair(-2, 1))
	if !slices.Equal(b, list) {
		t.Errorf("a row of before: %v", b)
	}
	_ = append(c.Pairs(), pair(77, 78))
	mustHold(t, c, joined(modelOf(9, list...), modelOf(9, pair(1, 5), pair(2, 1), pair(8, 1), pair(-2, 1))))
}
