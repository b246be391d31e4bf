package highcap_test

import (
	"math/big"
	"math/rand"
	"slices"
	"testing"

	"ogive/api"
	"ogive/highcap"
	"ogive/lowcap"
)

// P10.2: all orders of a few: the same is kept, and as many are lost.
func TestOrder(t *testing.T) {
	for _, list := range [][]api.Pair{
		{pair(0, 1), pair(1, 2), pair(2, 4), pair(3, 8), pair(4, 16), pair(5, 32)},
		{pair(0, 1), pair(0, 2), pair(3, 4), pair(3, 8), pair(6, 16), pair(9, 32)},
		{pair(low, 1), pair(low+1, 2), pair(-1, 4), pair(1, 8), pair(high-1, 16), pair(high, 32)},
	} {
		for _, room := range []int{1, 2, 3, 4, 7, 10, cells} {
			m := modelOf(room, list...)
			eachOrder(list, func(order []api.Pair) {
				mustHold(t, filled(t, room, order...), m)
			})
		}
	}
}

// eachOrder tells of all orders of a list.
func eachOrder(list []api.Pair, tell func([]api.Pair)) {
	var walk func(done, left []api.Pair)
	walk = func(done, left []api.Pair) {
		if len(left) == 0 {
			tell(done)
		}
		for i := range left {
			walk(append(slices.Clone(done), left[i]), slices.Concat(left[:i], left[i+1:]))
		}
	}
	walk(nil, list)
}

// P10.1, P10.2: what was added to many, merged by any tree, is as if all were added to one; those that were merged stay.
func TestMergeTree(t *testing.T) {
	random := rand.New(rand.NewSource(101))
	lost := 0
	for range 300 {
		room := 1 + random.Intn(20)
		if random.Intn(10) == 0 {
			room = cells
		}
		center, width := int(random.Uint64()), 1+random.Intn(4*room)
		var all []api.Pair
		var nodes []*highcap.High
		var models []model
		for range 1 + random.Intn(8) {
			var list []api.Pair
			for range random.Intn(12) {
				list = append(list, pair(center+random.Intn(width), 1+random.Uint64()>>9))
			}
			all = append(all, list...)
			nodes, models = append(nodes, filled(t, room, list...)), append(models, modelOf(room, list...))
		}
		for len(nodes) > 1 {
			random.Shuffle(len(nodes), func(i, j int) {
				nodes[i], nodes[j] = nodes[j], nodes[i]
				models[i], models[j] = models[j], models[i]
			})
			mustMerge(t, nodes[0], nodes[1])
			mustHold(t, nodes[1], models[1])
			models[0] = joined(models[0], models[1])
			mustHold(t, nodes[0], models[0])
			nodes, models = slices.Delete(nodes, 1, 2), slices.Delete(models, 1, 2)
		}
		mustHold(t, nodes[0], modelOf(room, all...))
		if nodes[0].Lost() != 0 {
			lost++
		}
	}
	if lost < 100 {
		t.Errorf("too few lose any: %d", lost)
	}
}

// P10.1: either one may have the lesser end, or nothing.
func TestMergeEnds(t *testing.T) {
	lists := [][]api.Pair{
		nil,
		{pair(5, 1)},
		{pair(5, 1), pair(6, 2), pair(7, 4), pair(8, 8), pair(18, 16)},
		{pair(4, 1), pair(8, 2)},
		{pair(3, 1), pair(2, 2), pair(1, 4)},
		{pair(6, 1), pair(high, 2)},
		{pair(low, 1), pair(low+2, 2), pair(0, 4)},
		{pair(high, 1), pair(high-1, 2), pair(high-3, 4)},
	}
	for _, room := range []int{1, 2, 3, 4, cells} {
		for _, a := range lists {
			for _, b := range lists {
				c, o := filled(t, room, a...), filled(t, room, b...)
				mustMerge(t, c, o)
				mustHold(t, c, joined(modelOf(room, a...), modelOf(room, b...)))
				mustHold(t, o, modelOf(room, b...))
			}
		}
	}
}

// P10.1: one merged into itself has all twice.
func TestMergeItself(t *testing.T) {
	for _, room := range []int{1, 2, 3, cells} {
		for _, list := range [][]api.Pair{
			nil,
			{pair(3, 7)},
			{pair(3, 1), pair(4, 2), pair(5, 4), pair(10, 8)},
			{pair(high, 1), pair(low, 2), pair(low+1, 4)},
			{pair(8, 1<<62-2), pair(9, 1)},
		} {
			c, m := filled(t, room, list...), modelOf(room, list...)
			mustMerge(t, c, c)
			mustHold(t, c, joined(m, m))
		}
	}
	c, m := filled(t, 2, pair(1, 1<<61), pair(9, 1<<61)), modelOf(2, pair(1, 1<<61), pair(9, 1<<61))
	mustNotMerge(t, c, c, m, m, api.ErrFull)
	c, m = filled(t, 2, pair(1, 1<<61), pair(9, 1<<61-1)), modelOf(2, pair(1, 1<<61), pair(9, 1<<61-1))
	mustMerge(t, c, c)
	m = joined(m, m)
	mustHold(t, c, m)
	mustRefuse(t, c, m, 9, 2, api.ErrFull)
	mustAdd(t, c, pair(9, 1))
}

// P10.1: one that keeps another number of indexes isn't merged, be both empty, or too many together.
func TestMergeOther(t *testing.T) {
	lists := [][]api.Pair{nil, {pair(3, 7)}, {pair(3, count)}, {pair(3, 1), pair(9, count-1)}}
	for _, rooms := range [][2]int{{1, 2}, {2, 1}, {3, cells}, {cells, cells - 1}} {
		for _, a := range lists {
			for _, b := range lists {
				c, o := filled(t, rooms[0], a...), filled(t, rooms[1], b...)
				mustNotMerge(t, c, o, modelOf(rooms[0], a...), modelOf(rooms[1], b...), api.ErrMatch)
			}
		}
	}
}

// P10.1: two that have too many together, lost ones too, aren't merged; just MaxCount are.
func TestMergeTooMany(t *testing.T) {
	lists := [][]api.Pair{
		{pair(5, count)},
		{pair(5, count-1)},
		{pair(7, 1)},
		{pair(7, 1), pair(13, 1)},
		{pair(2, 2), pair(3, 1), pair(4, count-5)},
		{pair(-5, 1), pair(-4, 1), pair(-1, count-2)},
		nil,
	}
	refused := 0
	for _, a := range lists {
		for _, b := range lists {
			c, o, cm, om := filled(t, 2, a...), filled(t, 2, b...), modelOf(2, a...), modelOf(2, b...)
			if !cm.has(om.total()) {
				mustNotMerge(t, c, o, cm, om, api.ErrFull)
				refused++
				continue
			}
			mustMerge(t, c, o)
			mustHold(t, c, joined(cm, om))
		}
	}
	if refused < 20 || refused > 40 {
		t.Errorf("%d of %d are refused", refused, len(lists)*len(lists))
	}
}

// P10.1: two know nothing of one another, though one was merged into the other.
func TestTwo(t *testing.T) {
	a, b := filled(t, 5, pair(9, 1), pair(8, 2)), filled(t, 5, pair(8, 4), pair(6, 8), pair(19, 16))
	mustMerge(t, a, b)
	am, bm := modelOf(5, pair(9, 1), pair(8, 6), pair(6, 8), pair(19, 16)), modelOf(5, pair(8, 4), pair(6, 8), pair(19, 16))
	mustAdd(t, b, pair(6, 32), pair(2, 64))
	mustHold(t, a, am)
	mustAdd(t, a, pair(8, 128), pair(5, 256))
	mustHold(t, b, joined(bm, modelOf(5, pair(6, 32), pair(2, 64))))
	mustHold(t, a, joined(am, modelOf(5, pair(8, 128), pair(5, 256))))
}

// P10.1, P10.2: of indexes the other way round it keeps, loses and finds what package lowcap does.
func TestMirror(t *testing.T) {
	random := rand.New(rand.NewSource(103))
	lost := 0
	for range 300 {
		room := []int{1, 2, 3, 7, 20, cells}[random.Intn(6)]
		center, width := int(random.Uint64()), 1+random.Intn(4*room)
		c := made(t, room)
		o, _ := lowcap.New(room)
		for range random.Intn(20) {
			p := pair(center+random.Intn(width), 1+random.Uint64()>>9)
			mustAdd(t, c, p)
			o.Add(^p.Index, p.Count)
		}
		row := o.Pairs()
		slices.Reverse(row)
		for i := range row {
			row[i].Index = ^row[i].Index
		}
		mustHave(t, c, room, row, o.Lost())
		for range 20 {
			at := 1 + random.Uint64()%max(1, c.Total())
			index, ok := o.Find(o.Total() + 1 - at)
			if ok {
				index = ^index
			}
			mustFind(t, c, at, index, ok)
		}
		if c.Lost() != 0 {
			lost++
		}
	}
	if lost < 100 {
		t.Errorf("too few lose any: %d", lost)
	}
}

// P10.1: what was kept, and lost, is loaded again, and goes on as if it were the same.
func TestLoad(t *testing.T) {
	random := rand.New(rand.NewSource(102))
	for range 300 {
		room := []int{1, 2, 3, 7, 20, cells}[random.Intn(6)]
		center, width := int(random.Uint64()), 1+random.Intn(3*room)
		m := modelOf(room)
		c := made(t, room)
		for range random.Intn(15) {
			p := pair(center+random.Intn(width), 1+random.Uint64()>>9)
			mustAdd(t, c, p)
			m.add(p.Index, p.Count)
		}
		o := loaded(t, room, c.Pairs(), c.Lost())
		mustHold(t, o, m)
		p := pair(center+width-1-random.Intn(2*width), 5)
		mustAdd(t, o, p)
		m.add(p.Index, p.Count)
		mustHold(t, o, m)
		mustMerge(t, o, c)
	}
}

// loaded is one with a row, and so many lost, that can be.
func loaded(t *testing.T, room int, row []api.Pair, lost uint64) *highcap.High {
	t.Helper()
	c, err := highcap.Load(room, row, lost)
	if c == nil || err != api.OK {
		t.Fatalf("Load of %d, %v, %d: %v, %d", room, row, lost, c, err)
	}
	return c
}

// P10.1: rows and lost ones that can just be loaded.
func TestLoadJust(t *testing.T) {
	var full []api.Pair
	for i := range cells {
		full = append(full, pair(low+i, 1))
	}
	for _, x := range []struct {
		room int
		row  []api.Pair
		lost uint64
	}{
		{1, nil, 0},
		{cells, []api.Pair{}, 0},
		{1, []api.Pair{pair(0, 1)}, 0},
		{1, []api.Pair{pair(high, count)}, 0},
		{1, []api.Pair{pair(high-1, 1)}, count - 1},
		{1, []api.Pair{pair(high, 1)}, 3},
		{2, []api.Pair{pair(-1, 1), pair(0, count-1)}, 0},
		{2, []api.Pair{pair(-1, 1), pair(0, count-5)}, 4},
		{4, []api.Pair{pair(5, 1), pair(8, 2)}, 4},
		{cells, []api.Pair{pair(high-cells+1, 1), pair(high, 2)}, 0},
		{cells, full, count - cells},
	} {
		c := loaded(t, x.room, x.row, x.lost)
		mustHave(t, c, x.room, x.row, x.lost)
		if got := new(big.Int).SetUint64(c.Total()); !got.IsInt64() {
			t.Errorf("Total: %d", got)
		}
	}
}

// P10.1: of one that is loaded Below tells of the lost ones as of others, also where no index is left for these.
func TestLoadBelow(t *testing.T) {
	c := loaded(t, 4, []api.Pair{pair(5, 1), pair(7, 2)}, 4)
	for index, upTo := range []uint64{0, 0, 0, 0, 0, 1, 1, 3, 3, 3, 3, 3} {
		greatest := upTo
		if index >= 9 {
			greatest += 4
		}
		if a, b := c.Below(index); a != upTo || b != greatest {
			t.Errorf("Below of %d: %d, %d", index, a, b)
		}
	}
	c = loaded(t, 4, []api.Pair{pair(high-3, 1), pair(high-1, 2)}, 4)
	for by, upTo := range []uint64{3, 3, 1, 1, 0} {
		if a, b := c.Below(high - by); a != upTo || b != upTo {
			t.Errorf("Below of %d: %d, %d", high-by, a, b)
		}
	}
}

// P10.1: what can't be loaded.
func TestLoadNot(t *testing.T) {
	good := []api.Pair{pair(5, 1), pair(8, 2)}
	long := make([]api.Pair, cells+1)
	for i := range long {
		long[i] = pair(i, 1)
	}
	for _, x := range []struct {
		room int
		row  []api.Pair
		lost uint64
	}{
		{0, good, 0}, {-1, good, 0}, {low, good, 0}, {cells + 1, good, 0}, {high, good, 0}, {0, nil, 0}, {cells + 1, nil, 0},
		{4, []api.Pair{pair(8, 1), pair(5, 2)}, 0},
		{4, []api.Pair{pair(5, 1), pair(5, 2)}, 0},
		{4, []api.Pair{pair(5, 1), pair(7, 1), pair(6, 1), pair(8, 1)}, 0},
		{4, []api.Pair{pair(5, 0)}, 0},
		{4, []api.Pair{pair(5, 1), pair(6, 0), pair(7, 1)}, 0},
		{4, []api.Pair{pair(5, count+1)}, 0},
		{4, []api.Pair{pair(5, most)}, 0},
		{3, good, 0}, {2, good, 0}, {1, good, 0}, {3, good, 4},
		{1, []api.Pair{pair(5, 1), pair(6, 1)}, 0},
		{cells, []api.Pair{pair(0, 1), pair(cells, 1)}, 0},
		{cells, []api.Pair{pair(low, 1), pair(high, 1)}, 0},
		{cells, []api.Pair{pair(-1, 1), pair(high, 1)}, 0},
		{cells, long, 0},
		{4, []api.Pair{pair(5, count), pair(6, 1)}, 0},
		{4, []api.Pair{pair(5, count), pair(6, count), pair(7, 2)}, 0},
		{4, []api.Pair{pair(5, count)}, 1},
		{4, good, count - 2}, {4, good, count}, {4, good, count + 1}, {4, good, most - 2}, {4, good, most},
		{4, nil, 1}, {4, nil, count}, {4, nil, most}, {4, []api.Pair{}, 1},
	} {
		row := slices.Clone(x.row)
		if c, err := highcap.Load(x.room, row, x.lost); c != nil || err != api.ErrArg {
			t.Errorf("Load of %d, %v, %d: %v, %d", x.room, x.row, x.lost, c, err)
		}
		if !slices.Equal(row, x.row) {
			t.Errorf("Load changed %v: %v", x.row, row)
		}
	}
}

// P10.1: a row that is loaded isn't changed, spare room included, nor kept.
func TestLoadRow(t *testing.T) {
	whole := []api.Pair{pair(1, 1), pair(3, 2), pair(77, 78)}
	row := slices.Clone(whole)
	c := loaded(t, 4, row[:2], 9)
	mustAdd(t, c, pair(3, 4), pair(1, 8), pair(2, 16), pair(0, 32), pair(-1, 64))
	if !slices.Equal(row, whole) {
		t.Errorf("the row is changed: %v", row)
	}
	for i := range row {
		row[i] = pair(100, 100)
	}
	mustHave(t, c, 4, []api.Pair{pair(-1, 64), pair(0, 32), pair(1, 9), pair(2, 16)}, 9+6)
}
