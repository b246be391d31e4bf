package bins_test

import (
	"math"
	"math/rand"
	"slices"
	"testing"

	"ogive/api"
	"ogive/bins"
	"ogive/cells"
)

// mustMerge tells, if bins aren't merged into others, where they have room.
func mustMerge(t *testing.T, b, o *bins.Bins) {
	t.Helper()
	if err := b.Merge(o); err != api.OK {
		t.Fatalf("Merge: %d", err)
	}
}

// mustNotMerge tells, if a Merge isn't refused with an error, or changes one of both.
func mustNotMerge(t *testing.T, b, o *bins.Bins, bm, om *model, want api.Errno) {
	t.Helper()
	if err := b.Merge(o); err != want {
		t.Fatalf("Merge: %d, not %d", err, want)
	}
	mustHold(t, b, bm)
	mustHold(t, o, om)
}

// loaded is bins with rows that can be.
func loaded(t *testing.T, p bins.Partition, side bins.Side, most int, rows [2][]api.Pair, lost [2]uint64, zero uint64) *bins.Bins {
	t.Helper()
	b := made(t, p, side, most)
	if err := b.Load(rows, lost, zero); err != api.OK {
		t.Fatalf("Load of %v, %v, %d: %d", rows, lost, zero, err)
	}
	return b
}

// modelLoaded is a model of bins with rows that can be.
func modelLoaded(p partition, side bins.Side, most int, rows [2][]api.Pair, lost [2]uint64, zero uint64) *model {
	m := modelOf(p, side, most)
	for i, row := range rows {
		for _, pair := range row {
			m.halves[i].counts[pair.Index] = pair.Count
		}
		m.halves[i].lost = lost[i]
	}
	m.zero = zero
	return m
}

// P13.1, P13.2: what was added to many, merged by any tree, is as if all were added to one; those that were merged stay.
func TestMergeTree(t *testing.T) {
	random := rand.New(rand.NewSource(131))
	lost := 0
	for _, p := range partitions(t) {
		for round := range 20 {
			side, most := bins.Side(round%2), []int{1, 2, 7, 30, limit}[random.Intn(5)]
			all := modelOf(p, side, most)
			var nodes []*bins.Bins
			var models []*model
			for range 1 + random.Intn(6) {
				b, m := made(t, p, side, most), modelOf(p, side, most)
				for range random.Intn(10) {
					o := often{value(random), 1 + random.Uint64()>>9}
					mustAdd(t, b, o)
					m.add(o.x, o.n)
					all.add(o.x, o.n)
				}
				nodes, models = append(nodes, b), append(models, m)
			}
			for len(nodes) > 1 {
				random.Shuffle(len(nodes), func(i, j int) {
					nodes[i], nodes[j] = nodes[j], nodes[i]
					models[i], models[j] = models[j], models[i]
				})
				mustMerge(t, nodes[0], nodes[1])
				mustHold(t, nodes[1], models[1])
				models[0] = joined(models[0], models[1])
				mustHold(t, nodes[0], models[0])
				nodes, models = slices.Delete(nodes, 1, 2), slices.Delete(models, 1, 2)
			}
			mustHold(t, nodes[0], all)
			if below, above := nodes[0].Lost(); below != 0 && above != 0 {
				lost++
			}
		}
	}
	if lost < 30 {
		t.Errorf("too few lose any: %d", lost)
	}
}

// P13.1: both sides of 0, and noughts, are merged, each to its own; of the same partition, that is made twice, too.
func TestMergeKinds(t *testing.T) {
	lists := [][]often{nil, {{-4, 1}}, {{0, 2}}, {{9, 4}}, {{-4, 1}, {0, 2}, {9, 4}}, {{-7, 8}, {7, 16}}, {{least, 1}, {greatest, 2}}, few}
	for _, side := range []bins.Side{bins.Great, bins.Small} {
		for _, most := range []int{1, 3, limit} {
			for _, a := range lists {
				for _, b := range lists {
					p, same := table(t, 1, 10), table(t, 1, 10)
					x, o := filled(t, p, side, most, a...), filled(t, same, side, most, b...)
					mustMerge(t, x, o)
					mustHold(t, x, joined(modelOf(p, side, most, a...), modelOf(p, side, most, b...)))
					mustHold(t, o, modelOf(p, side, most, b...))
				}
			}
		}
	}
}

// P13.1: bins merged into themselves have all twice, if there is room.
func TestMergeItself(t *testing.T) {
	p := digits(t, 1)
	for _, side := range []bins.Side{bins.Great, bins.Small} {
		for _, list := range [][]often{nil, {{0, 7}}, {{5, 1}}, few, {{-5, 1 << 60}, {0, 1 << 60}, {5, 1 << 60}, {9, 1<<60 - 1}}} {
			b, m := filled(t, p, side, 2, list...), modelOf(p, side, 2, list...)
			mustMerge(t, b, b)
			mustHold(t, b, joined(m, m))
		}
		for _, list := range [][]often{{{0, 1 << 62}}, {{-5, 1 << 62}}, {{5, 1 << 62}}, {{-5, 1 << 61}, {-9, 1 << 60}, {0, 1 << 60}}} {
			b, m := filled(t, p, side, 1, list...), modelOf(p, side, 1, list...)
			mustNotMerge(t, b, b, m, m, api.ErrFull)
		}
	}
}

// P13.1: those that aren't like one another aren't merged, be both empty, or too many together.
func TestMergeOther(t *testing.T) {
	p := digits(t, 2)
	kinds := []struct {
		side bins.Side
		most int
	}{{bins.Great, 1}, {bins.Small, 1}, {bins.Great, 2}, {bins.Small, 2}, {bins.Great, limit}, {bins.Small, limit}}
	for i, a := range kinds {
		for j, b := range kinds {
			for _, list := range [][]often{nil, {{7, 1}}, {{-5, 2}, {-900, 1}, {0, 1}, {7, count - 4}}} {
				if i != j {
					mustNotMerge(t, filled(t, p, a.side, a.most, list...), filled(t, p, b.side, b.most, list...),
						modelOf(p, a.side, a.most, list...), modelOf(p, b.side, b.most, list...), api.ErrMatch)
				}
			}
		}
	}
}

// P13.1: two that have too many together, lost ones and noughts too, aren't merged, though each side of 0 has room; just MaxCount are.
func TestMergeTooMany(t *testing.T) {
	p := digits(t, 1)
	lists := [][]often{
		{{5, count}}, {{-5, count}}, {{0, count}}, {{5, count - 1}}, {{-5, count - 1}}, {{0, count - 1}},
		{{7, 1}}, {{-7, 1}}, {{0, 1}}, {{9, 1}, {1, 1}}, {{-9, 1}, {-1, 1}},
		{{-9, 1}, {-1, 2}, {0, 3}, {1, 4}, {9, count - 10}}, {{-9, 1}, {-1, count - 12}, {0, 3}, {1, 4}, {9, 3}},
		nil,
	}
	for _, side := range []bins.Side{bins.Great, bins.Small} {
		refused := 0
		for _, a := range lists {
			for _, b := range lists {
				x, o, xm, om := filled(t, p, side, 2, a...), filled(t, p, side, 2, b...), modelOf(p, side, 2, a...), modelOf(p, side, 2, b...)
				if sum := om.total(); !sum.Add(sum, xm.total()).IsInt64() {
					mustNotMerge(t, x, o, xm, om, api.ErrFull)
					refused++
					continue
				}
				mustMerge(t, x, o)
				mustHold(t, x, joined(xm, om))
			}
		}
		if refused < 50 || refused > 150 {
			t.Errorf("%d of %d are refused", refused, len(lists)*len(lists))
		}
	}
}

// P13.1: two know nothing of one another, though one was merged into the other.
func TestMergeTwo(t *testing.T) {
	p := digits(t, 1)
	for _, side := range []bins.Side{bins.Great, bins.Small} {
		a, b := made(t, p, side, 3), filled(t, p, side, 3, few...)
		am, bm := modelOf(p, side, 3, few...), modelOf(p, side, 3, few...)
		mustMerge(t, a, b)
		for _, x := range []int64{-9, -1, 0, 3, 6, 8} {
			mustAdd(t, b, often{x, 1000})
			bm.add(x, 1000)
			mustHold(t, a, am)
			mustAdd(t, a, often{-x, 3000})
			am.add(-x, 3000)
			mustHold(t, b, bm)
		}
	}
}

// P13.1: what was kept, and lost, is loaded instead of all, and goes on as if it were the same.
func TestLoad(t *testing.T) {
	random := rand.New(rand.NewSource(133))
	for _, p := range partitions(t) {
		for round := range 40 {
			side, most := bins.Side(round%2), []int{1, 2, 7, 30, limit}[random.Intn(5)]
			b, m := made(t, p, side, most), modelOf(p, side, most)
			for range random.Intn(15) {
				o := often{value(random), 1 + random.Uint64()>>9}
				mustAdd(t, b, o)
				m.add(o.x, o.n)
			}
			below, above := b.Rows()
			lost, lostAbove := b.Lost()
			again := filled(t, p, side, most, few...)
			if err := again.Load([2][]api.Pair{below, above}, [2]uint64{lost, lostAbove}, b.Zero()); err != api.OK {
				t.Fatalf("Load of %v, %v: %d", below, above, err)
			}
			mustHold(t, again, m)
			for range 5 {
				o := often{value(random), 5}
				mustAdd(t, again, o)
				m.add(o.x, o.n)
				mustHold(t, again, m)
			}
			mustMerge(t, again, b)
			mustMerge(t, b, again)
		}
	}
}

// P13.1: rows that can just be loaded: at both ends of the parts, just so close, just MaxCount, and nothing at all.
func TestLoadJust(t *testing.T) {
	c, s := table(t, 1, 10), digits(t, 1)
	last := c.Len() - 1
	for _, x := range []struct {
		p    partition
		most int
		rows [2][]api.Pair
		lost [2]uint64
		zero uint64
	}{
		{c, 1, [2][]api.Pair{}, [2]uint64{}, 0},
		{c, limit, [2][]api.Pair{{}, {}}, [2]uint64{}, count},
		{c, 1, [2][]api.Pair{{{Index: 0, Count: 1}}, {{Index: last, Count: 1}}}, [2]uint64{}, 0},
		{c, 1, [2][]api.Pair{{{Index: last, Count: count}}, nil}, [2]uint64{}, 0},
		{c, 1, [2][]api.Pair{nil, {{Index: 0, Count: count}}}, [2]uint64{}, 0},
		{c, 2, [2][]api.Pair{{{Index: 7, Count: 1}, {Index: 8, Count: 2}}, {{Index: 3, Count: 4}}}, [2]uint64{8, 16}, count - 31},
		{c, 2, [2][]api.Pair{{{Index: 7, Count: 1}, {Index: 8, Count: 2}}, {{Index: 3, Count: 4}}}, [2]uint64{8, count - 16}, 1},
		{c, 2, [2][]api.Pair{{{Index: 7, Count: 1}, {Index: 8, Count: 2}}, {{Index: 3, Count: 4}}}, [2]uint64{count - 24, 16}, 1},
		{c, 9, [2][]api.Pair{{{Index: 5, Count: 1}, {Index: 13, Count: 2}}, {{Index: 20, Count: 4}, {Index: 28, Count: 8}}}, [2]uint64{1, 0}, 0},
		{c, last + 1, [2][]api.Pair{{{Index: 0, Count: 1}, {Index: last, Count: 2}}, {{Index: 0, Count: 4}, {Index: last, Count: 8}}}, [2]uint64{0, 5}, 3},
		{s, 960, [2][]api.Pair{{{Index: 1, Count: 1}, {Index: 960, Count: 2}}, {{Index: 1, Count: 4}, {Index: 960, Count: 8}}}, [2]uint64{}, 3},
		{s, 1, [2][]api.Pair{{{Index: 960, Count: 2}}, {{Index: 1, Count: 4}}}, [2]uint64{6, 7}, 3},
	} {
		for _, side := range []bins.Side{bins.Great, bins.Small} {
			mustHold(t, loaded(t, x.p, side, x.most, x.rows, x.lost, x.zero), modelLoaded(x.p, side, x.most, x.rows, x.lost, x.zero))
		}
	}
}

// P13.1: what can't be loaded, below 0 as above it, leaves all as it was.
func TestLoadNot(t *testing.T) {
	c := table(t, 1, 10)
	end := c.Len()
	good := []api.Pair{{Index: 5, Count: 1}, {Index: 8, Count: 2}}
	for _, x := range []struct {
		row  []api.Pair
		lost uint64
	}{
		{[]api.Pair{{Index: -1, Count: 1}}, 0},
		{[]api.Pair{{Index: -1, Count: 1}, {Index: 0, Count: 1}}, 0},
		{[]api.Pair{{Index: math.MinInt, Count: 1}}, 0},
		{[]api.Pair{{Index: end, Count: 1}}, 0},
		{[]api.Pair{{Index: end - 1, Count: 1}, {Index: end, Count: 1}}, 0},
		{[]api.Pair{{Index: math.MaxInt, Count: 1}}, 0},
		{[]api.Pair{{Index: 8, Count: 1}, {Index: 5, Count: 2}}, 0},
		{[]api.Pair{{Index: 5, Count: 1}, {Index: 5, Count: 2}}, 0},
		{[]api.Pair{{Index: 5, Count: 0}}, 0},
		{[]api.Pair{{Index: 5, Count: 1}, {Index: 6, Count: 0}}, 0},
		{[]api.Pair{{Index: 5, Count: count + 1}}, 0},
		{[]api.Pair{{Index: 5, Count: count}, {Index: 6, Count: 1}}, 0},
		{[]api.Pair{{Index: 5, Count: count}, {Index: 6, Count: count}, {Index: 7, Count: 2}}, 0},
		{[]api.Pair{{Index: 5, Count: 1}, {Index: 9, Count: 1}}, 0},
		{[]api.Pair{{Index: 0, Count: 1}, {Index: end - 1, Count: 1}}, 3},
		{[]api.Pair{{Index: 0, Count: 1}, {Index: 1, Count: 1}, {Index: 2, Count: 1}, {Index: 3, Count: 1}, {Index: 4, Count: 1}}, 0},
		{nil, 1}, {[]api.Pair{}, count}, {nil, math.MaxUint64},
		{good, count - 2}, {good, count}, {good, count + 1}, {good, math.MaxUint64}, {good, math.MaxUint64 - 2},
	} {
		mustNotLoad(t, c, [2][]api.Pair{x.row, nil}, [2]uint64{x.lost, 0}, 0)
		mustNotLoad(t, c, [2][]api.Pair{nil, x.row}, [2]uint64{0, x.lost}, 0)
		mustNotLoad(t, c, [2][]api.Pair{x.row, good}, [2]uint64{x.lost, 4}, 1)
		mustNotLoad(t, c, [2][]api.Pair{good, x.row}, [2]uint64{4, x.lost}, 1)
		mustNotLoad(t, c, [2][]api.Pair{x.row, x.row}, [2]uint64{x.lost, x.lost}, count)
	}
}

// mustNotLoad tells, if rows are loaded that can't be, or are changed, or anything of the bins is.
func mustNotLoad(t *testing.T, c *cells.Table, rows [2][]api.Pair, lost [2]uint64, zero uint64) {
	t.Helper()
	for _, side := range []bins.Side{bins.Great, bins.Small} {
		for _, list := range [][]often{nil, few} {
			b := filled(t, c, side, 4, list...)
			was := [2][]api.Pair{slices.Clone(rows[0]), slices.Clone(rows[1])}
			if err := b.Load(rows, lost, zero); err != api.ErrArg {
				t.Fatalf("side %d: Load of %v, %v, %d: %d", side, rows, lost, zero, err)
			}
			if !slices.Equal(was[0], rows[0]) || !slices.Equal(was[1], rows[1]) {
				t.Fatalf("Load changed %v: %v", was, rows)
			}
			mustHold(t, b, modelOf(c, side, 4, list...))
		}
	}
}

// P13.1: too many in all aren't loaded, though each row has room, with those that are lost beside it.
func TestLoadTooMany(t *testing.T) {
	c := table(t, 1, 10)
	one, half := []api.Pair{{Index: 5, Count: 1}}, []api.Pair{{Index: 5, Count: 1 << 62}}
	for _, x := range []struct {
		rows [2][]api.Pair
		lost [2]uint64
		zero uint64
	}{
		{[2][]api.Pair{}, [2]uint64{}, count + 1},
		{[2][]api.Pair{}, [2]uint64{}, math.MaxUint64},
		{[2][]api.Pair{one, nil}, [2]uint64{}, count},
		{[2][]api.Pair{nil, one}, [2]uint64{}, count},
		{[2][]api.Pair{one, nil}, [2]uint64{}, math.MaxUint64},
		{[2][]api.Pair{nil, one}, [2]uint64{}, math.MaxUint64},
		{[2][]api.Pair{half, half}, [2]uint64{}, 0},
		{[2][]api.Pair{half, half}, [2]uint64{1, 1}, 1 << 63},
		{[2][]api.Pair{one, one}, [2]uint64{count - 1, 0}, 0},
		{[2][]api.Pair{one, one}, [2]uint64{0, count - 1}, 0},
		{[2][]api.Pair{one, one}, [2]uint64{count - 1, count - 1}, 2},
		{[2][]api.Pair{one, one}, [2]uint64{1, 2}, count - 4},
		{[2][]api.Pair{one, one}, [2]uint64{1, count - 4}, 2},
	} {
		mustNotLoad(t, c, x.rows, x.lost, x.zero)
	}
}

// P13.1: by digits nothing stands for index 0, nor for one behind 2^63's.
func TestLoadDigits(t *testing.T) {
	for n, last := range []int{960, 7296, 55296, 819200} {
		p := digits(t, n+1)
		for _, side := range []bins.Side{bins.Great, bins.Small} {
			b, m := filled(t, p, side, 3, few...), modelOf(p, side, 3, few...)
			for _, i := range []int{-1, 0, last + 1} {
				row := []api.Pair{{Index: i, Count: 1}}
				for _, rows := range [][2][]api.Pair{{row, nil}, {nil, row}} {
					if err := b.Load(rows, [2]uint64{}, 0); err != api.ErrArg {
						t.Errorf("%d digits: Load of %v: %d", n+1, rows, err)
					}
					mustHold(t, b, m)
				}
			}
			for _, i := range []int{1, last} {
				rows := [2][]api.Pair{{{Index: i, Count: 1}}, {{Index: i, Count: 2}}}
				mustHold(t, loaded(t, p, side, 3, rows, [2]uint64{}, 0), modelLoaded(p, side, 3, rows, [2]uint64{}, 0))
			}
		}
	}
}

// P13.1: rows that are loaded aren't changed, spare room included, nor kept.
func TestLoadRows(t *testing.T) {
	whole := []api.Pair{{Index: 1, Count: 1}, {Index: 3, Count: 2}, {Index: 77, Count: 78}}
	p := digits(t, 1)
	for _, side := range []bins.Side{bins.Great, bins.Small} {
		one, other := slices.Clone(whole), slices.Clone(whole)
		rows := [2][]api.Pair{one[:2], other[:2]}
		b, m := loaded(t, p, side, 4, rows, [2]uint64{9, 9}, 1), modelLoaded(p, side, 4, rows, [2]uint64{9, 9}, 1)
		for i, x := range []int64{-1, 1, -3, 3, -2, 2, -6, 6} {
			mustAdd(t, b, often{x, 1 << i})
			m.add(x, 1<<i)
		}
		if !slices.Equal(one, whole) || !slices.Equal(other, whole) {
			t.Errorf("rows are changed: %v, %v", one, other)
		}
		for i := range whole {
			one[i], other[i] = api.Pair{Index: 100, Count: 100}, api.Pair{Index: 100, Count: 100}
		}
		mustHold(t, b, m)
	}
}

// P13.1: one row, loaded on both sides of 0, is two: they go on apart.
func TestLoadTwice(t *testing.T) {
	p := digits(t, 1)
	row := []api.Pair{{Index: 5, Count: 1}, {Index: 6, Count: 2}}
	b := loaded(t, p, bins.Great, 3, [2][]api.Pair{row, row}, [2]uint64{3, 4}, 0)
	mustAdd(t, b, often{-5, 10}, often{6, 20}, often{7, 40})
	mustHave(t, b, []api.Pair{{Index: 5, Count: 11}, {Index: 6, Count: 2}}, []api.Pair{{Index: 5, Count: 1}, {Index: 6, Count: 22}, {Index: 7, Count: 40}}, [2]uint64{3, 4}, 0)
}

// P13.1: the errors of one call follow one another as the chapter names them.
func TestErrorsInOrder(t *testing.T) {
	p := digits(t, 1)
	full, other := filled(t, p, bins.Great, 2, often{5, count}), filled(t, p, bins.Small, 2, often{5, count})
	if err := full.Add(5, 0); err != api.ErrArg {
		t.Errorf("Add of none to full ones: %d", err)
	}
	if err := full.Merge(other); err != api.ErrMatch {
		t.Errorf("Merge of others that are too many: %d", err)
	}
	if err := full.Merge(full); err != api.ErrFull {
		t.Errorf("Merge of too many: %d", err)
	}
}
