package bins_test

import (
	"math"
	"math/big"
	"math/rand"
	"slices"
	"testing"

	"ogive/api"
	"ogive/bins"
)

// P13.1: the chapter's example.
func TestExample(t *testing.T) {
	b := filled(t, table(t, 1, 10), bins.Great, 10, often{100, 1}, often{-100, 1})
	if x, ok := b.Find(1); !ok || x < -110 || x > -90 {
		t.Errorf("Find of 1: %d, %t", x, ok)
	}
	if x, ok := b.Find(2); !ok || x < 90 || x > 110 {
		t.Errorf("Find of 2: %d, %t", x, ok)
	}
}

// P13.1: the sides by their numbers.
func TestSides(t *testing.T) {
	if bins.Great != 0 || bins.Small != 1 {
		t.Errorf("%d, %d", bins.Great, bins.Small)
	}
}

// P13.1: New of either side, and of as many parts as can be kept.
func TestNew(t *testing.T) {
	for _, p := range partitions(t) {
		for _, side := range []bins.Side{bins.Great, bins.Small} {
			for _, most := range []int{1, 2, 3, 100, limit - 1, limit} {
				mustHold(t, made(t, p, side, most), modelOf(p, side, most))
			}
		}
	}
}

// P13.1: New without a partition, of a side, or of so many parts, that can't be; nothing stands beside the error.
func TestNewBad(t *testing.T) {
	p := digits(t, 2)
	for _, x := range []struct {
		p    bins.Partition
		side bins.Side
		most int
	}{
		{nil, bins.Great, 1}, {nil, bins.Small, limit}, {nil, -1, 0}, {nil, 2, 5}, {nil, bins.Small, 0},
		{p, -1, 1}, {p, 2, 1}, {p, 3, limit}, {p, math.MinInt, 1}, {p, math.MaxInt, 1}, {p, 1 << 32, 1}, {p, 1<<32 + 1, 1}, {p, -2, 0},
		{p, bins.Great, 0}, {p, bins.Small, 0}, {p, bins.Great, -1}, {p, bins.Small, -1}, {p, bins.Great, limit + 1}, {p, bins.Small, limit + 1},
		{p, bins.Great, math.MinInt}, {p, bins.Small, math.MaxInt}, {p, bins.Great, 1<<32 + 1}, {p, bins.Small, -limit},
	} {
		if b, err := bins.New(x.p, x.side, x.most); b != nil || err != api.ErrArg {
			t.Errorf("New of %v, %d, %d: %v, %d", x.p, x.side, x.most, b, err)
		}
	}
}

// P13.1: nil bins have nothing, and ErrNil stands ahead of all other errors.
func TestNil(t *testing.T) {
	var none *bins.Bins
	o := filled(t, digits(t, 1), bins.Great, 2, often{5, count})
	for _, x := range []int64{least, -1, 0, 1, greatest} {
		for _, n := range []uint64{0, 1, count, count + 1, math.MaxUint64} {
			if err := none.Add(x, n); err != api.ErrNil {
				t.Errorf("Add of %d, %d: %d", x, n, err)
			}
		}
		if a, b := none.Rank(x); a != 0 || b != 0 {
			t.Errorf("Rank of %d: %d, %d", x, a, b)
		}
	}
	for _, at := range []uint64{0, 1, 2, count, math.MaxUint64} {
		if x, ok := none.Find(at); x != 0 || ok {
			t.Errorf("Find of %d: %d, %t", at, x, ok)
		}
	}
	below, above := none.Lost()
	row, rowAbove := none.Rows()
	if none.Total() != 0 || none.Zero() != 0 || none.Most() != 0 || below != 0 || above != 0 || len(row) != 0 || len(rowAbove) != 0 {
		t.Error("nil bins have something")
	}
	if none.Like(none) || none.Like(o) || o.Like(none) || none.Like(nil) {
		t.Error("nil bins are like something")
	}
	bad := [2][]api.Pair{{{Index: -1, Count: 1}}, nil}
	for _, err := range []api.Errno{
		none.Merge(none), none.Merge(nil), none.Merge(o), o.Merge(none), o.Merge(nil), made(t, digits(t, 1), bins.Small, 3).Merge(nil),
		none.Load([2][]api.Pair{}, [2]uint64{}, 0), none.Load(bad, [2]uint64{1, 1}, math.MaxUint64),
	} {
		if err != api.ErrNil {
			t.Errorf("%d, not %d", err, api.ErrNil)
		}
	}
	mustHold(t, o, modelOf(digits(t, 1), bins.Great, 2, often{5, count}))
}

// few are values of spans that hold one magnitude each, of which two parts are kept; the counts tell them apart.
var few = []often{{-10, 1}, {-9, 2}, {-7, 4}, {-3, 8}, {0, 16}, {2, 32}, {4, 64}, {5, 128}, {6, 256}}

// P13.1: what is kept and lost of these, in all orders that turn, by either side.
func TestKept(t *testing.T) {
	p := digits(t, 1)
	for by := range few {
		turned := slices.Concat(few[by:], few[:by])
		b := filled(t, p, bins.Great, 2, turned...)
		mustHave(t, b, []api.Pair{{Index: 9, Count: 2}, {Index: 10, Count: 1}}, []api.Pair{{Index: 5, Count: 128}, {Index: 6, Count: 256}}, [2]uint64{12, 96}, 16)
		b = filled(t, p, bins.Small, 2, turned...)
		mustHave(t, b, []api.Pair{{Index: 3, Count: 8}}, []api.Pair{{Index: 2, Count: 32}}, [2]uint64{7, 448}, 16)
	}
}

// P13.1: what each one of them is by Find, worked out by hand: lost ones stand next to nought by Great, farthest from it by Small.
func TestFindByHand(t *testing.T) {
	type place struct {
		up   uint64
		x    int64
		kept bool
	}
	for side, list := range [][]place{
		{{1, -10, true}, {3, -9, true}, {15, 0, false}, {31, 0, true}, {127, 0, false}, {255, 5, true}, {511, 6, true}, {600, 0, false}},
		{{7, 0, false}, {15, -3, true}, {31, 0, true}, {63, 2, true}, {511, 0, false}, {600, 0, false}},
	} {
		b := filled(t, digits(t, 1), bins.Side(side), 2, few...)
		at := uint64(1)
		for _, p := range list {
			for ; at <= p.up; at++ {
				mustFind(t, b, at, p.x, p.kept)
			}
		}
		for _, beyond := range []uint64{0, 512, count, count + 1, math.MaxUint64} {
			mustFind(t, b, beyond, 0, false)
		}
	}
}

// P13.1: Rank of values worked out by hand: around what is kept, where some are lost, at nought, and at both ends.
func TestRankByHand(t *testing.T) {
	type rank struct {
		x           int64
		least, most uint64
	}
	for side, list := range [][]rank{
		{
			{least, 0, 0}, {-40, 0, 0}, {-11, 0, 0}, {-10, 0, 1}, {-9, 1, 3}, {-8, 3, 15}, {-7, 3, 15}, {-3, 3, 15}, {-1, 3, 15},
			{0, 31, 31}, {1, 31, 127}, {2, 31, 127}, {3, 31, 127}, {4, 31, 127}, {5, 127, 255}, {6, 255, 511}, {7, 511, 511}, {greatest, 511, 511},
		},
		{
			{least, 0, 7}, {-10, 0, 7}, {-6, 0, 7}, {-5, 0, 7}, {-4, 7, 7}, {-3, 7, 15}, {-2, 15, 15}, {-1, 15, 15},
			{0, 31, 31}, {1, 31, 31}, {2, 31, 63}, {3, 63, 63}, {4, 63, 511}, {5, 63, 511}, {6, 63, 511}, {100, 63, 511}, {greatest, 63, 511},
		},
	} {
		b := filled(t, digits(t, 1), bins.Side(side), 2, few...)
		for _, r := range list {
			if a, most := b.Rank(r.x); a != r.least || most != r.most {
				t.Errorf("side %d: Rank of %d: %d, %d, not %d, %d", side, r.x, a, most, r.least, r.most)
			}
		}
	}
}

// P13.1: Rank of a part that has several magnitudes: at least those ahead of it, at most its own too.
func TestRankWide(t *testing.T) {
	b := filled(t, digits(t, 1), bins.Great, 100, often{-33, 1}, often{-40, 2}, often{32, 4}, often{36, 8}, often{0, 16})
	for _, r := range []struct {
		x           int64
		least, most uint64
	}{{-42, 0, 0}, {-41, 0, 2}, {-40, 0, 2}, {-39, 2, 2}, {-33, 2, 3}, {-32, 2, 3}, {-31, 3, 3}, {0, 19, 19}, {31, 19, 19}, {32, 19, 23}, {33, 19, 23}, {34, 23, 23}, {36, 23, 31}, {37, 23, 31}, {38, 31, 31}} {
		if least, most := b.Rank(r.x); least != r.least || most != r.most {
			t.Errorf("Rank of %d: %d, %d, not %d, %d", r.x, least, most, r.least, r.most)
		}
	}
}

// P13.1: noughts alone, and none beside values on one side of 0 alone.
func TestOneKind(t *testing.T) {
	for _, p := range partitions(t) {
		for _, side := range []bins.Side{bins.Great, bins.Small} {
			for _, list := range [][]often{{{0, 3}}, {{0, count}}, {{7, 3}}, {{-7, 3}}, {{1, 1}, {1000, 2}}, {{-1, 1}, {-1000, 2}}, {{-1, 1}, {1, 2}}} {
				for _, most := range []int{1, 3, limit} {
					mustHold(t, filled(t, p, side, most, list...), modelOf(p, side, most, list...))
				}
			}
		}
	}
}

// P13.1: the least and the greatest value, of which what stands for the former's magnitude may be 2^63.
func TestEnds(t *testing.T) {
	list := []often{{least, 1}, {greatest, 2}, {least + 1, 4}, {greatest - 1, 8}, {-greatest / 2, 16}, {1, 32}, {-1, 64}}
	for _, p := range partitions(t) {
		for _, side := range []bins.Side{bins.Great, bins.Small} {
			for _, most := range []int{1, 2, 5, limit} {
				mustHold(t, filled(t, p, side, most, list...), modelOf(p, side, most, list...))
			}
		}
	}
	b := filled(t, digits(t, 3), bins.Great, 2, often{least, 1}, often{greatest, 1})
	mustFind(t, b, 1, least, true)
	mustFind(t, b, 2, 1<<63-1-1<<51, true)
	c := table(t, 1, 2)
	rep := int64(c.Rep(c.Len() - 1))
	b = filled(t, c, bins.Great, 2, often{least, 1}, often{greatest, 1})
	mustFind(t, b, 1, -rep, true)
	mustFind(t, b, 2, rep, true)
}

// P13.1: of a part for which 2^63 stands: the least value below 0, above it the greatest one.
func TestStands(t *testing.T) {
	for _, n := range []int{1, 2, 3, 4} {
		p := digits(t, n)
		last, _ := p.Index(1 << 63)
		row := []api.Pair{{Index: last - 1, Count: 2}, {Index: last, Count: 1}}
		for _, side := range []bins.Side{bins.Great, bins.Small} {
			b := loaded(t, p, side, 2, [2][]api.Pair{row, row}, [2]uint64{}, 0)
			mustFind(t, b, 1, least, true)
			mustFind(t, b, 2, -int64(p.Rep(last-1)), true)
			mustFind(t, b, 5, int64(p.Rep(last-1)), true)
			mustFind(t, b, 6, greatest, true)
		}
	}
}

// P13.1: Add of none is ErrArg, whether there is room or not.
func TestAddNone(t *testing.T) {
	p := digits(t, 2)
	for _, list := range [][]often{nil, {{5, 1}}, {{5, count}}, {{-5, count}}, {{0, count}}, {{-5, 1}, {0, 2}, {5, count - 3}}} {
		b, m := filled(t, p, bins.Great, 3, list...), modelOf(p, bins.Great, 3, list...)
		for _, x := range []int64{least, -5, -1, 0, 1, 5, greatest} {
			mustRefuse(t, b, m, x, 0, api.ErrArg)
		}
	}
}

// P13.1: together there are at most MaxCount: below 0, noughts and above it, lost ones too; what is refused changes nothing.
func TestAddTooMany(t *testing.T) {
	p := digits(t, 1)
	for _, side := range []bins.Side{bins.Great, bins.Small} {
		empty := made(t, p, side, 2)
		for _, n := range []uint64{count + 1, count + 2, 1 << 63, math.MaxUint64} {
			for _, x := range []int64{least, 0, greatest} {
				mustRefuse(t, empty, modelOf(p, side, 2), x, n, api.ErrFull)
			}
		}
		for _, list := range [][]often{
			{{5, count}},
			{{-5, count}},
			{{0, count}},
			{{-5, 1 << 61}, {0, 1 << 62}, {5, 1<<61 - 1}},
			{{-5, 1}, {-9, 2}, {-1, count - 6}, {5, 3}},
			{{0, count - 1}, {7, 1}},
			{{5, 1}, {9, 2}, {1, count - 6}, {-5, 3}},
		} {
			b, m := filled(t, p, side, 2, list...), modelOf(p, side, 2, list...)
			mustHold(t, b, m)
			for _, x := range []int64{least, -9, -5, -1, 0, 1, 5, 9, greatest} {
				for _, n := range []uint64{1, 2, count, count + 1, math.MaxUint64} {
					mustRefuse(t, b, m, x, n, api.ErrFull)
				}
			}
		}
	}
}

// P13.1: just MaxCount have room, and not 1 more, wherever the value lies.
func TestAddJust(t *testing.T) {
	p := digits(t, 1)
	list := []often{{-5, 1 << 60}, {-2, 1 << 60}, {0, 1 << 61}, {5, 1 << 60}, {9, count - 1<<61 - 3<<60 - 10}}
	for _, side := range []bins.Side{bins.Great, bins.Small} {
		for _, x := range []int64{least, -5, -3, -1, 0, 1, 5, 9, 100, greatest} {
			b, m := filled(t, p, side, 2, list...), modelOf(p, side, 2, list...)
			mustRefuse(t, b, m, x, 11, api.ErrFull)
			mustAdd(t, b, often{x, 10})
			m.add(x, 10)
			mustHold(t, b, m)
			mustRefuse(t, b, m, x, 1, api.ErrFull)
		}
	}
}

// P13.1: many calls in every order, against all that was added, with every call asked on the way.
func TestMany(t *testing.T) {
	random := rand.New(rand.NewSource(13))
	errs, lost := map[api.Errno]int{}, 0
	for _, p := range partitions(t) {
		for round := range 60 {
			side, most := bins.Side(round%2), 1+random.Intn(1+random.Intn(60))
			b, m := made(t, p, side, most), modelOf(p, side, most)
			shift := random.Intn(64)
			for range 1 + random.Intn(25) {
				x, n := value(random), random.Uint64()>>shift
				if random.Intn(20) == 0 {
					n = 0
				}
				want := m.add(x, n)
				errs[want]++
				if err := b.Add(x, n); err != want {
					t.Fatalf("Add of %d, %d: %d, not %d", x, n, err, want)
				}
				mustHold(t, b, m)
			}
			if below, above := b.Lost(); below != 0 && above != 0 {
				lost++
			}
		}
	}
	if errs[api.OK] < 1000 || errs[api.ErrArg] < 100 || errs[api.ErrFull] < 100 || lost < 50 {
		t.Errorf("too few of a kind: %v, %d", errs, lost)
	}
}

// P13.2: what Find answers stands for the very value, unless that is lost; Rank of it is no more, and no less, than is told.
func TestVery(t *testing.T) {
	random := rand.New(rand.NewSource(132))
	kept, lost := 0, 0
	for _, p := range partitions(t) {
		for round := range 60 {
			side, most := bins.Side(round%2), []int{1, 2, 5, 20, 300, limit}[random.Intn(6)]
			b := made(t, p, side, most)
			var all []int64
			for range 1 + random.Intn(80) {
				x, n := value(random), 1+random.Intn(4)
				mustAdd(t, b, often{x, uint64(n)})
				all = append(all, slices.Repeat([]int64{x}, n)...)
			}
			slices.Sort(all)
			m := modelOf(p, side, most)
			for _, x := range all {
				m.add(x, 1)
			}
			for i, x := range all {
				stands, keeps := m.stands(x)
				mustFind(t, b, uint64(i+1), stands, keeps)
				if keeps {
					mustLie(t, stands, x, p.Part())
					kept++
				} else {
					lost++
				}
				for _, y := range []int64{x - 1, x, x + 1, -x, value(random)} {
					mustSurround(t, b, all, y)
				}
			}
		}
	}
	if kept < 2000 || lost < 2000 {
		t.Errorf("too few of a kind: %d, %d", kept, lost)
	}
}

// mustSurround tells, if as many values of all, in order, as there are up to one aren't between what Rank tells.
func mustSurround(t *testing.T, b *bins.Bins, all []int64, x int64) {
	t.Helper()
	at, found := slices.BinarySearch(all, x)
	for found && at < len(all) && all[at] == x {
		at++
	}
	least, most := b.Rank(x)
	if uint64(at) < least || uint64(at) > most || most > uint64(len(all)) {
		t.Fatalf("Rank of %d, up to which there are %d of %d: %d, %d", x, at, len(all), least, most)
	}
}

// P13.1: rows are new memory, each time: what is written into one, or behind it, is seen nowhere.
func TestRowsNew(t *testing.T) {
	list := []often{{-3, 1}, {-5, 2}, {7, 3}, {8, 4}}
	p := digits(t, 1)
	for _, side := range []bins.Side{bins.Great, bins.Small} {
		b, m := filled(t, p, side, 4, list...), modelOf(p, side, 4, list...)
		below, above := b.Rows()
		older, olderAbove := b.Rows()
		for _, row := range [][]api.Pair{below, above} {
			for i := range row {
				row[i] = api.Pair{Index: 9, Count: 9}
			}
			_ = append(row, api.Pair{Index: 77, Count: 78})
		}
		mustHold(t, b, m)
		for _, x := range []int64{-3, -4, 7, 9} {
			mustAdd(t, b, often{x, 5})
			m.add(x, 5)
		}
		mustHold(t, b, m)
		if !slices.Equal(older, []api.Pair{{Index: 3, Count: 1}, {Index: 5, Count: 2}}) || !slices.Equal(olderAbove, []api.Pair{{Index: 7, Count: 3}, {Index: 8, Count: 4}}) {
			t.Errorf("rows of before: %v, %v", older, olderAbove)
		}
	}
}

// P13.1: what is like: the side and most, not what is there, nor the partition.
func TestLike(t *testing.T) {
	p := digits(t, 1)
	list := []*bins.Bins{
		made(t, p, bins.Great, 1), made(t, p, bins.Great, 2), made(t, p, bins.Great, limit),
		made(t, p, bins.Small, 1), made(t, p, bins.Small, 2), made(t, p, bins.Small, limit),
	}
	more := []*bins.Bins{
		filled(t, p, bins.Great, 1, often{1, 1}), filled(t, digits(t, 1), bins.Great, 2, often{-1, 5}), filled(t, table(t, 1, 10), bins.Great, limit, often{0, 7}),
		filled(t, p, bins.Small, 1, often{1, 1}), filled(t, digits(t, 1), bins.Small, 2, often{-1, 5}, often{-2, 5}, often{-9, 5}), made(t, p, bins.Small, limit),
	}
	for i, b := range list {
		for j := range list {
			if b.Like(list[j]) != (i == j) || b.Like(more[j]) != (i == j) || more[j].Like(b) != (i == j) {
				t.Errorf("%d, %d: %t, %t, %t", i, j, b.Like(list[j]), b.Like(more[j]), more[j].Like(b))
			}
		}
	}
}

// P13.1: two know nothing of one another, though they are of one partition.
func TestTwo(t *testing.T) {
	p := table(t, 1, 100)
	a, b := filled(t, p, bins.Great, 2, few...), filled(t, p, bins.Great, 2, few...)
	am, bm := modelOf(p, bins.Great, 2, few...), modelOf(p, bins.Great, 2, few...)
	for _, x := range []int64{-100, 0, 100} {
		mustAdd(t, a, often{x, 3})
		am.add(x, 3)
		mustHold(t, a, am)
		mustHold(t, b, bm)
		mustAdd(t, b, often{-x / 2, 7})
		bm.add(-x/2, 7)
		mustHold(t, a, am)
		mustHold(t, b, bm)
	}
}

// P13.1: a store that is quite full on either side of 0, and what leaves it.
func TestFull(t *testing.T) {
	p := digits(t, 4)
	for _, side := range []bins.Side{bins.Great, bins.Small} {
		b, m := made(t, p, side, limit), modelOf(p, side, limit)
		for i := range int64(limit) {
			for _, x := range []int64{i + 2, -i - 2} {
				mustAdd(t, b, often{x, uint64(i + 1)})
				m.add(x, uint64(i+1))
			}
		}
		mustHold(t, b, m)
		if below, above := b.Lost(); below != 0 || above != 0 {
			t.Errorf("side %d: %d, %d are lost", side, below, above)
		}
		for _, x := range []int64{limit + 2, -1, 1, -limit - 3} {
			mustAdd(t, b, often{x, 5})
			m.add(x, 5)
		}
		mustHold(t, b, m)
		want := [][2]uint64{{5 + 1 + 2, 5 + 1}, {limit + 5, limit + 5}}[side]
		if below, above := b.Lost(); below != want[0] || above != want[1] {
			t.Errorf("side %d: %d, %d are lost, not %v", side, below, above, want)
		}
	}
}

// P13.1: no number goes round, where MaxCount are there, of all kinds.
func TestGreatCounts(t *testing.T) {
	p := digits(t, 2)
	for _, list := range [][]often{
		{{-5, count}}, {{5, count}}, {{0, count}},
		{{-5, count - 2}, {0, 1}, {5, 1}}, {{-5, 1}, {0, count - 2}, {5, 1}}, {{-5, 1}, {0, 1}, {5, count - 2}},
		{{-5, 1}, {-500, count - 3}, {0, 1}, {5, 1}}, {{-5, 1}, {0, 1}, {500, count - 3}, {5, 1}},
	} {
		for _, side := range []bins.Side{bins.Great, bins.Small} {
			b := filled(t, p, side, 1, list...)
			mustHold(t, b, modelOf(p, side, 1, list...))
			if got := new(big.Int).SetUint64(b.Total()); !got.IsInt64() || got.Int64() != greatest {
				t.Errorf("Total: %d", got)
			}
		}
	}
}
