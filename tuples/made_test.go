package tuples_test

import (
	"math/rand"
	"slices"
	"testing"

	"ogive/api"
	"ogive/tuples"
)

// made is a row, made by the calls, and all values that went into it, in order.
type made struct {
	row []tuples.Tuple
	xs  []int64
}

func (m made) insert(x int64) made {
	at, _ := slices.BinarySearch(m.xs, x)
	return made{tuples.Insert(slices.Clone(m.row), x), slices.Insert(slices.Clone(m.xs), at, x)}
}

func (m made) squeeze(limit uint64) made {
	return made{tuples.Squeeze(slices.Clone(m.row), limit), m.xs}
}

func (m made) merge(o made) made {
	xs := append(slices.Clone(m.xs), o.xs...)
	slices.Sort(xs)
	return made{tuples.Merge(m.row, o.row), xs}
}

// stands is the first place, and the last one, at which a value stands.
func (m made) stands(x int64) (uint64, uint64) {
	first, _ := slices.BinarySearch(m.xs, x)
	last := first
	for last < len(m.xs) && m.xs[last] == x {
		last++
	}
	return uint64(first) + 1, uint64(last)
}

// mustStand holds a row that was made against all values: it can be, and each value stands where its tuple tells; so do the ends.
func mustStand(t *testing.T, m made) {
	t.Helper()
	if n, ok := tuples.Total(m.row); !ok || n != uint64(len(m.xs)) || !tuples.Good(m.row) {
		t.Fatalf("%v of %v: %d, %t, %t", m.row, m.xs, n, ok, tuples.Good(m.row))
	}
	var place uint64
	for _, one := range m.row {
		place += one.Step
		if first, last := m.stands(one.X); first > last || last < place || place+one.Slack < first {
			t.Fatalf("%d stands from %d to %d, not from %d to %d: %v of %v", one.X, first, last, place, place+one.Slack, m.row, m.xs)
		}
	}
	if len(m.xs) > 0 && (m.row[0].X != m.xs[0] || m.row[len(m.row)-1].X != m.xs[len(m.xs)-1]) {
		t.Fatalf("ends of %v: %v", m.xs, m.row)
	}
}

// mustFind holds Find at all places, and Rank at all values and beside them, against all values.
func mustFind(t *testing.T, m made) {
	t.Helper()
	var g uint64
	for _, one := range m.row {
		g = max(g, one.Step+one.Slack)
	}
	for place := uint64(1); place <= uint64(len(m.xs)); place++ {
		x, ok := tuples.Find(m.row, place)
		first, last := m.stands(x)
		if !ok || first > last || 2*gap(first, last, place) > g {
			t.Fatalf("place %d, where both are never above %d: %d, %t, from %d to %d: %v of %v", place, g, x, ok, first, last, m.row, m.xs)
		}
	}
	for _, x := range m.xs {
		for _, y := range []int64{x - 1, x, x + 1} {
			mustRank(t, m, y)
		}
	}
}

func mustRank(t *testing.T, m made, x int64) {
	t.Helper()
	at, _ := slices.BinarySearch(m.xs, x+1)
	if least, most := tuples.Rank(m.row, x); least > uint64(at) || most < uint64(at) {
		t.Fatalf("up to %d there are %d, not from %d to %d: %v of %v", x, at, least, most, m.row, m.xs)
	}
}

// gap is how far a place lies from the closest one between two.
func gap(first, last, place uint64) uint64 {
	switch {
	case place < first:
		return first - place
	case place > last:
		return place - last
	}
	return 0
}

// P18.2 and P18.3: all rows that few calls make: of up to six values, each inserted, with each limit behind each; and the short ones merged.
func TestMadeSmall(t *testing.T) {
	list := []made{{}}
	seen := len(list)
	var merging []made
	for long := range 6 {
		var longer []made
		for _, m := range list {
			for x := range int64(3) {
				for limit := range uint64(7) {
					longer = append(longer, m.insert(x).squeeze(limit))
				}
			}
		}
		list = different(longer)
		seen += len(list)
		for _, m := range list {
			mustStand(t, m)
			mustFind(t, m)
		}
		if long < 4 {
			merging = append(merging, list...)
		}
	}
	for _, m := range merging {
		for _, o := range merging {
			both := m.merge(o)
			mustStand(t, both)
			mustFind(t, both)
		}
	}
	t.Logf("%d rows", seen)
}

// different leaves one of each that are the same.
func different(list []made) []made {
	var some []made
	for _, m := range list {
		if !slices.ContainsFunc(some, func(o made) bool { return slices.Equal(m.row, o.row) && slices.Equal(m.xs, o.xs) }) {
			some = append(some, m)
		}
	}
	return some
}

// P18.2 and P18.3: rows made by all three calls in any order, by any tree, of few values and of many.
func TestMade(t *testing.T) {
	source := rand.New(rand.NewSource(183))
	for range 400 {
		width, limits := int64(1)<<source.Intn(10), uint64(1)<<source.Intn(7)
		list := make([]made, 1+source.Intn(4))
		for range source.Intn(250) {
			i := source.Intn(len(list))
			switch source.Intn(12) {
			case 0:
				list[i] = list[i].squeeze(source.Uint64() % limits)
			case 1:
				j := source.Intn(len(list))
				if len(list[i].xs)+len(list[j].xs) < 300 {
					list[i] = list[i].merge(list[j])
				}
			default:
				list[i] = list[i].insert(source.Int63n(width))
			}
			mustStand(t, list[i])
		}
		for _, m := range list {
			mustFind(t, m)
		}
	}
}

// P18.2: extreme values, and no limit at all: what stays is the least and the greatest one.
func TestMadeEnds(t *testing.T) {
	var m made
	for _, x := range []int64{0, highest, lowest, lowest + 1, highest - 1, -1, 1, lowest, highest} {
		m = m.insert(x)
		mustStand(t, m)
	}
	mustBe(t, "Squeeze", m.row, m.squeeze(all).row, []tuples.Tuple{{lowest, 1, 0}, {highest, 8, 0}})
	mustStand(t, m.squeeze(all))
	mustStand(t, m.squeeze(all).merge(m).merge(m.squeeze(4)))
}

// P18.2 and P18.3: by the limit of a closeness, as a sketch has it: many values in falling, in rising and in any order, and few tuples.
func TestMadeByLimit(t *testing.T) {
	source := rand.New(rand.NewSource(184))
	for _, a := range []api.Ratio{{Num: 1, Den: 10}, {Num: 1, Den: 100}, {Num: 1, Den: 2}, {Num: 3, Den: 40}} {
		for _, way := range []func(i int) int64{
			func(i int) int64 { return int64(i) },
			func(i int) int64 { return int64(-i) },
			func(int) int64 { return source.Int63n(5000) },
			func(int) int64 { return source.Int63n(5) },
			func(i int) int64 { return int64(i % 2 * (10000 - i)) },
		} {
			var m made
			for i := range 2000 {
				m = m.insert(way(i))
				if i%16 == 15 {
					limit := tuples.Limit(a, uint64(len(m.xs)))
					m = m.squeeze(limit)
					mustStand(t, m)
					mustKeep(t, m, limit)
				}
			}
			mustFind(t, m)
			both := m.merge(m.squeeze(70))
			mustStand(t, both)
			mustFind(t, both)
		}
	}
}

// mustKeep holds that no tuple's step and slack together are above a limit.
func mustKeep(t *testing.T, m made, limit uint64) {
	t.Helper()
	for _, one := range m.row {
		if one.Step+one.Slack > limit {
			t.Fatalf("%v is above %d", one, limit)
		}
	}
}
