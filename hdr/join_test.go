package hdr_test

import (
	"math"
	"math/rand"
	"slices"
	"testing"

	"ogive/api"
	"ogive/hdr"
)

// mustJoin tells, if one doesn't have all of another one behind Join, or that one isn't as it was.
func mustJoin(t *testing.T, s, o *hdr.Sketch, m, om *model) api.Errno {
	t.Helper()
	want := m.join(om)
	if err := s.Join(o); err != want {
		t.Fatalf("Join: %d, not %d", err, want)
	}
	mustHold(t, s, m)
	mustHold(t, o, om)
	return want
}

// P15.1, P15.2: what was put to many, joined by any tree, is as if all were put to one; those that were joined stay.
func TestJoinTree(t *testing.T) {
	random := rand.New(rand.NewSource(153))
	for digits := 1; digits <= 4; digits++ {
		for range 20 {
			c := config(digits, 0)
			all := modelOf(c)
			var nodes []*hdr.Sketch
			var models []*model
			for range 1 + random.Intn(6) {
				s, m := made(t, c), modelOf(c)
				for range random.Intn(8) {
					o := often{value(random), 1 + random.Uint64()>>9}
					mustPut(t, s, o)
					m.put(o.x, o.n)
					all.put(o.x, o.n)
				}
				nodes, models = append(nodes, s), append(models, m)
			}
			for len(nodes) > 1 {
				random.Shuffle(len(nodes), func(i, j int) {
					nodes[i], nodes[j] = nodes[j], nodes[i]
					models[i], models[j] = models[j], models[i]
				})
				mustJoin(t, nodes[0], nodes[1], models[0], models[1])
				nodes, models = slices.Delete(nodes, 1, 2), slices.Delete(models, 1, 2)
			}
			mustHold(t, nodes[0], all)
		}
	}
}

// P15.1: both ways round, of empty ones too: the ends are those of both; a nought is an end like others.
func TestJoinEnds(t *testing.T) {
	lists := [][]often{nil, {{0, 2}}, {{4, 1}}, {{-4, 1}}, {{4, 1}, {9, 2}}, {{-4, 1}, {-9, 2}}, {{-4, 1}, {0, 2}, {9, 4}}, {{least, 1}}, {{greatest, 1}}, {{32, 1}, {1000000, 1}}, {{33, 1}, {-33, 1}}}
	for _, c := range []hdr.Config{config(1, 0), config(3, most)} {
		for _, a := range lists {
			for _, b := range lists {
				mustJoin(t, filled(t, c, a...), filled(t, c, b...), modelOf(c, a...), modelOf(c, b...))
			}
		}
	}
}

// P15.1: one joined into itself has all twice, if there is room.
func TestJoinItself(t *testing.T) {
	for digits := 1; digits <= 4; digits++ {
		for _, list := range [][]often{nil, {{0, 7}}, {{5, 1}, {-900, 2}}, {{-5, 1 << 60}, {0, 1 << 60}, {5, 1 << 60}, {9, 1<<60 - 1}}, {{least, 1 << 61}, {greatest, 1 << 61}}} {
			c := config(digits, 0)
			s, m := filled(t, c, list...), modelOf(c, list...)
			mustJoin(t, s, s, m, m)
		}
	}
}

// P15.1: two know nothing of one another behind a Join.
func TestJoinApart(t *testing.T) {
	c := config(2, 0)
	for _, first := range [][]often{nil, {{5, 1}}, {{-7, 1}, {9, 1}}} {
		s, o := filled(t, c, first...), filled(t, c, often{-7, 2}, often{9, 1}, often{0, 2})
		m, om := modelOf(c, first...), modelOf(c, often{-7, 2}, often{9, 1}, often{0, 2})
		mustJoin(t, s, o, m, om)
		for _, x := range []often{{greatest, 3}, {9, 1}, {-7, 5}, {0, 1}} {
			mustPut(t, o, x)
			om.put(x.x, x.n)
		}
		mustHold(t, s, m)
		mustHold(t, o, om)
		for _, x := range []often{{least, 3}, {9, 7}, {-7, 6}, {0, 9}} {
			mustPut(t, s, x)
			m.put(x.x, x.n)
		}
		mustHold(t, s, m)
		mustHold(t, o, om)
	}
}

// P15.1: another number of digits is ErrMatch, also of one without values, and ahead of ErrRange and ErrFull; another limit alone isn't, and each one keeps its own.
func TestJoinMatch(t *testing.T) {
	for digits := 1; digits <= 4; digits++ {
		for other := 1; other <= 4; other++ {
			for _, limits := range [][2]uint64{{0, 0}, {10, 10}, {10, 0}, {0, 10}, {7, most}, {6, 10}} {
				c, oc := config(digits, limits[0]), config(other, limits[1])
				for _, n := range []uint64{1, count} {
					s, m := filled(t, c, often{5, n}), modelOf(c, often{5, n})
					err := mustJoin(t, s, filled(t, oc, often{-7, n}), m, modelOf(oc, often{-7, n}))
					if (digits != other) != (err == api.ErrMatch) {
						t.Fatalf("%v and %v: %d", c, oc, err)
					}
					s, m = filled(t, c, often{5, n}), modelOf(c, often{5, n})
					mustJoin(t, s, made(t, oc), m, modelOf(oc))
				}
				mustJoin(t, made(t, c), made(t, oc), modelOf(c), modelOf(oc))
			}
		}
	}
}

// P15.1: of one whose least or greatest value lies beyond the limit it is ErrRange, ahead of ErrFull, and nothing changes; the limit itself is taken.
func TestJoinRange(t *testing.T) {
	for _, x := range []struct {
		limit uint64
		list  []often
		want  api.Errno
	}{
		{40, []often{{41, 1}}, api.ErrRange}, {40, []often{{-41, 1}}, api.ErrRange}, {40, []often{{40, 1}, {-41, 1}}, api.ErrRange}, {40, []often{{-40, 1}, {41, 1}}, api.ErrRange},
		{40, []often{{40, 1}, {-40, 2}, {0, 3}}, api.OK}, {40, []often{{0, 1}}, api.OK}, {40, nil, api.OK}, {40, []often{{1, 1}, {42, 1}, {2, 1}}, api.ErrRange},
		{40, []often{{41, count}}, api.ErrRange}, {40, []often{{-41, count}}, api.ErrRange}, {40, []often{{40, count}}, api.ErrFull}, {0, []often{{41, count}}, api.ErrFull},
		{greatest, []often{{least, 1}}, api.ErrRange}, {greatest, []often{{-greatest, 1}, {greatest, 1}}, api.OK}, {most, []often{{least, 1}, {greatest, 1}}, api.OK},
		{0, []often{{least, 1}, {greatest, 1}}, api.OK}, {1, []often{{-1, 1}, {1, 1}}, api.OK}, {1, []often{{-2, 1}}, api.ErrRange},
	} {
		for digits := 1; digits <= 4; digits++ {
			c, free := config(digits, x.limit), config(digits, 0)
			s, m := filled(t, c, often{1, 3}, often{-1, 2}), modelOf(c, often{1, 3}, often{-1, 2})
			if err := mustJoin(t, s, filled(t, free, x.list...), m, modelOf(free, x.list...)); err != x.want {
				t.Errorf("Join of %v by %v: %d, not %d", x.list, c, err, x.want)
			}
		}
	}
}

// P15.1: together they are at most MaxCount: 1 more is ErrFull, and nothing changes.
func TestJoinTooMany(t *testing.T) {
	c := config(1, 0)
	for _, x := range [][2]often{
		{{5, count}, {-9, 1}}, {{5, count - 1}, {1000, 1}}, {{5, count - 1}, {-1000, 2}}, {{0, count}, {0, count}}, {{5, count}, {5, count}}, {{-5, count}, {-5, count}},
		{{-7, 1 << 62}, {3, 1 << 62}}, {{-7, 1 << 62}, {3, 1<<62 - 1}}, {{-7, 1}, {least, count}}, {{0, 1}, {greatest, count - 1}}, {{0, 1}, {0, count - 1}},
	} {
		mustJoin(t, filled(t, c, x[0]), filled(t, c, x[1]), modelOf(c, x[0]), modelOf(c, x[1]))
		mustJoin(t, filled(t, c, x[1]), filled(t, c, x[0]), modelOf(c, x[1]), modelOf(c, x[0]))
	}
}

// row is one with so many spans side by side, from an index on, with one value each; by four digits these are magnitudes, too, up to 32767.
func row(from, n int) []api.Pair {
	var list []api.Pair
	for i := range n {
		list = append(list, api.Pair{Index: from + i, Count: 1})
	}
	return list
}

// P15.1: together they have at most MaxCells spans on each side: 1 more is ErrFull, and nothing changes, on the other side either.
func TestJoinSpans(t *testing.T) {
	c := config(4, 0)
	for _, x := range []struct {
		from, n, oFrom, oN int
		want               api.Errno
	}{
		{1, 4096, 1, 4096, api.OK}, {1, 4096, 1, 1, api.OK}, {1, 4096, 4096, 1, api.OK}, {1, 4096, 4097, 1, api.ErrFull}, {2, 4096, 1, 1, api.ErrFull}, {2, 4096, 1, 4096, api.ErrFull},
		{1, 2048, 2049, 2048, api.OK}, {1, 2048, 2049, 2049, api.ErrFull}, {1, 2048, 2048, 2049, api.OK}, {1, 1, 2, 4096, api.ErrFull}, {4096, 1, 1, 4096, api.OK},
	} {
		rows := func(side, from, n int) ([]api.Pair, []api.Pair) {
			if side == 0 {
				return row(from, n), row(5, 3)
			}
			return row(5, 3), row(from, n)
		}
		for side := range 2 {
			minus, plus := rows(side, x.from, x.n)
			oMinus, oPlus := rows(side, x.oFrom, x.oN)
			// Magnitudes and indexes are one here, and so the ends are those of the rows.
			s := loaded(t, c, minus, plus, 1, -int64(minus[len(minus)-1].Index), int64(plus[len(plus)-1].Index))
			o := loaded(t, c, oMinus, oPlus, 1, -int64(oMinus[len(oMinus)-1].Index), int64(oPlus[len(oPlus)-1].Index))
			m, om := modelOfRows(c, minus, plus, 1), modelOfRows(c, oMinus, oPlus, 1)
			mustTell(t, s, m)
			if want := m.join(om); want != x.want {
				t.Fatalf("%v: %d", x, want)
			}
			if err := s.Join(o); err != x.want {
				t.Fatalf("%v: %d, not %d", x, err, x.want)
			}
			mustTell(t, s, m)
			mustTell(t, o, om)
		}
	}
}

// modelOfRows is a model of rows whose spans have one magnitude each, and noughts.
func modelOfRows(c hdr.Config, minus, plus []api.Pair, zero uint64) *model {
	m := modelOf(c)
	for _, p := range minus {
		m.all[-int64(p.Index)] += p.Count
	}
	for _, p := range plus {
		m.all[int64(p.Index)] += p.Count
	}
	if zero > 0 {
		m.all[0] = zero
	}
	return m
}

// P15.1: one that is loaded goes on, as the one it came from does.
func TestLoadGoesOn(t *testing.T) {
	random := rand.New(rand.NewSource(154))
	for _, c := range configs() {
		for range 6 {
			s, m, more := made(t, c), modelOf(c), modelOf(c)
			for range random.Intn(12) {
				o := often{value(random), 1 + random.Uint64()>>9}
				if s.Put(o.x, o.n) == api.OK {
					m.put(o.x, o.n)
					more.put(o.x, o.n)
				}
			}
			back := again(t, s)
			o := often{value(random), 5}
			if want := more.put(o.x, o.n); back.Put(o.x, o.n) != want {
				t.Fatalf("Put of %v isn't %d", o, want)
			}
			mustHold(t, back, more)
			mustHold(t, s, m)
			mustJoin(t, back, s, more, m)
			mustJoin(t, s, back, m, more)
		}
	}
}

// P15.1: Load of what can't be is ErrArg, and nothing beside it, on either side; what just can be is taken.
func TestLoadBad(t *testing.T) {
	last := map[int]int{1: 60 * 16, 2: 57 * 128, 3: 54 * 1024, 4: 50 * 16384}
	one := []api.Pair{{Index: 1, Count: 1}}
	for digits := 1; digits <= 4; digits++ {
		c := config(digits, 0)
		end := last[digits]
		good := [][]api.Pair{nil, {}, one, {{Index: 1, Count: count - 1}}, {{Index: 1, Count: 2}, {Index: 2, Count: 1}, {Index: end, Count: 1}}, {{Index: end, Count: 3}}}
		bad := [][]api.Pair{
			{{Index: 0, Count: 1}}, {{Index: -1, Count: 1}}, {{Index: end + 1, Count: 1}}, {{Index: math.MaxInt, Count: 1}}, {{Index: math.MinInt, Count: 1}}, {{Index: 1, Count: 1}, {Index: end + 1, Count: 1}},
			{{Index: 0, Count: 1}, {Index: 1, Count: 1}}, {{Index: 1, Count: 0}}, {{Index: 1, Count: 1}, {Index: 2, Count: 0}}, {{Index: 2, Count: 1}, {Index: 1, Count: 1}}, {{Index: 2, Count: 1}, {Index: 2, Count: 1}},
			{{Index: 1, Count: count + 1}}, {{Index: 1, Count: math.MaxUint64}}, {{Index: 1, Count: count}, {Index: 2, Count: 1}}, {{Index: 1, Count: count}, {Index: 2, Count: count}, {Index: 3, Count: 2}},
		}
		for _, r := range good {
			loaded(t, c, r, one, 0, -1, 1)
			loaded(t, c, one, r, 0, -1, 1)
		}
		for _, r := range bad {
			mustNotLoad(t, c, r, one, 0, -1, 1)
			mustNotLoad(t, c, one, r, 0, -1, 1)
			mustNotLoad(t, c, r, nil, 0, -1, 1)
			mustNotLoad(t, c, nil, r, 0, 0, 0)
		}
	}
	c := config(4, 0)
	loaded(t, c, row(1, limit), row(7, limit), 3, -1, 1)
	mustNotLoad(t, c, row(1, limit+1), nil, 0, -1, 1)
	mustNotLoad(t, c, nil, row(1, limit+1), 0, -1, 1)
	mustNotLoad(t, c, row(1, limit), row(9, 3*limit), 0, -1, 1)
}

// mustNotLoad tells, if a Load isn't refused.
func mustNotLoad(t *testing.T, c hdr.Config, minus, plus []api.Pair, zero uint64, low, high int64) {
	t.Helper()
	if s, err := hdr.Load(c, minus, plus, zero, low, high); s != nil || err != api.ErrArg {
		t.Fatalf("Load of %v, %v, %v, %d, %d to %d: %v, %d", c, minus, plus, zero, low, high, s, err)
	}
}

// P15.1: rows and noughts together are at most MaxCount, and not 1 more.
func TestLoadTooMany(t *testing.T) {
	c := config(1, 0)
	of := func(n uint64) []api.Pair {
		if n == 0 {
			return nil
		}
		return []api.Pair{{Index: 5, Count: n}}
	}
	for _, x := range [][3]uint64{{count, 0, 0}, {0, count, 0}, {0, 0, count}, {1 << 62, 1 << 61, 1<<61 - 1}, {1, count - 2, 1}, {count - 1, 0, 1}, {0, 1, count - 1}} {
		s := loaded(t, c, of(x[0]), of(x[1]), x[2], -5, 5)
		if s.Total() != count || s.Zero() != x[2] {
			t.Errorf("%v: %d, %d", x, s.Total(), s.Zero())
		}
		for i := range x {
			y := x
			y[i]++
			mustNotLoad(t, c, of(y[0]), of(y[1]), y[2], -5, 5)
			y[i] = math.MaxUint64
			mustNotLoad(t, c, of(y[0]), of(y[1]), y[2], -5, 5)
		}
	}
	mustNotLoad(t, c, of(count), of(count), 2, -5, 5)
	mustNotLoad(t, c, of(count), of(count), count, -5, 5)
	mustNotLoad(t, c, nil, nil, math.MaxUint64, -5, 5)
	mustNotLoad(t, c, nil, nil, count+1, 0, 0)
}

// P15.1: the least end isn't above the greatest one; of no values both are 0. What else they are isn't held against the rows, nor against the limit: answers are cut to them, and they grow with what comes.
func TestLoadEnds(t *testing.T) {
	half := api.Ratio{Num: 1, Den: 2}
	c := config(1, 40)
	mustHold(t, loaded(t, c, nil, []api.Pair{}, 0, 0, 0), modelOf(c))
	for _, x := range [][2]int64{{1, 1}, {-1, 0}, {0, 1}, {-1, 1}, {1, 0}, {0, -1}, {least, greatest}, {greatest, least}, {-1, -1}} {
		mustNotLoad(t, c, nil, nil, 0, x[0], x[1])
	}
	hundred := []api.Pair{{Index: 48, Count: 3}}
	for _, x := range [][2]int64{{101, 100}, {1, 0}, {0, -1}, {greatest, least}, {greatest, greatest - 1}, {least + 1, least}} {
		mustNotLoad(t, c, nil, hundred, 0, x[0], x[1])
		mustNotLoad(t, c, hundred, nil, 0, x[0], x[1])
		mustNotLoad(t, c, nil, nil, 1, x[0], x[1])
	}
	for _, x := range []struct {
		low, high, want int64
	}{{60, 70, 65}, {66, 70, 66}, {60, 64, 64}, {80, 80, 80}, {least, greatest, 65}, {0, 0, 0}, {-5, -1, -1}, {least, least, least}, {greatest, greatest, greatest}} {
		s := loaded(t, c, nil, hundred, 0, x.low, x.high)
		mustEnd(t, s, x.low, x.high, true)
		mustAsk(t, s, half, x.want, api.OK)
		mustPut(t, s, often{40, 1}, often{-40, 1})
		mustEnd(t, s, min(x.low, -40), max(x.high, 40), true)
		// Beyond the limit nothing comes, not from itself either.
		if x.low < -40 || x.high > 40 {
			if err := s.Join(s); err != api.ErrRange || s.Total() != 5 {
				t.Errorf("Join into itself: %d, %d", err, s.Total())
			}
		}
	}
}

// P15.1: above 0 the greatest value stands for the last span, below 0 the least one.
func TestLoadLast(t *testing.T) {
	last := []api.Pair{{Index: 960, Count: 1}}
	half := api.Ratio{Num: 1, Den: 2}
	mustAsk(t, loaded(t, config(1, 0), nil, last, 0, least, greatest), half, greatest, api.OK)
	mustAsk(t, loaded(t, config(1, 0), last, nil, 0, least, greatest), half, least, api.OK)
	s := loaded(t, config(1, 0), last, last, 1, least, greatest)
	mustRank(t, s, least, 0, 1)
	mustRank(t, s, -greatest, 1, 1)
	mustRank(t, s, 0, 2, 2)
	mustRank(t, s, greatest, 2, 2)
}

// P15.1: rows that are handed in aren't changed, nor kept.
func TestLoadApart(t *testing.T) {
	c := config(2, 0)
	room := []api.Pair{{Index: 5, Count: 1}, {Index: 9, Count: 2}, {Index: 77, Count: 7}}
	minus, plus := slices.Clone(room)[:2], slices.Clone(room)[:2]
	s := loaded(t, c, minus, plus, 0, -9, 9)
	m := modelOfRows(c, minus, plus, 0)
	for _, o := range []often{{5, 1}, {-5, 2}, {12, 1}, {-12, 1}, {1, 1}, {-1, 1}} {
		mustPut(t, s, o)
		m.put(o.x, o.n)
	}
	if !slices.Equal(minus[:3], room) || !slices.Equal(plus[:3], room) {
		t.Errorf("rows that were handed in: %v, %v", minus[:3], plus[:3])
	}
	clear(minus)
	clear(plus)
	mustHold(t, s, m)
	mustPut(t, s, often{1, 1})
	if !slices.Equal(minus, make([]api.Pair, 2)) || !slices.Equal(plus, make([]api.Pair, 2)) {
		t.Errorf("rows that were handed in: %v, %v", minus, plus)
	}
}
