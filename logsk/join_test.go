package logsk_test

import (
	"math/rand"
	"slices"
	"testing"

	"ogive/api"
	"ogive/bins"
	"ogive/logsk"
)

// mustJoin tells, if one doesn't have all of another one behind Join, or that one isn't as it was.
func mustJoin(t *testing.T, s, o *logsk.Sketch, m, om *model) {
	t.Helper()
	want := m.join(om)
	if err := s.Join(o); err != want {
		t.Fatalf("Join: %d, not %d", err, want)
	}
	mustHold(t, s, m)
	mustHold(t, o, om)
}

// P14.1, P14.2: what was put to many, joined by any tree, is as if all were put to one; those that were joined stay.
func TestJoinTree(t *testing.T) {
	random := rand.New(rand.NewSource(141))
	for _, c := range configs() {
		for range 6 {
			all := modelOf(t, c)
			var nodes []*logsk.Sketch
			var models []*model
			for range 1 + random.Intn(6) {
				s, m := made(t, c), modelOf(t, c)
				for range random.Intn(8) {
					o := often{value(random), 1 + random.Uint64()>>9}
					mustPut(t, s, o)
					m.put(o.x, o.n)
					all.put(o.x, o.n)
				}
				nodes, models = append(nodes, s), append(models, m)
			}
			for len(nodes) > 1 {
				random.Shuffle(len(nodes), func(i, j int) {
					nodes[i], nodes[j] = nodes[j], nodes[i]
					models[i], models[j] = models[j], models[i]
				})
				mustJoin(t, nodes[0], nodes[1], models[0], models[1])
				nodes, models = slices.Delete(nodes, 1, 2), slices.Delete(models, 1, 2)
			}
			mustHold(t, nodes[0], all)
		}
	}
}

// P14.1: both ways round, of empty ones too: the ends are those of both; a nought is an end like others.
func TestJoinEnds(t *testing.T) {
	lists := [][]often{nil, {{0, 2}}, {{4, 1}}, {{-4, 1}}, {{4, 1}, {9, 2}}, {{-4, 1}, {-9, 2}}, {{-4, 1}, {0, 2}, {9, 4}}, {{least, 1}}, {{greatest, 1}}, {{1, 1}, {1000000, 1}}}
	for _, side := range []bins.Side{bins.Great, bins.Small} {
		for _, most := range []int{1, limit} {
			c := config(1, 10, side, most)
			for _, a := range lists {
				for _, b := range lists {
					mustJoin(t, filled(t, c, a...), filled(t, c, b...), modelOf(t, c, a...), modelOf(t, c, b...))
				}
			}
		}
	}
}

// P14.1: one joined into itself has all twice, if there is room.
func TestJoinItself(t *testing.T) {
	for _, c := range configs() {
		for _, list := range [][]often{nil, {{0, 7}}, {{5, 1}, {-900, 2}}, {{-5, 1 << 60}, {0, 1 << 60}, {5, 1 << 60}, {9, 1<<60 - 1}}, {{least, 1 << 61}, {greatest, 1 << 61}}} {
			s, m := filled(t, c, list...), modelOf(t, c, list...)
			mustJoin(t, s, s, m, m)
		}
	}
}

// P14.1: two know nothing of one another behind a Join.
func TestJoinApart(t *testing.T) {
	c := config(1, 10, bins.Great, 3)
	s, o := filled(t, c, often{5, 1}), filled(t, c, often{-7, 2}, often{9, 1})
	m, om := modelOf(t, c, often{5, 1}), modelOf(t, c, often{-7, 2}, often{9, 1})
	mustJoin(t, s, o, m, om)
	mustPut(t, o, often{greatest, 3})
	om.put(greatest, 3)
	mustHold(t, s, m)
	mustHold(t, o, om)
	mustPut(t, s, often{least, 3})
	m.put(least, 3)
	mustHold(t, o, om)
	o.Reset()
	mustHold(t, s, m)
}

// P14.1: of another config, also of the same closeness by other numbers, it is ErrMatch, ahead of ErrFull; nothing changes.
func TestJoinMatch(t *testing.T) {
	list := []logsk.Config{
		config(1, 10, bins.Great, 5), config(2, 20, bins.Great, 5), config(1, 11, bins.Great, 5), config(2, 10, bins.Great, 5),
		config(1, 10, bins.Small, 5), config(1, 10, bins.Great, 6), config(1, 10, bins.Great, 4),
	}
	for i, c := range list {
		for j, other := range list {
			for _, n := range []uint64{1, count} {
				s, m := filled(t, c, often{5, n}), modelOf(t, c, often{5, n})
				o, om := filled(t, other, often{-7, n}), modelOf(t, other, often{-7, n})
				if err := m.join(om); i != j && err != api.ErrMatch || i == j && err == api.ErrMatch {
					t.Fatalf("%v and %v: %d", c, other, err)
				}
				m = modelOf(t, c, often{5, n})
				mustJoin(t, s, o, m, om)
			}
			mustJoin(t, made(t, c), made(t, other), modelOf(t, c), modelOf(t, other))
		}
	}
}

// P14.1: together they are at most MaxCount: 1 more is ErrFull, and nothing changes.
func TestJoinTooMany(t *testing.T) {
	for _, side := range []bins.Side{bins.Great, bins.Small} {
		c := config(1, 10, side, 2)
		for _, x := range [][2]often{
			{{5, count}, {-9, 1}}, {{5, count - 1}, {1000, 1}}, {{5, count - 1}, {-1000, 2}}, {{0, count}, {0, count}},
			{{-7, 1 << 62}, {3, 1 << 62}}, {{-7, 1 << 62}, {3, 1<<62 - 1}}, {{-7, 1}, {least, count}}, {{0, 1}, {greatest, count - 1}},
		} {
			mustJoin(t, filled(t, c, x[0]), filled(t, c, x[1]), modelOf(t, c, x[0]), modelOf(t, c, x[1]))
			mustJoin(t, filled(t, c, x[1]), filled(t, c, x[0]), modelOf(t, c, x[1]), modelOf(t, c, x[0]))
		}
	}
}

// mustSet tells, if Set doesn't answer whether these ends can be.
func mustSet(t *testing.T, s *logsk.Sketch, low, high int64, want bool) {
	t.Helper()
	if ok := s.Set(low, high); ok != want {
		t.Fatalf("Set of %d, %d: %t, not %t", low, high, ok, want)
	}
}

// P14.1: while there are no values, only noughts can be set, and still there are no ends.
func TestSetEmpty(t *testing.T) {
	c := config(1, 10, bins.Great, 5)
	old := filled(t, c, often{5, 1}, often{-3, 1})
	old.Reset()
	for _, s := range []*logsk.Sketch{made(t, c), old} {
		for _, x := range [][2]int64{{1, 1}, {-1, 0}, {0, 1}, {-1, 1}, {1, 0}, {0, -1}, {-3, 5}, {least, greatest}, {greatest, least}, {-1, -1}} {
			mustSet(t, s, x[0], x[1], false)
			mustHold(t, s, modelOf(t, c))
		}
		mustSet(t, s, 0, 0, true)
		mustHold(t, s, modelOf(t, c))
		// Noughts that were set are no values: the first one is least and greatest.
		mustPut(t, s, often{5, 1})
		mustHold(t, s, modelOf(t, c, often{5, 1}))
	}
}

// P14.1: while there are values, all ends can be set of which the least isn't above the greatest; these are told, grow with what comes, and cut what is answered.
func TestSet(t *testing.T) {
	half := api.Ratio{Num: 1, Den: 2}
	s := filled(t, config(1, 10, bins.Great, limit), often{100, 3})
	for _, x := range [][2]int64{{101, 100}, {1, 0}, {0, -1}, {greatest, least}, {greatest, greatest - 1}} {
		mustSet(t, s, x[0], x[1], false)
		mustEnd(t, s, 100, 100, true)
		mustAsk(t, s, half, 100, api.OK)
	}
	for _, x := range []struct {
		low, high, want int64
	}{{90, 110, 92}, {95, 110, 95}, {80, 91, 91}, {80, 80, 80}, {least, greatest, 92}, {0, 0, 0}, {-5, -1, -1}, {least, least, least}, {greatest, greatest, greatest}} {
		mustSet(t, s, x.low, x.high, true)
		mustEnd(t, s, x.low, x.high, true)
		mustAsk(t, s, half, x.want, api.OK)
	}
	mustSet(t, s, 95, 105, true)
	mustPut(t, s, often{99, 1})
	mustEnd(t, s, 95, 105, true)
	mustPut(t, s, often{94, 1})
	mustEnd(t, s, 94, 105, true)
	mustPut(t, s, often{106, 1})
	mustEnd(t, s, 94, 106, true)
	s.Reset()
	mustEnd(t, s, 0, 0, false)
}

// P14.1: bins that are loaded, with the ends set behind it, make a sketch that answers all that comes as the one they came from.
func TestSetLoaded(t *testing.T) {
	random := rand.New(rand.NewSource(143))
	for _, c := range configs() {
		for range 4 {
			s, m, more := made(t, c), modelOf(t, c), modelOf(t, c)
			// What it had ahead of the load is gone.
			again := filled(t, c, often{value(random), 1}, often{value(random), 2})
			for range random.Intn(12) {
				o := often{value(random), 1 + random.Uint64()>>9}
				mustPut(t, s, o)
				m.put(o.x, o.n)
				more.put(o.x, o.n)
			}
			mustCopy(t, again, s)
			mustHold(t, again, m)
			o := often{value(random), 5}
			mustPut(t, again, o)
			more.put(o.x, o.n)
			mustHold(t, again, more)
			mustJoin(t, again, s, more, m)
			mustJoin(t, s, again, m, more)
		}
	}
}

// mustCopy loads all of one sketch into another one of its config.
func mustCopy(t *testing.T, to, from *logsk.Sketch) {
	t.Helper()
	below, above := from.Bins().Rows()
	lost, lostAbove := from.Bins().Lost()
	if err := to.Bins().Load([2][]api.Pair{below, above}, [2]uint64{lost, lostAbove}, from.Bins().Zero()); err != api.OK {
		t.Fatalf("Load: %d", err)
	}
	low, high, _ := from.Ends()
	mustSet(t, to, low, high, true)
}
