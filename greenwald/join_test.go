package greenwald_test

import (
	"math/rand"
	"slices"
	"testing"

	"ogive/api"
	"ogive/greenwald"
	"ogive/tuples"
)

// mustJoin tells, if one doesn't have all of another one behind Join, or that one isn't as it was.
func mustJoin(t *testing.T, s, o *greenwald.Sketch, m, om *model) api.Errno {
	t.Helper()
	want := m.join(om)
	if err := s.Join(o); err != want {
		t.Fatalf("Join: %d, not %d", err, want)
	}
	mustTell(t, s, m)
	mustTell(t, o, om)
	return want
}

// P19.1: by hand: what waits on either side is flushed for it, of the other one it goes on waiting.
func TestJoinByHand(t *testing.T) {
	a := of(1, 4)
	s, o := filled(t, a, often{5, 1}, often{1, 1}, often{9, 1}), filled(t, a, often{7, 1}, often{5, 1})
	if err := s.Join(o); err != api.OK || s.Total() != 5 || o.Total() != 2 {
		t.Errorf("%d, %d values, %d", err, s.Total(), o.Total())
	}
	// Of 5 values, step and slack may be 2 together: 7 goes into 9, and one 5 into the other one.
	row, waits := s.Row()
	want := steps{{1, 1, 0}, {5, 2, 0}, {9, 2, 0}}.row()
	if !slices.Equal(row, want) || len(waits) != 0 {
		t.Errorf("%v, %v, not %v", row, waits, want)
	}
	row, waits = o.Row()
	if len(row) != 0 || !slices.Equal(waits, []int64{7, 5}) {
		t.Errorf("the other one: %v, %v", row, waits)
	}
	// Of the same values those of the one that is joined to stand ahead.
	x, y := loaded(t, of(1, 8), steps{{1, 1, 0}, {4, 1, 0}, {4, 1, 0}}.row(), nil), loaded(t, of(1, 8), steps{{4, 1, 0}, {6, 1, 0}}.row(), nil)
	if err := x.Join(y); err != api.OK {
		t.Errorf("%d", err)
	}
	if row, _ := x.Row(); !slices.Equal(row, steps{{1, 1, 0}, {4, 1, 0}, {4, 1, 0}, {4, 1, 0}, {6, 1, 0}}.row()) {
		t.Errorf("%v", row)
	}
}

// P19.1, P19.2: what was put to many, joined by any tree, with what waits on both sides.
func TestJoinTree(t *testing.T) {
	random := rand.New(rand.NewSource(196))
	for _, a := range closes() {
		for range 8 {
			var sketches []*greenwald.Sketch
			var models []*model
			for range 1 + random.Intn(5) {
				s, m := made(t, a), modelOf(a)
				for range random.Intn(20) {
					o := often{value(random), 1 + uint64(random.Intn(1<<random.Intn(4)))}
					mustPut(t, s, o)
					m.put(o.x, o.n)
				}
				sketches, models = append(sketches, s), append(models, m)
			}
			for len(sketches) > 1 {
				random.Shuffle(len(sketches), func(i, j int) {
					sketches[i], sketches[j] = sketches[j], sketches[i]
					models[i], models[j] = models[j], models[i]
				})
				mustJoin(t, sketches[0], sketches[1], models[0], models[1])
				mustHold(t, sketches[0], models[0])
				sketches, models = slices.Delete(sketches, 1, 2), slices.Delete(models, 1, 2)
			}
		}
	}
}

// P19.1: both ways round, also of empty ones, and of each into itself: it is flushed, even if nothing comes.
func TestJoinEnds(t *testing.T) {
	lists := [][]often{nil, {{0, 2}}, {{4, 1}}, {{7, 16}}, {{4, 1}, {5, 20}}, {{6, 1}, {1, 2}}, {{0, 15}, {7, 2}, {-3, 14}}, {{9, 100}, {1, 9}}}
	for _, a := range []api.Ratio{of(1, 2), of(1, 6), of(1, 100)} {
		for _, x := range lists {
			for _, y := range lists {
				s, m, o, om := filled(t, a, x...), modelOf(a, x...), filled(t, a, y...), modelOf(a, y...)
				mustJoin(t, s, o, m, om)
				mustHold(t, s, m)
				if _, waits := s.Row(); len(waits) != 0 {
					t.Fatalf("%v and %v: %v wait", x, y, waits)
				}
			}
			s, m := filled(t, a, x...), modelOf(a, x...)
			mustJoin(t, s, s, m, m)
			mustHold(t, s, m)
		}
	}
}

// P19.1: a row that was loaded with more tuples than must be is squeezed by Join, also if nothing comes; by Flush it isn't, if nothing waits.
func TestJoinSqueeze(t *testing.T) {
	random := rand.New(rand.NewSource(197))
	for range 3000 {
		a := of(1, uint64(2+random.Intn(12)))
		s, m := anyLoaded(t, random, a)
		o, om := anyLoaded(t, random, a)
		mustFlush(t, again(t, s), m.same())
		empty := again(t, s)
		mustJoin(t, empty, made(t, a), m.same(), modelOfRow(a, nil, nil))
		mustJoin(t, s, o, m, om)
	}
	row := steps{{1, 1, 0}, {2, 1, 0}, {3, 1, 0}, {4, 1, 0}}.row()
	s := loaded(t, of(1, 4), row, nil)
	s.Flush()
	if got, _ := s.Row(); !slices.Equal(got, row) {
		t.Errorf("flushed: %v", got)
	}
	if x, err := s.Quantile(of(1, 2)); x != 2 || err != api.OK {
		t.Errorf("a half: %d, %d", x, err)
	}
	if err := s.Join(made(t, of(1, 4))); err != api.OK {
		t.Errorf("%d", err)
	}
	if got, _ := s.Row(); !slices.Equal(got, steps{{1, 1, 0}, {2, 1, 0}, {4, 2, 0}}.row()) {
		t.Errorf("joined: %v", got)
	}
}

// anyLoaded is a sketch of some row, and of some values that wait, that can be.
func anyLoaded(t *testing.T, random *rand.Rand, a api.Ratio) (*greenwald.Sketch, *model) {
	t.Helper()
	row := anyRow(random, a)
	waits := make([]int64, random.Intn(16))
	for i := range waits {
		waits[i] = int64(random.Intn(12))
	}
	return loaded(t, a, row, waits), modelOfRow(a, row, waits)
}

// anyRow is a row that can be, with steps and slacks that a closeness lets.
func anyRow(random *rand.Rand, a api.Ratio) []tuples.Tuple {
	row := make([]tuples.Tuple, random.Intn(12))
	n := uint64(0)
	for i := range row {
		row[i] = tuples.Tuple{X: int64(random.Intn(12)), Step: 1 + uint64(random.Intn(3)*min(i, 1))}
		n += row[i].Step
	}
	slices.SortFunc(row, func(s, t tuples.Tuple) int { return int(s.X - t.X) })
	limit, place := tuples.Limit(a, n), uint64(0)
	for i := range row {
		if i == 0 || row[i].Step > limit {
			n += 1 - row[i].Step
			row[i].Step = 1
		}
	}
	limit = tuples.Limit(a, n)
	for i := range row {
		// Fewer values may have made the limit less.
		if row[i].Step > limit {
			return nil
		}
		place += row[i].Step
		if most := min(limit-row[i].Step, n-place); i > 0 && most > 0 {
			row[i].Slack = uint64(random.Intn(int(most) + 1))
		}
	}
	return row
}

// P19.1: another closeness is ErrMatch, of the same worth too, also of one without values, and ahead of ErrFull; nothing changes.
func TestJoinMatch(t *testing.T) {
	full := steps{{1, 1, 0}, {2, 1 << 62, 0}, {3, 1<<62 - 3, 0}}.row()
	for _, a := range closes() {
		for _, b := range append(closes(), of(2, 4), of(1, 11), of(2, 10), of(10, 100)) {
			s, m := filled(t, a, often{1, 19}), modelOf(a, often{1, 19})
			for _, list := range [][]often{nil, {{3, 18}}} {
				o, om := filled(t, b, list...), modelOf(b, list...)
				if err := mustJoin(t, s, o, m, om); (a != b) != (err == api.ErrMatch) {
					t.Fatalf("%v and %v: %d", a, b, err)
				}
			}
		}
	}
	s, m := loaded(t, of(1, 2), full, []int64{7}), modelOfRow(of(1, 2), full, []int64{7})
	o, om := loaded(t, of(2, 4), full, []int64{6}), modelOfRow(of(2, 4), full, []int64{6})
	if err := mustJoin(t, s, o, m, om); err != api.ErrMatch {
		t.Errorf("%d", err)
	}
}

// P19.1: together they are at most MaxCount, those that wait too: 1 more is ErrFull, and nothing changes, nor is anything flushed.
func TestJoinTooMany(t *testing.T) {
	a := of(1, 2)
	row := func(n uint64) []tuples.Tuple {
		if n == 1 {
			return steps{{1, 1, 0}}.row()
		}
		return steps{{1, 1, 0}, {4, n - 1, 0}}.row()
	}
	for _, x := range []struct {
		n    uint64
		wait int
		o    uint64
		more int
		full bool
	}{
		{count, 0, 1, 0, true}, {count - 1, 0, 1, 0, false}, {count - 1, 1, 1, 0, true}, {count - 3, 1, 1, 1, false}, {count - 3, 2, 1, 1, true}, {count - 3, 1, 1, 2, true}, {count - 3, 1, 2, 1, true},
		{1 << 62, 0, 1<<62 - 1, 0, false}, {1 << 62, 0, 1 << 62, 0, true}, {1<<62 - 1, 1, 1<<62 - 1, 1, true}, {1<<62 - 8, 7, 1<<62 - 8, 8, false}, {1<<62 - 8, 8, 1<<62 - 8, 8, true}, {count, 0, count, 0, true}, {count - 15, 15, count - 15, 15, true},
	} {
		waits, more := slices.Repeat([]int64{8, 3}, 8)[:x.wait], slices.Repeat([]int64{-1, 9}, 8)[:x.more]
		for _, turned := range []bool{false, true} {
			s, m := loaded(t, a, row(x.n), waits), modelOfRow(a, row(x.n), waits)
			o, om := loaded(t, a, row(x.o), more), modelOfRow(a, row(x.o), more)
			if turned {
				s, m, o, om = o, om, s, m
			}
			if err := mustJoin(t, s, o, m, om); (err == api.ErrFull) != x.full {
				t.Fatalf("%v: %d", x, err)
			}
			mustHold(t, s, m)
			mustHold(t, o, om)
		}
	}
	for _, n := range []uint64{1<<62 - 5, 1<<62 - 4, 1 << 62, count - 4} {
		s, m := loaded(t, a, row(n), []int64{5, 4, 6, 4}), modelOfRow(a, row(n), []int64{5, 4, 6, 4})
		mustJoin(t, s, s, m, m)
		mustHold(t, s, m)
	}
}

// P19.1: two know nothing of one another behind a Join, whichever goes on.
func TestJoinApart(t *testing.T) {
	for _, a := range []api.Ratio{of(1, 2), of(1, 5), of(1, 100)} {
		for _, first := range [][]often{nil, {{5, 1}}, {{7, 16}}, {{7, 1}, {3, 30}}} {
			for _, second := range [][]often{nil, {{2, 3}}, {{4, 32}}, {{7, 2}, {2, 1}, {0, 20}}} {
				s, o := filled(t, a, first...), filled(t, a, second...)
				m, om := modelOf(a, first...), modelOf(a, second...)
				mustJoin(t, s, o, m, om)
				for _, x := range []often{{6, 3}, {7, 20}, {0, 5}, {1, 1}} {
					mustPut(t, o, x)
					om.put(x.x, x.n)
					mustTell(t, s, m)
				}
				mustHold(t, o, om)
				for _, x := range []often{{4, 3}, {2, 17}, {7, 6}, {0, 9}} {
					mustPut(t, s, x)
					m.put(x.x, x.n)
					mustTell(t, o, om)
				}
				mustAsk(t, s, m)
				mustHold(t, o, om)
			}
		}
	}
}
